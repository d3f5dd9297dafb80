/-
  Layer 5 (axis): Normal of the document's own.
-/
import Derived.Test.YtmlkdfieakihlaaAxRu
import Derived.Deep.AppendLies
import Derived.Deep.RegionHeldLaw
namespace Go.Proofs.Ytmlkdfieakihlaa.Ax
open Go.RowKit
theorem grO (w : World) (row : Option Nat) : w.grownBy w row := ⟨rfl, rfl, rfl, Nat.le_refl _, fun _ _ _ => rfl⟩
theorem gaO {a w : World} {row : Option Nat} (h : a.grownBy w row) (o : Obj) : a.grownBy (w.alloc o) row := gt h (ba (Below.refl _ _) _)
theorem own_b {w w' : World} {B : Nat} {e : TypeId} {sz : Nat} {v : Value} {n : Nat} {xs : List Value} (h : w.ownsRow B e sz v n xs) (hb : Below w.heap.size w w') : w'.ownsRow B e sz v n xs :=
  h.kept (row := none) ⟨hb.os, hb.tape, hb.output, hb.size, fun i hi _ => hb.block i hi⟩ (by rcases v.ownBlock with _ | g; exact .inl rfl; exact .inr (fun e => by cases e))
theorem one_new (W : World) (v : Value) (T : TypeId) : ∀ j u, [v][j]? = some u → (W.alloc (.cells #[v] T)).cell? ((⟨W.heap.size, 0, none⟩ : Addr).add j) = some u := by
  intro j u hj
  match j, hj with
  | 0, hj =>
    simp at hj; subst hj
    simp [Addr.add]
set_option maxRecDepth 100000 in
set_option maxHeartbeats 1000000 in
theorem rNormal_bad (a : Option Addr) (n c : Nat) (g : Nat → Axs) (pa : Option Addr) (m d : Nat) (hs : ∀ i, i < n → (g i).t.size ≤ 9223372036854775807) (w : World) (hA : AA w a n g) (hE : ¬ nmE g n m = 0) :
    Calls Try.prog 12 #[.slice a n c, .slice pa m d] w fun e w' => e = .returned (.tuple #[.slice none 0 0, .int .i64 (nmE g n m)]) ∧ Below w.heap.size w w' := by
  have CK := Lib.hid (rCheck_any a n c g hs w hA)
  unfold nmE at *
  by_cases hz : ckL g n = 0
  · rw [if_pos hz] at hE ⊢
    rw [hz] at CK
    by_cases hm : m = n
    · rw [if_pos hm] at hE; exact absurd rfl hE
    · rw [if_neg hm]
      have q : ((m : Int) == (n : Int)) = false := beq_eq_false_iff_ne.2 (by omega)
      go_enter Try.func12, Try.ntmps12
      go_wp2_with fail
      refine CK.out.mono ?_
      rintro e V1 ⟨rfl, hB1⟩
      go_wp2
      go_ret2
      exact ⟨rfl, hB1⟩
  · rw [if_neg hz]
    have q : (ckL g n == 0) = false := beq_eq_false_iff_ne.2 hz
    clear hE
    generalize ckL g n = z at *
    go_enter Try.func12, Try.ntmps12
    go_wp2_with fail
    refine CK.out.mono ?_
    rintro e V1 ⟨rfl, hB1⟩
    go_wp2
    go_ret2
    exact ⟨rfl, hB1⟩
def RnRel (w : World) (f : Nat → Int) (n : Nat) (s7 s8 : Value) (V : World) : Prop :=
  ∃ (k : Nat) (xs : List Value), s8 = .int .i64 k ∧ k ≤ n ∧ V.ownsRow w.heap.size 3 1 s7 k xs ∧ (∀ i, i < k → xs[i]? = some (.int .i64 (f i))) ∧ Below w.heap.size w V
theorem rn_next {w V : World} {f : Nat → Int} {n k : Nat} {v : Value} {xs : List Value} (hk : k < n) (hl : xs.length = k) (hx : ∀ i, i < k → xs[i]? = some (.int .i64 (f i))) (ho : V.ownsRow w.heap.size 3 1 v (k + 1) (xs ++ [.int .i64 (f k)])) (hB : Below w.heap.size w V) : RnRel w f n v (.int .i64 ((k : Int) + 1)) V :=
  ⟨k + 1, _, rfl, by omega, ho, fun i hi => by
    by_cases e : i = k
    · subst e
      rw [List.getElem?_append_right (by omega), hl, Nat.sub_self]; rfl
    · rw [List.getElem?_append_left (by omega)]; exact hx i (by omega), hB⟩
theorem own_la {V : World} {B : Nat} {T : TypeId} {v : Value} {k : Nat} {xs : List Value} {f : Nat → Int} (h : V.ownsRow B T 1 v k xs) (hx : ∀ i, i < k → xs[i]? = some (.int .i64 (f i))) :
    ∃ (a : Option Addr) (c : Nat), v = .slice a k c ∧ LA V a k f := by
  rcases h.2 with ⟨rfl, rfl⟩ | ⟨b, cap, cur, rfl, hb, hh, hkc, hcm, _⟩
  · exact ⟨none, 0, rfl, fun i hi => absurd hi (by omega)⟩
  · refine ⟨some ⟨b, 0, none⟩, cap, rfl, fun i hi => ⟨b, 0, rfl, ?_⟩⟩
    rw [Nat.zero_add, h.cellAt _ (by omega)]
    exact hx i hi
theorem far {V V' : World} {row : Option Nat} {b o S : Nat} {v : Value} (hg : V.grownBy V' row) (hr : ∀ r, row = some r → S ≤ r) (hb : b < S) (hc : V.cell? ⟨b, o, none⟩ = some v) : V'.cell? ⟨b, o, none⟩ = some v := by
  rw [hg.cell_far ⟨b, o, none⟩ (block_lt_of_cell hc) (fun e => by have := hr b e.symm; omega)]
  exact hc
set_option maxRecDepth 100000 in
set_option maxHeartbeats 8000000 in
theorem rNormal_ok (a : Option Addr) (n c : Nat) (g : Nat → Axs) (pa : Option Addr) (d : Nat) (p : Nat → Int) (hs : ∀ i, i < n → (g i).t.size ≤ 9223372036854775807) (w : World) (hA : AA w a n g) (hP : LA w pa n p) (hE : ckL g n = 0) :
    Calls Try.prog 12 #[.slice a n c, .slice pa n d] w fun e w' => ∃ (S : Option Addr) (cc : Nat), e = .returned (.tuple #[.slice S n cc, .int .i64 0]) ∧ LA w' S n (fun i => nm (g i) (p i)) ∧ Below w.heap.size w w' := by
  have CK := Lib.hid (rCheck_any a n c g hs w hA)
  obtain ⟨h3, hR⟩ := ckL_all hE
  rw [hE] at CK
  have HA := Lib.hid hA
  have HP := Lib.hid hP
  have HR := Lib.hid hR
  have KI := Lib.hid (info_parts infoI)
  clear hA hP hR hE hs
  go_enter Try.func12, Try.ntmps12
  go_wp2_with fail
  refine CK.out.mono ?_
  rintro e V1 ⟨rfl, hB1⟩
  go_wp2_with fail
  go_loopw [7, 8] (fun s7 s8 V => RnRel w (fun i => nm (g i) (p i)) n s7 s8 V) (fun _ v _ => n - (intOf v).toNat)
  case atStart => exact ⟨0, [], rfl, by omega, ⟨by simp, .inl ⟨rfl, rfl⟩⟩, fun i hi => absurd hi (by omega), hB1⟩
  case round =>
    clear hB1
    obtain ⟨k, xs, rfl, hle, hO, hx, hB⟩ := hrel
    rename World => V
    rcases Nat.lt_or_ge k n with hk | hk
    · obtain ⟨b, o, rfl, x0, x1, x2, x3⟩ := aa_below HA.out hB k hk
      obtain ⟨pb, po, rfl, hp⟩ := la_below HP.out hB k hk
      have hN := Lib.hid (fun w => rnormal_any (g k) (p k) (HR.out k hk) w)
      have hb : b < w.heap.size := by
        obtain ⟨b', o', e, hc, _⟩ := HA.out k hk
        cases e
        exact block_lt_of_cell hc
      have hpb : pb < w.heap.size := by
        obtain ⟨b', o', e, hc⟩ := HP.out k hk
        cases e
        exact block_lt_of_cell hc
      have hr : ∀ r, u7.ownBlock = some r → w.heap.size ≤ r := fun r e => (hO.lt r e).1
      have hlen : xs.length = k := by have := hO.1; omega
      have hR : Hid (∀ v' V' W, V'.ownsRow w.heap.size 3 1 v' (k + 1) (xs ++ [.int .i64 (nm (g k) (p k))]) → V.grownBy W u7.ownBlock → W.grownBy V' u7.ownBlock → RnRel w (fun i => nm (g i) (p i)) n v' (.int .i64 ((k : Int) + 1)) V') := Lib.hid (fun v' V' W h1 h2 h3 => rn_next hk hlen hx h1 (by
        have h4 := h2.trans h3
        exact ⟨h4.os.trans hB.os, h4.tape.trans hB.tape, h4.output.trans hB.output, Nat.le_trans hB.size h4.size, fun i hi => (h4.block i (Nat.lt_of_lt_of_le hi hB.size) (fun e => by have := hr i e.symm; omega)).trans (hB.block i hi)⟩))
      have k2 : (0 : Int) ≤ (k : Int) := by omega
      have k3 : (k : Int) < (n : Int) := by omega
      have hkn : k + 1 ≤ 3 := by omega
      unfold axV at hN
      generalize nm (g k) (p k) = r at *
      generalize g k = x at *
      generalize p k = y at *
      have X0 : ∀ V', V.grownBy V' u7.ownBlock → V'.cell? ⟨b, o + k * 4, none⟩ = some (.string x.t) := fun _ h => far h hr hb x0
      have X1 : ∀ V', V.grownBy V' u7.ownBlock → V'.cell? ⟨b, o + k * 4 + 1, none⟩ = some (.int .i64 x.l) := fun _ h => far h hr hb x1
      have X2 : ∀ V', V.grownBy V' u7.ownBlock → V'.cell? ⟨b, o + k * 4 + 2, none⟩ = some (.int .i64 x.u) := fun _ h => far h hr hb x2
      have X3 : ∀ V', V.grownBy V' u7.ownBlock → V'.cell? ⟨b, o + k * 4 + 3, none⟩ = some (.int .i64 x.h) := fun _ h => far h hr hb x3
      have X4 : ∀ V', V.grownBy V' u7.ownBlock → V'.cell? ⟨pb, po + k, none⟩ = some (.int .i64 y) := fun _ h => far h hr hpb hp
      obtain ⟨i0, ki1, ki2, ki3, ki4⟩ := KI.out
      clear x0 x1 x2 x3 hp hx
      go_upto_region 10 with (fail)
      go_region_held_law (fun w' => V.grownBy w' u7.ownBlock) (first
        | (with_reducible exact gd1 (grO _ _))
        | (with_reducible exact gt (by assumption) hba)
        | (with_reducible exact gaO (by assumption) _)
        | (with_reducible exact World.grownBy.trans (by assumption) hgrow9))
        (first
        | (refine step_append_lies _ (by rfl) _ _ 22 (by rfl) w.heap.size 3 i0 (.int .i64 0) 1 8 Try.underlying22 ki1 ki2 ki3 ki4 rfl (by decide) _ k _ (by rfl) ((own_b hO (bt (bd1 (Below.refl _ _)) hba)).alloc _) ⟨wa.heap.size, 0, none⟩ 1 1 [.int .i64 r] (by rfl) rfl (one_new wa _ _) (by intro u hu; simp at hu; subst hu; rfl) (by omega) (by unfold maxLen; omega) (by omega) (Nat.le_trans hB.size (Nat.le_trans hba.size (by simp))) _ (by rfl) ?_; intro g9 cap9 w9 hown9 hgrow9 hat9 hlt9)
        | ((with_reducible refine (hN.out _).mono ?_); rintro en wa ⟨rfl, hba⟩))
      have R9 := Lib.hid (hR.out _ _ _ hown9 (gaO (gt (gd1 (grO _ _)) hba) _) hgrow9)
      clear hR hO hB
      go_wp2_with fail
      exact ⟨R9.out, by simp [intOf]; omega⟩
    · obtain rfl : k = n := by omega
      obtain ⟨S, cc, rfl, hL⟩ := own_la hO hx
      clear hO hx
      go_wp2
      go_ret2
      exact ⟨S, cc, rfl, hL, hB⟩
end Go.Proofs.Ytmlkdfieakihlaa.Ax
