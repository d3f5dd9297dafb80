/-
  Layer 9 (machine): pointers to all points.
-/
import Derived.Test.YtdgagjcocohnnaaMcG
namespace Go.Proofs.Ytdgagjcocohnnaa.Mc
open Go.RowKit
open Go.Proofs.Ytdgagjcocohnnaa.Ot (Pt PtAt PO OO pre pre_mono oo_below)
theorem infoPP : (Try.prog.info? 86).map (fun i => (i.zero, i.size, i.bytes)) = some (some (.pointer none), 1, 8) := by kernel_rfl
theorem info_parts {T : TypeId} {z : Value} {s b : Nat} (h : (Try.prog.info? T).map (fun i => (i.zero, i.size, i.bytes)) = some (some z, s, b)) : ∃ i, Try.prog.info? T = some i ∧ i.zero = some z ∧ i.size = s ∧ i.bytes = b := by
  rcases hi : Try.prog.info? T with _ | i
  · rw [hi] at h; cases h
  · rw [hi] at h
    simp only [Option.map_some, Option.some.injEq, Prod.mk.injEq] at h
    exact ⟨i, rfl, h.1, h.2.1, h.2.2⟩
theorem own_v {w w' : World} {B : Nat} {e : TypeId} {sz : Nat} {v : Value} {n : Nat} {xs : List Value} (h : w.ownsRow B e sz v n xs) (hb : Below w.heap.size w w') : w'.ownsRow B e sz v n xs :=
  h.kept (row := none) ⟨hb.os, hb.tape, hb.output, hb.size, fun i hi _ => hb.block i hi⟩ (by rcases v.ownBlock with _ | g; exact .inl rfl; exact .inr (fun e => by cases e))
theorem gBo {w V V' : World} {r : Option Nat} (h1 : Below w.heap.size w V) (h2 : V.grownBy V' r) (hr : ∀ q, r = some q → w.heap.size ≤ q) : Below w.heap.size w V' :=
  ⟨h2.os.trans h1.os, h2.tape.trans h1.tape, h2.output.trans h1.output, Nat.le_trans h1.size h2.size, fun i hi => (h2.block i (Nat.lt_of_lt_of_le hi h1.size) (fun e => by have := hr i e.symm; omega)).trans (h1.block i hi)⟩
theorem gaO {a w : World} {r : Option Nat} (h : a.grownBy w r) (o : Obj) : a.grownBy (w.alloc o) r := gt h (ba (Below.refl _ _) o)
theorem grO (w : World) (r : Option Nat) : w.grownBy w r := ⟨rfl, rfl, rfl, Nat.le_refl _, fun _ _ _ => rfl⟩
theorem news_one (W : World) (v : Value) (T : TypeId) : ∀ j u, [v][j]? = some u → (W.alloc (.cells #[v] T)).cell? ((⟨W.heap.size, 0, none⟩ : Addr).add j) = some u := by
  intro j u hj
  match j, hj with
  | 0, hj => simp at hj; subst hj; simp [Addr.add]
/-- The pointers so far. -/
structure PR (w : World) (N J : Nat) (ns Bk : Nat → Nat) (v : Value) (V : World) : Prop where
  ow : ∃ xs, V.ownsRow w.heap.size 86 1 v J xs ∧ xs.length = J ∧ ∀ k i, k < N → i < ns k → pre ns k + i < J → xs[pre ns k + i]? = some (.pointer (some ⟨Bk k, i * 3, none⟩))
  be : Below w.heap.size w V
theorem pr_next {w V' : World} {N J k i : Nat} {ns Bk : Nat → Nat} {v' : Value} {xs : List Value} (hx : ∀ k i, k < N → i < ns k → pre ns k + i < J → xs[pre ns k + i]? = some (.pointer (some ⟨Bk k, i * 3, none⟩))) (hl : xs.length = J) (hi : i < ns k) (hJ : pre ns k + i = J)
    (h2 : V'.ownsRow w.heap.size 86 1 v' (J + 1) (xs ++ [.pointer (some ⟨Bk k, i * 3, none⟩)])) (hb : Below w.heap.size w V') : PR w N (J + 1) ns Bk v' V' :=
  ⟨⟨_, h2, by rw [List.length_append, hl]; rfl, fun k' i' hk' hi' h => by
    by_cases e : pre ns k' + i' = J
    · obtain ⟨rfl, rfl⟩ := pre_one hi' hi (e.trans hJ.symm)
      rw [List.getElem?_append_right (by omega), hl, show pre ns k' + i' - J = 0 by omega]
      rfl
    · rw [List.getElem?_append_left (by omega)]
      exact hx k' i' hk' hi' (by omega)⟩, hb⟩
def PoRel (w : World) (N : Nat) (ns Bk : Nat → Nat) (s3 s9 : Value) (V : World) : Prop := ∃ k : Nat, s9 = .int .i64 k ∧ k ≤ N ∧ PR w N (pre ns k) ns Bk s3 V
def PiRel (w : World) (N k : Nat) (ns Bk : Nat → Nat) (s3 s15 : Value) (V : World) : Prop := ∃ i : Nat, s15 = .int .i64 i ∧ i ≤ ns k ∧ PR w N (pre ns k + i) ns Bk s3 V
set_option maxRecDepth 100000 in
set_option maxHeartbeats 8000000 in
theorem pointsOf_any (n₀ S N : Nat) (ns Bk : Nat → Nat) (g : Nat → Nat → Pt) (hN : N ≤ 1000000) (hs : pre ns N ≤ 1000000) (w : World) (hO : OO w n₀ S N ns Bk g) :
    Calls Try.prog 27 #[.slice (some ⟨S, 0, none⟩) N N] w fun e w' => ∃ pa pc, e = .returned (.slice pa (pre ns N) pc) ∧ Below w.heap.size w w' ∧ ∀ k i, k < N → i < ns k → ∃ qa oa, pa = some ⟨qa, oa, none⟩ ∧ w'.cell? ⟨qa, oa + (pre ns k + i), none⟩ = some (.pointer (some ⟨Bk k, i * 3, none⟩)) ∧ w.heap.size ≤ qa := by
  have HO := Lib.hid hO
  obtain ⟨i0, ki1, ki2, ki3, ki4⟩ := info_parts infoPP
  have KI := Lib.hid (And.intro ki1 (And.intro ki2 (And.intro ki3 ki4)))
  clear hO ki1 ki2 ki3 ki4
  go_enter Try.func27, Try.ntmps27
  go_wp2_with fail
  go_loopw [3, 9] (fun s3 s9 V => PoRel w N ns Bk s3 s9 V) (fun _ s9 _ => N - (intOf s9).toNat)
  case atStart => exact ⟨0, rfl, Nat.zero_le _, ⟨[], World.ownsRow_nil _ _ _ _, rfl, fun k i _ _ h => absurd h (Nat.not_lt_zero _)⟩, Below.refl _ _⟩
  case round =>
    obtain ⟨k, rfl, hk, hP⟩ := hrel
    rename World => V
    have HP := Lib.hid hP
    clear hP
    rcases Nat.lt_or_ge k N with hkN | hkN
    · obtain ⟨a, c, e1, h1, h2, h3⟩ := HO.out.cell k hkN
      have hc := kc HP.out.be e1
      have hn := Lib.hid (show pre ns (k + 1) ≤ pre ns N from pre_mono ns hkN)
      have he : Hid (pre ns (k + 1) = pre ns k + ns k) := Lib.hid rfl
      have hns : ns k ≤ 1000000 := by have := hn.out; have := he.out; omega
      have R1 := Lib.hid (show PiRel w N k ns Bk _ (.int .i64 0) V from ⟨0, rfl, Nat.zero_le _, HP.out⟩)
      clear HP
      have HA := Lib.hid h3
      clear h3 e1
      go_wp2_with fail
      go_loopw [3, 15] (fun s3 s15 V => PiRel w N k ns Bk s3 s15 V) (fun _ s15 _ => ns k - (intOf s15).toNat)
      case atStart => exact R1.out
      case round =>
        obtain ⟨i, rfl, hi, hP⟩ := hrel
        rename World => V
        obtain ⟨⟨xs, hown, hxl, hxs⟩, hbe⟩ := hP
        rcases Nat.lt_or_ge i (ns k) with hin | hin
        · obtain rfl := HA.out (by omega)
          obtain ⟨J, hJ⟩ : ∃ J, pre ns k + i = J := ⟨_, rfl⟩
          rw [hJ] at hown hxl hxs
          have hJb : J + 1 ≤ 1000000 := by have := hn.out; have := he.out; omega
          have NW := news_one V (.pointer (some ⟨Bk k, i * 3, none⟩)) 86
          have hlow := own_v hown (ba (Below.refl _ V) (.cells #[.pointer (some ⟨Bk k, i * 3, none⟩)] 86))
          have hsz := hbe.size
          obtain ⟨ki1, ki2, ki3, ki4⟩ := KI.out
          have hR : Hid (∀ v' V', V'.ownsRow w.heap.size 86 1 v' (J + 1) (xs ++ [.pointer (some ⟨Bk k, i * 3, none⟩)]) → V.grownBy V' u3.ownBlock → PiRel w N k ns Bk v' (.int .i64 ((i : Int) + 1)) V') :=
            Lib.hid (fun v' V' h4 h5 => ⟨i + 1, rfl, hin, by rw [show pre ns k + (i + 1) = J + 1 by omega]; exact pr_next hxs hxl hin hJ h4 (gBo hbe h5 (fun q e => (hown.lt q e).1))⟩)
          clear hxs hown hJ R1
          go_wp2_with (at_builtin; refine wpList_append_lies _ rfl _ _ 67 rfl w.heap.size 86 i0 _ 1 8 Try.underlying67 ki1 ki2 ki3 ki4 rfl (by decide) _ J xs rfl hlow ⟨V.heap.size, 0, none⟩ 1 1 [.pointer (some ⟨Bk k, i * 3, none⟩)] rfl rfl NW (by intro u hu; simp at hu; subst hu; rfl) (Nat.succ_pos 0) (by unfold maxLen; omega) (by omega) (by rw [World.size_alloc]; omega) _ rfl ?_; intro s cap W2 hown2 hg2 hat2 hlt2)
          have R := Lib.hid (hR.out _ _ hown2 (World.grownBy.trans (gaO (grO _ _) _) hg2))
          clear hown2 hg2 hat2 hR hlow NW
          go_wp2_with fail
          exact ⟨R.out, by simp [intOf]; omega⟩
        · obtain rfl : i = ns k := by omega
          have R2 := Lib.hid (show PoRel w N ns Bk u3 (.int .i64 ((k : Int) + 1)) V from ⟨k + 1, rfl, hkN, ⟨xs, by rw [he.out]; exact hown, by rw [he.out]; exact hxl, by rw [he.out]; exact hxs⟩, hbe⟩)
          clear hown hxl hxs R1
          go_wp2_with fail
          exact ⟨R2.out, by simp [intOf]; omega⟩
    · obtain rfl : k = N := by omega
      have hfin : ∃ pa pc, u3 = .slice pa (pre ns k) pc ∧ ∀ j i, j < k → i < ns j → ∃ qa oa, pa = some ⟨qa, oa, none⟩ ∧ V.cell? ⟨qa, oa + (pre ns j + i), none⟩ = some (.pointer (some ⟨Bk j, i * 3, none⟩)) ∧ w.heap.size ≤ qa := by
        obtain ⟨⟨xs, hown, hxl, hxs⟩, hbe⟩ := HP.out
        have hown0 := hown
        rcases hown.2 with ⟨rfl, hz⟩ | ⟨b, cap, cur, rfl, hb, hh, hkc, hcm, _⟩
        · have hz0 : pre ns k = 0 := hz
          refine ⟨none, 0, by rw [hz0], fun j i hj hi => ?_⟩
          have := pre_mono ns (show j + 1 ≤ k from hj)
          rw [pre] at this
          omega
        · refine ⟨some ⟨b, 0, none⟩, cap, rfl, fun j i hj hi => ⟨b, 0, rfl, ?_, hb⟩⟩
          have hlt : pre ns j + i < pre ns k := by
            have := pre_mono ns (show j + 1 ≤ k from hj)
            rw [pre] at this
            omega
          rw [Nat.zero_add, hown0.cellAt _ (by rw [Nat.mul_one]; exact hlt)]
          exact hxs j i hj hi hlt
      obtain ⟨pa, pc, rfl, hpp⟩ := hfin
      have hbe := HP.out.be
      go_wp2_with fail
      go_ret
      exact ⟨_, _, rfl, hbe, hpp⟩
end Go.Proofs.Ytdgagjcocohnnaa.Mc
