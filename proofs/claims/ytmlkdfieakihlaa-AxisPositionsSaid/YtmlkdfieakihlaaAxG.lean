/-
  Layer 5 (axis): Normal of the program.
-/
import Derived.Test.YtmlkdfieakihlaaAxF
import Derived.Deep.MidRow
namespace Go.Proofs.Ytmlkdfieakihlaa.Ax
open Go.RowKit
theorem gr (w : World) (r : Nat) : w.grownBy w (some r) := ⟨rfl, rfl, rfl, Nat.le_refl _, fun _ _ _ => rfl⟩
theorem gd1 {a w : World} {r : Option Nat} (h : a.grownBy w r) : a.grownBy w.drew r := ⟨h.os, h.tape, h.output, h.size, h.block⟩
theorem gt {a w v : World} {r : Option Nat} (h : a.grownBy w r) (hb : Below w.heap.size w v) : a.grownBy v r :=
  ⟨hb.os.trans h.os, hb.tape.trans h.tape, hb.output.trans h.output, Nat.le_trans h.size hb.size, fun i hi hn => (hb.block i (Nat.lt_of_lt_of_le hi h.size)).trans (h.block i hi hn)⟩
theorem gs {a w : World} {r o : Nat} (h : a.grownBy w (some r)) (u : Value) : a.grownBy (w.setCell ⟨r, o, none⟩ u) (some r) :=
  ⟨h.os, h.tape, h.output, by simpa [World.setCell] using h.size, fun i hi hne => (Below.heap_setCell w _ u i (by rintro rfl; exact hne rfl)).trans (h.block i hi hne)⟩
theorem gc {a w : World} {r b o : Nat} {v : Value} (h : a.grownBy w (some r)) (hc : a.cell? ⟨b, o, none⟩ = some v) (hn : b ≠ r) : w.cell? ⟨b, o, none⟩ = some v :=
  h.cell hc (by simpa using hn)
theorem gB {w a v : World} {r : Nat} (h : Below w.heap.size w a) (g : a.grownBy v (some r)) (hr : w.heap.size ≤ r) : Below w.heap.size w v :=
  ⟨g.os.trans h.os, g.tape.trans h.tape, g.output.trans h.output, Nat.le_trans h.size g.size, fun i hi => (g.block i (Nat.lt_of_lt_of_le hi h.size) (fun e => by injection e; omega)).trans (h.block i hi)⟩
/-- Integers in a block of their own, which may be written. -/
def OI (w : World) (b n : Nat) (f : Nat → Int) : Prop := ∀ i, i < n → w.cell? ⟨b, i, none⟩ = some (.int .i64 (f i)) ∧ w.frozen? ⟨b, i, none⟩ = false
/-- Integers in memory. -/
def LA (w : World) (a : Option Addr) (n : Nat) (l : Nat → Int) : Prop :=
  ∀ i, i < n → ∃ b o, a = some ⟨b, o, none⟩ ∧ w.cell? ⟨b, o + i, none⟩ = some (.int .i64 (l i))
theorem la_below {w W : World} {a : Option Addr} {n : Nat} {l : Nat → Int} (h : LA w a n l) (hB : Below w.heap.size w W) : LA W a n l := fun i hi => by
  obtain ⟨b, o, e, hc⟩ := h i hi
  exact ⟨b, o, e, kc hB (block_lt_of_cell hc) hc⟩
theorem oi_la {w : World} {b n : Nat} {f : Nat → Int} (h : OI w b n f) : LA w (some ⟨b, 0, none⟩) n f := fun i hi => ⟨b, 0, rfl, by rw [Nat.zero_add]; exact (h i hi).1⟩
theorem oi_below {w W : World} {b n : Nat} {f : Nat → Int} (h : OI w b n f) (hB : Below w.heap.size w W) : OI W b n f := fun i hi =>
  ⟨kc hB (block_lt_of_cell (h i hi).1) (h i hi).1, kf hB (block_lt_of_cell (h i hi).1) (h i hi).2⟩
theorem oi_congr {w : World} {b n : Nat} {f g : Nat → Int} (h : OI w b n f) (e : ∀ i, i < n → f i = g i) : OI w b n g := fun i hi => by rw [← e i hi]; exact h i hi
theorem oi_set {w : World} {b n k : Nat} {f g : Nat → Int} {v : Int} (h : OI w b n f) (hk : k < n) (e : ∀ i, g i = if i = k then v else f i) : OI (w.setCell ⟨b, k, none⟩ (.int .i64 v)) b n g := fun i hi => by
  obtain ⟨h1, h2⟩ := h i hi
  obtain ⟨k1, k2⟩ := h k hk
  rw [e]
  by_cases hik : i = k
  · subst hik
    rw [if_pos rfl]
    exact ⟨by go_cell, by go_cell⟩
  · rw [if_neg hik]
    have hne : ¬ k = i := fun h => hik h.symm
    exact ⟨by go_cell, by go_cell⟩
theorem infoI : (Try.prog.info? 3).map (fun i => (i.zero, i.size, i.bytes)) = some (some (.int .i64 0), 1, 8) := by kernel_rfl
theorem below_none {w v : World} (k : w.grownBy v none) : Below w.heap.size w v := ⟨k.os, k.tape, k.output, k.size, fun i hi => k.block i hi (by simp)⟩
theorem oi_made {W : World} {n₀ b m : Nat} (h : W.ownsRow n₀ 3 1 (.slice (some ⟨b, 0, none⟩) m m) m (madeCells #[.int .i64 0] (m * 1)).toList) : OI W b m (fun _ => 0) := by
  intro i hi
  have hlt : i < m * 1 := by omega
  refine ⟨?_, ?_⟩
  · rw [h.cellAt _ hlt]
    simp only [madeCells, Array.toList_map, Array.toList_range, List.getElem?_map, List.getElem?_range hlt, Option.map_some, List.size_toArray, List.length_cons, List.length_nil, Nat.zero_add, Nat.mod_one]
    rfl
  · obtain ⟨_, h2⟩ := h
    rcases h2 with ⟨h2, _⟩ | ⟨g, cap, cur, h2, _, hh, _⟩
    · cases h2
    · cases h2
      simp [World.frozen?, hh]
theorem row_lt {W : World} {n₀ b m e s : Nat} {l : List Value} (h : W.ownsRow n₀ e s (.slice (some ⟨b, 0, none⟩) m m) m l) : b < W.heap.size := by
  obtain ⟨_, h2⟩ := h
  rcases h2 with ⟨h2, _⟩ | ⟨g, cap, cur, h2, _, hh, _⟩
  · cases h2
  · cases h2
    exact (Array.getElem?_eq_some_iff.1 hh).1
theorem make_ints (W : World) (n : Nat) (h : n ≤ 100000) : ∃ W', (Instr.makeSlice 22 (.int .i64 (n : Int)) (.int .i64 (n : Int))).run Try.prog W = .ok (.slice (some ⟨W.heap.size, 0, none⟩) n n) W' ∧ OI W' W.heap.size n (fun _ => 0) ∧ Below W.heap.size W W' ∧ W.heap.size < W'.heap.size := by
  obtain ⟨i0, hi, hz0, hz1, hz2⟩ := info_parts infoI
  obtain ⟨w1, hmk, hown, hgr⟩ := run_make_full (P := Try.prog) W W.heap.size 22 3 i0 _ 1 Try.underlying22 hi hz0 hz1 .i64 .i64 n (by rw [hz2]; omega) (by unfold maxLen; omega) (Nat.le_refl _)
  exact ⟨w1, hmk, oi_made hown, below_none hgr, row_lt hown⟩
/-- What Normal has written after some rounds. -/
def nmK (g : Nat → Axs) (p : Nat → Int) (k i : Nat) : Int := if i < k then nm (g i) (p i) else 0
theorem nmK_next (g : Nat → Axs) (p : Nat → Int) (k i : Nat) : nmK g p (k + 1) i = if i = k then nm (g k) (p k) else nmK g p k i := by
  unfold nmK
  by_cases h : i = k
  · subst h; rw [if_pos (by omega), if_pos rfl]
  · rw [if_neg h]
    by_cases h2 : i < k
    · rw [if_pos h2, if_pos (by omega)]
    · rw [if_neg h2, if_neg (by omega)]
theorem ckTo_all {g : Nat → Axs} : ∀ {n : Nat}, ckTo g n = 0 → ∀ k, k < n → ckOne g k (g k) = 0
  | 0, _, k, hk => by omega
  | n + 1, h, k, hk => by
    unfold ckTo at h
    by_cases h0 : ckTo g n = 0
    · rw [if_pos h0] at h
      rcases Nat.lt_or_ge k n with hlt | hge
      · exact ckTo_all h0 k hlt
      · obtain rfl : k = n := by omega
        exact h
    · rw [if_neg h0] at h; exact absurd h h0
theorem ckL_all {g : Nat → Axs} {n : Nat} (h : ckL g n = 0) : n ≤ 3 ∧ ∀ k, k < n → rgA (g k) := by
  unfold ckL at h
  by_cases h3 : n ≤ 3
  · rw [if_pos h3] at h
    exact ⟨h3, fun k hk => ckOne_zero (ckTo_all h k hk)⟩
  · rw [if_neg h3] at h; cases h
/-- The error of Normal. -/
def nmE (g : Nat → Axs) (n m : Nat) : Int := if ckL g n = 0 then (if m = n then 0 else 1) else ckL g n
theorem ck2 {w W : World} (h : Below w.heap.size w W) : Below w.heap.size w W := h
set_option maxRecDepth 100000 in
set_option maxHeartbeats 1000000 in
theorem Normal_bad (a : Option Addr) (n c : Nat) (g : Nat → Axs) (pa : Option Addr) (m d : Nat) (hn : n ≤ c ∧ c ≤ 9223372036854775807) (w : World) (hA : AA w a n g) (hE : ¬ nmE g n m = 0) :
    Calls Try.prog 11 #[.slice a n c, .slice pa m d] w fun e w' => e = .returned (.tuple #[.slice none 0 0, .int .i64 (nmE g n m)]) ∧ Below w.heap.size w w' := by
  have CK := Lib.hid (Check_any a n c g hn w hA)
  unfold nmE at *
  by_cases hz : ckL g n = 0
  · rw [if_pos hz] at hE ⊢
    rw [hz] at CK
    by_cases hm : m = n
    · rw [if_pos hm] at hE; exact absurd rfl hE
    · rw [if_neg hm]
      have q : ((m : Int) == (n : Int)) = false := beq_eq_false_iff_ne.2 (by omega)
      go_enter Try.func11, Try.ntmps11
      go_wp2_with fail
      refine CK.out.mono ?_
      rintro e V1 ⟨rfl, hB1⟩
      go_wp2
      go_ret2
      exact ⟨rfl, hB1⟩
  · rw [if_neg hz]
    have q : (ckL g n == 0) = false := beq_eq_false_iff_ne.2 hz
    clear hE
    generalize ckL g n = z at *
    go_enter Try.func11, Try.ntmps11
    go_wp2_with fail
    refine CK.out.mono ?_
    rintro e V1 ⟨rfl, hB1⟩
    go_wp2
    go_ret2
    exact ⟨rfl, hB1⟩
def NmRel (w : World) (S : Nat) (g : Nat → Axs) (p : Nat → Int) (n : Nat) (v : Value) (V : World) : Prop := ∃ k : Nat, v = .int .i64 k ∧ k ≤ n ∧ OI V S n (nmK g p k) ∧ Below w.heap.size w V
set_option maxRecDepth 100000 in
set_option maxHeartbeats 4000000 in
theorem Normal_ok (a : Option Addr) (n c : Nat) (g : Nat → Axs) (pa : Option Addr) (d : Nat) (p : Nat → Int) (hn : n ≤ c ∧ c ≤ 9223372036854775807) (w : World) (hA : AA w a n g) (hP : LA w pa n p) (hE : ckL g n = 0) :
    Calls Try.prog 11 #[.slice a n c, .slice pa n d] w fun e w' => ∃ S, e = .returned (.tuple #[.slice (some ⟨S, 0, none⟩) n n, .int .i64 0]) ∧ OI w' S n (fun i => nm (g i) (p i)) ∧ w.heap.size ≤ S ∧ Below w.heap.size w w' := by
  have CK := Lib.hid (Check_any a n c g hn w hA)
  obtain ⟨h3, hR⟩ := ckL_all hE
  rw [hE] at CK
  have HA := Lib.hid hA
  have HP := Lib.hid hP
  have HR := Lib.hid hR
  clear hA hP hR hE
  go_enter Try.func11, Try.ntmps11
  go_wp2_with fail
  refine CK.out.mono ?_
  rintro e V1 ⟨rfl, hB1⟩
  obtain ⟨V2, hmk, hO, hB2, hlt⟩ := make_ints V1 n (by omega)
  have hle := hB1.size
  obtain ⟨S, hS⟩ : ∃ S, S = V1.heap.size := ⟨_, rfl⟩
  rw [← hS] at hmk hO hlt
  have hwS : w.heap.size ≤ S := by omega
  replace hB1 := bt hB1 hB2
  clear hS hB2
  go_wp2_with fail
  clear hmk
  go_loopw [25] (fun v V => NmRel w S g p n v V) (fun v _ => n - (intOf v).toNat)
  case atStart => exact ⟨0, rfl, by omega, oi_congr hO (fun i _ => rfl), hB1⟩
  case round =>
    clear hO hB1 hlt hle
    obtain ⟨k, rfl, hle, hO, hB⟩ := hrel
    rename World => V
    rcases Nat.lt_or_ge k n with hk | hk
    · obtain ⟨b, o, rfl, x0, x1, x2, x3⟩ := aa_below HA.out hB k hk
      obtain ⟨pb, po, rfl, hp⟩ := la_below HP.out hB k hk
      have hN := Lib.hid (fun w => normal_any (g k) (p k) (HR.out k hk) w)
      have hb : b ≠ S := by
        obtain ⟨b', o', e, hc, _⟩ := HA.out k hk
        cases e
        have := block_lt_of_cell hc
        simp only at this
        omega
      have hpb : pb ≠ S := by
        obtain ⟨b', o', e, hc⟩ := HP.out k hk
        cases e
        have := block_lt_of_cell hc
        simp only at this
        omega
      have R0 : Hid (∀ V', OI V' S n (nmK g p k) → Below w.heap.size w V' → NmRel w S g p n (.int .i64 ((k : Int) + 1)) (V'.setCell ⟨S, k, none⟩ (.int .i64 (nm (g k) (p k))))) :=
        Lib.hid (fun V' h1 h2 => ⟨k + 1, rfl, by omega, oi_set h1 hk (nmK_next g p k), bs h2 hwS _⟩)
      have k2 : (0 : Int) ≤ (k : Int) := by omega
      have k3 : (k : Int) < (n : Int) := by omega
      unfold axV at hN
      generalize nm (g k) (p k) = r at *
      generalize g k = x at *
      generalize p k = y at *
      go_wp2
      have hX := bxa_new V x 29
      have hB1 : Below V.heap.size V (V.alloc (.cells #[.string x.t, .int .i64 x.l, .int .i64 x.u, .int .i64 x.h] 29)) := ba (Below.refl _ _) _
      have hSB : V.heap.size ≠ S := by have := block_lt_of_cell (hO k hk).1; simp only at this; omega
      replace hO := oi_below hO hB1
      replace hp := kc hB1 (block_lt_of_cell hp) hp
      replace hB := bt hB hB1
      clear x0 x1 x2 x3 hB1
      obtain ⟨B, hBs⟩ : ∃ B, B = V.heap.size := ⟨_, rfl⟩
      rw [← hBs] at hX hSB ⊢
      generalize V.alloc (.cells #[.string x.t, .int .i64 x.l, .int .i64 x.u, .int .i64 x.h] 29) = V1 at *
      clear hBs
      have X0 : ∀ V', V1.grownBy V' (some S) → V'.cell? ⟨B, 0, none⟩ = some (.string x.t) := fun _ h => gc h hX.1 hSB
      have X1 : ∀ V', V1.grownBy V' (some S) → V'.cell? ⟨B, 1, none⟩ = some (.int .i64 x.l) := fun _ h => gc h hX.2.1 hSB
      have X2 : ∀ V', V1.grownBy V' (some S) → V'.cell? ⟨B, 2, none⟩ = some (.int .i64 x.u) := fun _ h => gc h hX.2.2.1 hSB
      have X3 : ∀ V', V1.grownBy V' (some S) → V'.cell? ⟨B, 3, none⟩ = some (.int .i64 x.h) := fun _ h => gc h hX.2.2.2 hSB
      have X4 : ∀ V', V1.grownBy V' (some S) → V'.cell? ⟨pb, po + k, none⟩ = some (.int .i64 y) := fun _ h => gc h hp hpb
      obtain ⟨s0, s1⟩ := hO k hk
      clear hX hp
      go_region_held3 (fun w' => V1.grownBy w' (some S)) (first
        | (with_reducible exact gs (by assumption) _)
        | (with_reducible exact gd1 (gr _ _))
        | (with_reducible exact gt (by assumption) hba))
        (first
        | ((with_reducible refine (hN.out _).mono ?_); rintro en wa ⟨rfl, hba⟩; replace s1 := kf hba (block_lt_of_cell s0) s1; replace s0 := kc hba (block_lt_of_cell s0) s0; have hba' := hba))
      have hb2 : Below V1.heap.size V1 wa := bt (bd1 (Below.refl _ _)) hba'
      have R := Lib.hid (R0.out wa (oi_below hO hb2) (bt hB hb2))
      clear hO hB R0
      go_wp2_with fail
      exact ⟨R.out, by simp [intOf]; omega⟩
    · obtain rfl : k = n := by omega
      go_wp2
      go_ret2
      refine ⟨S, rfl, oi_congr hO (fun i hi => if_pos hi), hwS, hB⟩
end Go.Proofs.Ytmlkdfieakihlaa.Ax
