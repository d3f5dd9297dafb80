/-
  Layer 5 (axis): normal of the program and of the document.
-/
import Derived.Test.YtmlkdfieakihlaaAxD
namespace Go.Proofs.Ytmlkdfieakihlaa.Ax
open Go.RowKit
open Go.Proofs.Ytmlkdfieakihlaa.Ex (RoI RoB outI fits round_go round_ref)

def rgA (x : Axs) : Prop := -1000 ≤ x.l ∧ x.l ≤ x.u ∧ x.u ≤ x.h ∧ x.h ≤ 1000
theorem ckOne_zero {g : Nat → Axs} {m : Nat} {x : Axs} (h : ckOne g m x = 0) : rgA x := by
  unfold ckOne at h
  cases h1 : tagOk x.t <;> rw [h1] at h <;> simp at h
  cases h2 : twc g x.t m <;> rw [h2] at h <;> simp at h
  cases h3 : ranA x <;> rw [h3] at h <;> simp at h
  unfold ranA at h3
  simp [inU] at h3
  unfold ordA at h
  simp at h
  unfold rgA
  omega
/-- The normalized position. -/
def nm (x : Axs) (v : Int) : Int :=
  if lim v x.l x.h < x.u then -(RoI (64 * (x.u - lim v x.l x.h)) (x.u - x.l)) else if x.u < lim v x.l x.h then RoI (64 * (lim v x.l x.h - x.u)) (x.h - x.u) else 0
theorem ro_is {a b : Int} (hb : 1 ≤ b) (ha : 0 ≤ a ∧ a ≤ 64 * b) : RoI a b = (2 * a + b) / (2 * b) ∧ 0 ≤ RoI a b ∧ RoI a b ≤ 64 := by
  have h1 : 0 ≤ (2 * a + b) / (2 * b) := Int.ediv_nonneg (by omega) (by omega)
  have h2 : (2 * a + b) / (2 * b) ≤ 64 := by
    apply Int.le_of_lt_add_one
    apply Int.ediv_lt_of_lt_mul (by omega)
    omega
  have h3 : RoI a b = (2 * a + b) / (2 * b) := by
    unfold RoI outI fits
    rw [if_neg (by omega), if_pos (decide_eq_true (by omega))]
  rw [h3]
  exact ⟨rfl, h1, h2⟩
theorem ro_zero (a : Int) : RoI a 0 = 0 := rfl
theorem lim_in {v lo hi : Int} (h : lo ≤ hi) : lo ≤ lim v lo hi ∧ lim v lo hi ≤ hi := by unfold lim; omega
set_option maxRecDepth 100000 in
theorem normal_core (x : Axs) (v y s f wh F n r : Int) (b : Bool)
    (LM : Hid (∀ w, Calls Try.prog 43 #[.int .i64 v, .int .i64 x.l, .int .i64 x.h] w fun e w' => e = .returned (.int .i64 y) ∧ Below w.heap.size w w'))
    (CM : Hid (∀ w, Calls Try.prog 30 #[.int .i64 y, .int .i64 x.u] w fun e w' => e = .returned (.int .i64 s) ∧ Below w.heap.size w w'))
    (SD : Hid (∀ H L M (w : World), w.cell? ⟨H, 0, none⟩ = some (.int .i64 x.h) → w.cell? ⟨L, 0, none⟩ = some (.int .i64 x.l) → w.cell? ⟨M, 0, none⟩ = some (.int .i64 x.u) →
      Calls Try.prog 49 #[.int .i64 s, .int .i64 y, .pointer (some ⟨H, 0, none⟩), .pointer (some ⟨L, 0, none⟩), .pointer (some ⟨M, 0, none⟩)] w fun e w' => e = .returned (.tuple #[.int .i64 f, .int .i64 wh]) ∧ Below w.heap.size w w'))
    (q1 : wrap64 (64 * f) = F)
    (RD : Hid (∀ w, Calls Try.prog 32 #[.int .i64 F, .int .i64 wh] w fun e w' => e = .returned (.tuple #[.int .i64 n, .bool b]) ∧ Below w.heap.size w w'))
    (q2 : wrap64 (s * n) = r) (w : World) :
    Calls Try.prog 24 #[axV x, .int .i64 v] w fun e w' => e = .returned (.int .i64 r) ∧ Below w.heap.size w w' := by
  have SS := Lib.hid (fun w => sides_any x.l x.u x.h w)
  unfold axV
  unfold sdV at SS
  go_enter Try.func24, Try.ntmps24
  go_wp2_with fail
  refine (LM.out _).mono ?_
  rintro e V0 ⟨rfl, hB⟩
  have hX : BxA V0 w.heap.size x := bxa_below ⟨by go_cell, by go_cell, by go_cell, by go_cell⟩ hB
  have hB0 : Below w.heap.size w V0 := bt (ba (Below.refl _ _) _) hB
  clear hB
  obtain ⟨x0, x1, x2, x3⟩ := id hX
  go_wp2_with fail
  refine (CM.out _).mono ?_
  rintro e V1 ⟨rfl, hB1⟩
  replace hB0 := bt hB0 hB1
  replace hX := bxa_below hX hB1
  clear x0 x1 x2 x3
  obtain ⟨x0, x1, x2, x3⟩ := id hX
  go_wp2_with fail
  refine (SS.out _).mono ?_
  rintro e V2 ⟨H, L, M, rfl, c1, c2, c3, hB2⟩
  replace hB0 := bt hB0 hB2
  replace hX := bxa_below hX hB2
  clear x0 x1 x2 x3
  obtain ⟨x0, x1, x2, x3⟩ := id hX
  go_wp2_with fail
  refine (SD.out _ _ _ _ c1 c2 c3).mono ?_
  rintro e V3 ⟨rfl, hB3⟩
  replace hB0 := bt hB0 hB3
  go_wp2_with fail
  refine (RD.out _).mono ?_
  rintro e V4 ⟨rfl, hB4⟩
  replace hB0 := bt hB0 hB4
  go_wp2
  go_ret
  exact ⟨by rw [← q2]; rfl, hB0⟩
theorem w64 {x : Int} (h : -9223372036854775808 ≤ x ∧ x ≤ 9223372036854775807) : wrap64 x = x := by unfold wrap64; omega
theorem normal_any (x : Axs) (v : Int) (hx : rgA x) (w : World) :
    Calls Try.prog 24 #[axV x, .int .i64 v] w fun e w' => e = .returned (.int .i64 (nm x v)) ∧ Below w.heap.size w w' := by
  obtain ⟨h1, h2, h3, h4⟩ := hx
  have hy := lim_in (v := v) (lo := x.l) (hi := x.h) (by omega)
  have LM := Lib.hid (fun w => limited_any v x.l x.h w)
  have CM := Lib.hid (fun w => compare_any (lim v x.l x.h) x.u w)
  unfold nm
  generalize lim v x.l x.h = y at *
  by_cases c1 : y < x.u
  · have hr := ro_is (a := 64 * (x.u - y)) (b := x.u - x.l) (by omega) (by omega)
    rw [if_pos c1]
    rw [show cmpI y x.u = -1 from if_pos c1] at CM
    refine normal_core x v y (-1) (x.u - y) (x.u - x.l) (64 * (x.u - y)) (RoI (64 * (x.u - y)) (x.u - x.l)) _ _ LM CM (Lib.hid (fun H L M w k1 k2 k3 => ?_)) (w64 (by omega)) (Lib.hid (fun w => round_go _ _ (by omega) (by omega) w)) ?_ w
    · have := sides1_any (-1) y x.l x.u x.h H L M w k1 k2 k3
      rw [if_pos (by omega), w64 (x := y - x.u) (by omega), w64 (x := x.l - x.u) (by omega), w64 (by omega), w64 (by omega), show -1 * (y - x.u) = x.u - y by omega, show -1 * (x.l - x.u) = x.u - x.l by omega] at this
      exact this
    · rw [w64 (by omega)]; omega
  · rw [if_neg c1]
    by_cases c2 : x.u < y
    · have hr := ro_is (a := 64 * (y - x.u)) (b := x.h - x.u) (by omega) (by omega)
      rw [if_pos c2]
      rw [show cmpI y x.u = 1 by unfold cmpI; rw [if_neg c1, if_pos c2]] at CM
      refine normal_core x v y 1 (y - x.u) (x.h - x.u) (64 * (y - x.u)) (RoI (64 * (y - x.u)) (x.h - x.u)) _ _ LM CM (Lib.hid (fun H L M w k1 k2 k3 => ?_)) (w64 (by omega)) (Lib.hid (fun w => round_go _ _ (by omega) (by omega) w)) ?_ w
      · have := sides1_any 1 y x.l x.u x.h H L M w k1 k2 k3
        rw [if_neg (by omega), w64 (x := y - x.u) (by omega), w64 (x := x.h - x.u) (by omega), w64 (by omega), w64 (by omega), Int.one_mul, Int.one_mul] at this
        exact this
      · rw [w64 (by omega)]; omega
    · rw [if_neg c2]
      rw [show cmpI y x.u = 0 by unfold cmpI; rw [if_neg c1, if_neg c2]] at CM
      refine normal_core x v y 0 0 0 0 0 _ _ LM CM (Lib.hid (fun H L M w k1 k2 k3 => ?_)) (w64 (by omega)) (Lib.hid (fun w => round_go _ _ (by omega) (by omega) w)) ?_ w
      · have := sides1_any 0 y x.l x.u x.h H L M w k1 k2 k3
        rw [Int.zero_mul, Int.zero_mul, w64 (by omega)] at this
        exact this
      · rw [Int.zero_mul]; exact w64 (by omega)
/-- The document's normal. -/
theorem rnormal_any (x : Axs) (v : Int) (hx : rgA x) (w : World) :
    Calls Try.prog 25 #[axV x, .int .i64 v] w fun e w' => e = .returned (.int .i64 (nm x v)) ∧ Below w.heap.size w w' := by
  obtain ⟨h1, h2, h3, h4⟩ := hx
  have hy := lim_in (v := v) (lo := x.l) (hi := x.h) (by omega)
  have hl : max x.l (min v x.h) = lim v x.l x.h := by unfold lim; omega
  unfold nm axV
  generalize lim v x.l x.h = y at *
  have HL := Lib.hid hl
  by_cases c1 : y < x.u
  · have hr := ro_is (a := 64 * (x.u - y)) (b := x.u - x.l) (by omega) (by omega)
    rw [if_pos c1]
    have RD := Lib.hid (fun w => rround_any (64 * (x.u - y)) (x.u - x.l) (by omega) (by omega) w)
    have p1 : wrap64 (x.u - y) = x.u - y := w64 (by omega)
    have p2 : wrap64 (x.u - x.l) = x.u - x.l := w64 (by omega)
    have p3 : wrap64 (64 * (x.u - y)) = 64 * (x.u - y) := w64 (by omega)
    have p4 : wrap64 (-RoI (64 * (x.u - y)) (x.u - x.l)) = -RoI (64 * (x.u - y)) (x.u - x.l) := w64 (by omega)
    have q : decide (y < x.u) = true := decide_eq_true c1
    clear hr h1 h2 h3 h4 hy
    go_enter Try.func25, Try.ntmps25
    go_wp2_with fail
    refine (RD.out _).mono ?_
    rintro e V1 ⟨rfl, hB1⟩
    go_wp2
    go_ret
    exact ⟨by rw [p4]; rfl, bt (ba (Below.refl _ _) _) hB1⟩
  · rw [if_neg c1]
    have q : decide (y < x.u) = false := decide_eq_false c1
    by_cases c2 : x.u < y
    · have hr := ro_is (a := 64 * (y - x.u)) (b := x.h - x.u) (by omega) (by omega)
      rw [if_pos c2]
      have RD := Lib.hid (fun w => rround_any (64 * (y - x.u)) (x.h - x.u) (by omega) (by omega) w)
      have p1 : wrap64 (y - x.u) = y - x.u := w64 (by omega)
      have p2 : wrap64 (x.h - x.u) = x.h - x.u := w64 (by omega)
      have p3 : wrap64 (64 * (y - x.u)) = 64 * (y - x.u) := w64 (by omega)
      have q2 : decide (x.u < y) = true := decide_eq_true c2
      clear hr h1 h2 h3 h4 hy
      go_enter Try.func25, Try.ntmps25
      go_wp2_with fail
      refine (RD.out _).mono ?_
      rintro e V1 ⟨rfl, hB1⟩
      go_wp2
      go_ret
      exact ⟨rfl, bt (ba (Below.refl _ _) _) hB1⟩
    · rw [if_neg c2]
      have q2 : decide (x.u < y) = false := decide_eq_false c2
      clear h1 h2 h3 h4 hy
      go_enter Try.func25, Try.ntmps25
      go_wp2
      go_ret
      exact ⟨rfl, ba (Below.refl _ _) _⟩
theorem nm_in {x : Axs} (hx : rgA x) (v : Int) : -64 ≤ nm x v ∧ nm x v ≤ 64 := by
  obtain ⟨h1, h2, h3, h4⟩ := hx
  have hy := lim_in (v := v) (lo := x.l) (hi := x.h) (by omega)
  unfold nm
  generalize lim v x.l x.h = y at *
  split
  · have hr := ro_is (a := 64 * (x.u - y)) (b := x.u - x.l) (by omega) (by omega)
    omega
  · split
    · have hr := ro_is (a := 64 * (y - x.u)) (b := x.h - x.u) (by omega) (by omega)
      omega
    · omega
end Go.Proofs.Ytmlkdfieakihlaa.Ax
