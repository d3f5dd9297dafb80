/-
  Layer 5 (axis): tents: isValid, Fits, position, value.
-/
import Derived.Test.YtcogoomajfahkaaAxOne
namespace Go.Proofs.Ytcogoomajfahkaa.Ax
open Go.RowKit

structure Tns where
  l : Int
  p : Int
  h : Int
/-- A tent as the program's value. -/
def tnV (x : Tns) : Value := .agg #[.int .i64 x.l, .int .i64 x.p, .int .i64 x.h]
/-- A tent in a block of its own. -/
def BxT (w : World) (b : Nat) (x : Tns) : Prop :=
  w.cell? ⟨b, 0, none⟩ = some (.int .i64 x.l) ∧ w.cell? ⟨b, 1, none⟩ = some (.int .i64 x.p) ∧ w.cell? ⟨b, 2, none⟩ = some (.int .i64 x.h)
theorem bxt_below {w W : World} {b : Nat} {x : Tns} (h : BxT w b x) (hB : Below w.heap.size w W) : BxT W b x :=
  ⟨kc hB (block_lt_of_cell h.1) h.1, kc hB (block_lt_of_cell h.1) h.2.1, kc hB (block_lt_of_cell h.1) h.2.2⟩
theorem bxt_new (V : World) (x : Tns) (T : TypeId) : BxT (V.alloc (.cells #[.int .i64 x.l, .int .i64 x.p, .int .i64 x.h] T)) V.heap.size x := ⟨by go_cell, by go_cell, by go_cell⟩
def TnAt (w : World) (b o : Nat) (x : Tns) : Prop :=
  w.cell? ⟨b, o, none⟩ = some (.int .i64 x.l) ∧ w.cell? ⟨b, o + 1, none⟩ = some (.int .i64 x.p) ∧ w.cell? ⟨b, o + 2, none⟩ = some (.int .i64 x.h)
/-- Tents in memory. -/
def TA (w : World) (a : Option Addr) (n : Nat) (g : Nat → Tns) : Prop :=
  ∀ i, i < n → ∃ b o, a = some ⟨b, o, none⟩ ∧ TnAt w b (o + i * 3) (g i)
theorem tnat_below {w W : World} {b o : Nat} {x : Tns} (h : TnAt w b o x) (hB : Below w.heap.size w W) : TnAt W b o x :=
  ⟨kc hB (block_lt_of_cell h.1) h.1, kc hB (block_lt_of_cell h.1) h.2.1, kc hB (block_lt_of_cell h.1) h.2.2⟩
theorem ta_below {w W : World} {a : Option Addr} {n : Nat} {g : Nat → Tns} (h : TA w a n g) (hB : Below w.heap.size w W) : TA W a n g := fun i hi => by
  obtain ⟨b, o, e, hc⟩ := h i hi
  exact ⟨b, o, e, tnat_below hc hB⟩
def tOrd (x : Tns) : Bool := decide (-64 ≤ x.l) && decide (x.l ≤ x.p) && decide (x.p ≤ x.h) && decide (x.h ≤ 64)
def tSide (x : Tns) : Bool := decide (0 ≤ x.l) || decide (x.h ≤ 0) || decide (x.p = 0)
/-- Whether a tent is valid. -/
def vt (x : Tns) : Bool := tOrd x && tSide x
theorem tOrd_iff (x : Tns) : tOrd x = true ↔ -64 ≤ x.l ∧ x.l ≤ x.p ∧ x.p ≤ x.h ∧ x.h ≤ 64 := by unfold tOrd; simp [and_assoc]
set_option maxRecDepth 100000 in
set_option maxHeartbeats 8000000 in
theorem isValid_any (x : Tns) (w : World) :
    Calls Try.prog 79 #[tnV x] w fun e w' => e = .returned (.bool (vt x)) ∧ Below w.heap.size w w' := by
  have L1 := Lib.hid (fun w => limNormal_any x.l w)
  have L2 := Lib.hid (fun w => limited_any x.p (lim x.l (-64) 64) 64 w)
  have L3 := Lib.hid (fun w => limited_any x.h (lim x.p (lim x.l (-64) 64) 64) 64 w)
  have E : tOrd x = decide (x.l = lim x.l (-64) 64 ∧ x.p = lim x.p (lim x.l (-64) 64) 64 ∧ x.h = lim x.h (lim x.p (lim x.l (-64) 64) 64) 64) := by
    rcases ht : tOrd x with _ | _
    · refine (decide_eq_false ?_).symm
      rintro ⟨e1, e2, e3⟩
      have : tOrd x = true := (tOrd_iff x).2 (by unfold lim at *; omega)
      rw [this] at ht; cases ht
    · have := (tOrd_iff x).1 ht
      refine (decide_eq_true ?_).symm
      unfold lim; omega
  generalize lim x.h (lim x.p (lim x.l (-64) 64) 64) 64 = h1 at *
  generalize lim x.p (lim x.l (-64) 64) 64 = p1 at *
  generalize lim x.l (-64) 64 = l1 at *
  unfold vt
  rw [E]
  unfold tSide tnV
  clear E
  obtain ⟨xl, xp, xh⟩ := x
  simp only at *
  by_cases e1 : xl = l1
  rotate_left
  · rw [decide_eq_false (fun h => e1 h.1), Bool.false_and]
    go_enter Try.func79, Try.ntmps79
    go_wp2_with fail
    refine (L1.out _).mono ?_
    rintro e V0 ⟨rfl, hB⟩
    have hX : BxT V0 w.heap.size ⟨_, _, _⟩ := bxt_below (bxt_new w _ _) hB
    have hB0 : Below w.heap.size w V0 := bt (ba (Below.refl _ _) _) hB
    clear hB
    obtain ⟨x0, x1, x2⟩ := id hX
    simp only at x0 x1 x2
    go_wp2_with fail
    refine (L2.out _).mono ?_
    rintro e V1 ⟨rfl, hB1⟩
    replace hB0 := bt hB0 hB1
    replace hX := bxt_below hX hB1
    clear x0 x1 x2
    obtain ⟨x0, x1, x2⟩ := id hX
    simp only at x0 x1 x2
    go_wp2_with fail
    refine (L3.out _).mono ?_
    rintro e V2 ⟨rfl, hB2⟩
    replace hB0 := bt hB0 hB2
    replace hX := bxt_below hX hB2
    clear x0 x1 x2
    obtain ⟨x0, x1, x2⟩ := id hX
    simp only at x0 x1 x2
    go_wp2
    go_ret
    exact ⟨rfl, hB0⟩
  subst e1
  by_cases e2 : xp = p1
  rotate_left
  · rw [decide_eq_false (fun h => e2 h.2.1), Bool.false_and]
    go_enter Try.func79, Try.ntmps79
    go_wp2_with fail
    refine (L1.out _).mono ?_
    rintro e V0 ⟨rfl, hB⟩
    have hX : BxT V0 w.heap.size ⟨_, _, _⟩ := bxt_below (bxt_new w _ _) hB
    have hB0 : Below w.heap.size w V0 := bt (ba (Below.refl _ _) _) hB
    clear hB
    obtain ⟨x0, x1, x2⟩ := id hX
    simp only at x0 x1 x2
    go_wp2_with fail
    refine (L2.out _).mono ?_
    rintro e V1 ⟨rfl, hB1⟩
    replace hB0 := bt hB0 hB1
    replace hX := bxt_below hX hB1
    clear x0 x1 x2
    obtain ⟨x0, x1, x2⟩ := id hX
    simp only at x0 x1 x2
    go_wp2_with fail
    refine (L3.out _).mono ?_
    rintro e V2 ⟨rfl, hB2⟩
    replace hB0 := bt hB0 hB2
    replace hX := bxt_below hX hB2
    clear x0 x1 x2
    obtain ⟨x0, x1, x2⟩ := id hX
    simp only at x0 x1 x2
    go_wp2
    go_ret
    exact ⟨rfl, hB0⟩
  subst e2
  by_cases e3 : xh = h1
  rotate_left
  · rw [decide_eq_false (fun h => e3 h.2.2), Bool.false_and]
    go_enter Try.func79, Try.ntmps79
    go_wp2_with fail
    refine (L1.out _).mono ?_
    rintro e V0 ⟨rfl, hB⟩
    have hX : BxT V0 w.heap.size ⟨_, _, _⟩ := bxt_below (bxt_new w _ _) hB
    have hB0 : Below w.heap.size w V0 := bt (ba (Below.refl _ _) _) hB
    clear hB
    obtain ⟨x0, x1, x2⟩ := id hX
    simp only at x0 x1 x2
    go_wp2_with fail
    refine (L2.out _).mono ?_
    rintro e V1 ⟨rfl, hB1⟩
    replace hB0 := bt hB0 hB1
    replace hX := bxt_below hX hB1
    clear x0 x1 x2
    obtain ⟨x0, x1, x2⟩ := id hX
    simp only at x0 x1 x2
    go_wp2_with fail
    refine (L3.out _).mono ?_
    rintro e V2 ⟨rfl, hB2⟩
    replace hB0 := bt hB0 hB2
    replace hX := bxt_below hX hB2
    clear x0 x1 x2
    obtain ⟨x0, x1, x2⟩ := id hX
    simp only at x0 x1 x2
    go_wp2
    go_ret
    exact ⟨rfl, hB0⟩
  subst e3
  rw [decide_eq_true ⟨rfl, rfl, rfl⟩, Bool.true_and]
  by_cases f1 : 0 ≤ xl
  · rw [decide_eq_true f1, Bool.true_or, Bool.true_or]
    go_enter Try.func79, Try.ntmps79
    go_wp2_with fail
    refine (L1.out _).mono ?_
    rintro e V0 ⟨rfl, hB⟩
    have hX : BxT V0 w.heap.size ⟨_, _, _⟩ := bxt_below (bxt_new w _ _) hB
    have hB0 : Below w.heap.size w V0 := bt (ba (Below.refl _ _) _) hB
    clear hB
    obtain ⟨x0, x1, x2⟩ := id hX
    simp only at x0 x1 x2
    go_wp2_with fail
    refine (L2.out _).mono ?_
    rintro e V1 ⟨rfl, hB1⟩
    replace hB0 := bt hB0 hB1
    replace hX := bxt_below hX hB1
    clear x0 x1 x2
    obtain ⟨x0, x1, x2⟩ := id hX
    simp only at x0 x1 x2
    go_wp2_with fail
    refine (L3.out _).mono ?_
    rintro e V2 ⟨rfl, hB2⟩
    replace hB0 := bt hB0 hB2
    replace hX := bxt_below hX hB2
    clear x0 x1 x2
    obtain ⟨x0, x1, x2⟩ := id hX
    simp only at x0 x1 x2
    go_wp2
    go_ret
    exact ⟨rfl, hB0⟩
  by_cases f2 : xh ≤ 0
  · rw [decide_eq_false f1, decide_eq_true f2]
    go_enter Try.func79, Try.ntmps79
    go_wp2_with fail
    refine (L1.out _).mono ?_
    rintro e V0 ⟨rfl, hB⟩
    have hX : BxT V0 w.heap.size ⟨_, _, _⟩ := bxt_below (bxt_new w _ _) hB
    have hB0 : Below w.heap.size w V0 := bt (ba (Below.refl _ _) _) hB
    clear hB
    obtain ⟨x0, x1, x2⟩ := id hX
    simp only at x0 x1 x2
    go_wp2_with fail
    refine (L2.out _).mono ?_
    rintro e V1 ⟨rfl, hB1⟩
    replace hB0 := bt hB0 hB1
    replace hX := bxt_below hX hB1
    clear x0 x1 x2
    obtain ⟨x0, x1, x2⟩ := id hX
    simp only at x0 x1 x2
    go_wp2_with fail
    refine (L3.out _).mono ?_
    rintro e V2 ⟨rfl, hB2⟩
    replace hB0 := bt hB0 hB2
    replace hX := bxt_below hX hB2
    clear x0 x1 x2
    obtain ⟨x0, x1, x2⟩ := id hX
    simp only at x0 x1 x2
    go_wp2
    go_ret
    exact ⟨rfl, hB0⟩
  by_cases f3 : xp = 0
  · subst f3
    rw [decide_eq_false f1, decide_eq_false f2, decide_eq_true rfl]
    go_enter Try.func79, Try.ntmps79
    go_wp2_with fail
    refine (L1.out _).mono ?_
    rintro e V0 ⟨rfl, hB⟩
    have hX : BxT V0 w.heap.size ⟨_, _, _⟩ := bxt_below (bxt_new w _ _) hB
    have hB0 : Below w.heap.size w V0 := bt (ba (Below.refl _ _) _) hB
    clear hB
    obtain ⟨x0, x1, x2⟩ := id hX
    simp only at x0 x1 x2
    go_wp2_with fail
    refine (L2.out _).mono ?_
    rintro e V1 ⟨rfl, hB1⟩
    replace hB0 := bt hB0 hB1
    replace hX := bxt_below hX hB1
    clear x0 x1 x2
    obtain ⟨x0, x1, x2⟩ := id hX
    simp only at x0 x1 x2
    go_wp2_with fail
    refine (L3.out _).mono ?_
    rintro e V2 ⟨rfl, hB2⟩
    replace hB0 := bt hB0 hB2
    replace hX := bxt_below hX hB2
    clear x0 x1 x2
    obtain ⟨x0, x1, x2⟩ := id hX
    simp only at x0 x1 x2
    go_wp2
    go_ret
    exact ⟨rfl, hB0⟩
  · have f4 : (xp == 0) = false := beq_eq_false_iff_ne.2 f3
    have g1 := decide_eq_false f1
    have g2 := decide_eq_false f2
    rw [g1, g2, decide_eq_false f3]
    go_enter Try.func79, Try.ntmps79
    go_wp2_with fail
    refine (L1.out _).mono ?_
    rintro e V0 ⟨rfl, hB⟩
    have hX : BxT V0 w.heap.size ⟨_, _, _⟩ := bxt_below (bxt_new w _ _) hB
    have hB0 : Below w.heap.size w V0 := bt (ba (Below.refl _ _) _) hB
    clear hB
    obtain ⟨x0, x1, x2⟩ := id hX
    simp only at x0 x1 x2
    go_wp2_with fail
    refine (L2.out _).mono ?_
    rintro e V1 ⟨rfl, hB1⟩
    replace hB0 := bt hB0 hB1
    replace hX := bxt_below hX hB1
    clear x0 x1 x2
    obtain ⟨x0, x1, x2⟩ := id hX
    simp only at x0 x1 x2
    go_wp2_with fail
    refine (L3.out _).mono ?_
    rintro e V2 ⟨rfl, hB2⟩
    replace hB0 := bt hB0 hB2
    replace hX := bxt_below hX hB2
    clear x0 x1 x2
    obtain ⟨x0, x1, x2⟩ := id hX
    simp only at x0 x1 x2
    go_wp2
    go_ret
    exact ⟨rfl, hB0⟩
set_option maxRecDepth 100000 in
set_option maxHeartbeats 4000000 in
theorem valid_any (x : Tns) (w : World) :
    Calls Try.prog 70 #[tnV x] w fun e w' => e = .returned (.bool (vt x)) ∧ Below w.heap.size w w' := by
  unfold vt tOrd tSide tnV
  obtain ⟨l, p, h⟩ := x
  simp only
  by_cases c0 : -64 ≤ l
  rotate_left
  · simp only [c0, decide_false, Bool.false_and]
    have q0 : decide (l < -64) = true := decide_eq_true (by omega)
    clear c0
    go_enter Try.func70, Try.ntmps70
    go_wp2
    go_ret
    exact ⟨rfl, ba (Below.refl _ _) _⟩
  by_cases c1 : l ≤ p
  rotate_left
  · simp only [c0, c1, decide_true, decide_false, Bool.false_and, Bool.and_false]
    have q0 : decide (l < -64) = false := decide_eq_false (by omega)
    have q1 : decide (p < l) = true := decide_eq_true (by omega)
    clear c0 c1
    go_enter Try.func70, Try.ntmps70
    go_wp2
    go_ret
    exact ⟨rfl, ba (Below.refl _ _) _⟩
  by_cases c2 : p ≤ h
  rotate_left
  · simp only [c0, c1, c2, decide_true, decide_false, Bool.false_and, Bool.and_false, Bool.and_true]
    have q0 : decide (l < -64) = false := decide_eq_false (by omega)
    have q1 : decide (p < l) = false := decide_eq_false (by omega)
    have q2 : decide (h < p) = true := decide_eq_true (by omega)
    clear c0 c1 c2
    go_enter Try.func70, Try.ntmps70
    go_wp2
    go_ret
    exact ⟨rfl, ba (Below.refl _ _) _⟩
  by_cases c3 : h ≤ 64
  rotate_left
  · simp only [c0, c1, c2, c3, decide_true, decide_false, Bool.false_and, Bool.and_false, Bool.and_true]
    have q0 : decide (l < -64) = false := decide_eq_false (by omega)
    have q1 : decide (p < l) = false := decide_eq_false (by omega)
    have q2 : decide (h < p) = false := decide_eq_false (by omega)
    have q3 : decide (64 < h) = true := decide_eq_true (by omega)
    clear c0 c1 c2 c3
    go_enter Try.func70, Try.ntmps70
    go_wp2
    go_ret
    exact ⟨rfl, ba (Below.refl _ _) _⟩
  have q0 : decide (l < -64) = false := decide_eq_false (by omega)
  have q1 : decide (p < l) = false := decide_eq_false (by omega)
  have q2 : decide (h < p) = false := decide_eq_false (by omega)
  have q3 : decide (64 < h) = false := decide_eq_false (by omega)
  simp only [c0, c1, c2, c3, decide_true, Bool.true_and, Bool.and_true]
  clear c0 c1 c2 c3
  by_cases f1 : 0 ≤ l
  · simp only [f1, decide_true, Bool.true_or]
    go_enter Try.func70, Try.ntmps70
    go_wp2
    go_ret
    exact ⟨rfl, ba (Below.refl _ _) _⟩
  by_cases f2 : h ≤ 0
  · simp only [f1, f2, decide_true, decide_false, Bool.true_or, Bool.false_or]
    go_enter Try.func70, Try.ntmps70
    go_wp2
    go_ret
    exact ⟨rfl, ba (Below.refl _ _) _⟩
  by_cases f3 : p = 0
  · subst f3
    simp only [f1, f2, decide_true, decide_false, Bool.false_or]
    go_enter Try.func70, Try.ntmps70
    go_wp2
    go_ret
    exact ⟨rfl, ba (Below.refl _ _) _⟩
  · have f4 : (p == 0) = false := beq_eq_false_iff_ne.2 f3
    simp only [f1, f2, f3, decide_false, Bool.false_or]
    go_enter Try.func70, Try.ntmps70
    go_wp2
    go_ret
    exact ⟨rfl, ba (Below.refl _ _) _⟩
end Go.Proofs.Ytcogoomajfahkaa.Ax
