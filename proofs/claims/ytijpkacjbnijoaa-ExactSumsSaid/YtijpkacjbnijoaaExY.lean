/-
  The walk of the law ExactSums.
-/
import Derived.Test.YtijpkacjbnijoaaExX
import Derived.Lib.QuietBelow
import Derived.BigQuiet
import Derived.StillTailTactics
namespace Go.Proofs.Ytijpkacjbnijoaa.Ex
open Go.RowKit Go.Sort

/-- It ends as it should, with this frame, in a world of which R holds. -/
def EndsAt (A : Act) (R : World → Prop) : Exit → Act → World → Prop
  | .normal, a, w => a = A ∧ R w
  | _, _, _ => False
theorem frozen_regrown {w : World} {b o : Nat} {v : Value} {t : Bool} (h : w.cell? ⟨b, o, none⟩ = some v) (f : w.frozen? ⟨b, o, none⟩ = t) (d : Nat) (os : Array Obj) : (grow (redrawn w d) os).frozen? ⟨b, o, none⟩ = t :=
  kf (below_regrown w d os) h f
theorem share {P : Program} {c : Code} {Q : Exit → Act → World → Prop} {a : Act} {w : World} {A : Act} {R : World → Prop}
    (hreg : c.wp P (EndsAt A R) a w) (hkey : ∀ wx, R wx → Q .normal A wx) : c.wp P Q a w :=
  Code.wp_mono (fun e a' w' h => by
    cases e with
    | normal => obtain ⟨rfl, hr⟩ := h; exact hkey _ hr
    | _ => exact h.elim) hreg

set_option maxRecDepth 100000 in
set_option maxHeartbeats 4000000 in
theorem sums_walk (n0 d0 n1 d1 n2 d2 N0 D0 N1 D1 N2 D2 p1 q1 p2 q2 p3 q3 p4 q4 p5 q5 p6 q6 p7 q7 p8 q8 p9 q9 p10 q10 t : Int)
    (K0 : Hid (∀ w, Calls Try.prog 16 #[.int .i64 d0, .int .i64 262144] w fun e w' => e = .returned (.int .i64 (D0 - 1)) ∧ w' = w))
    (K1 : Hid (∀ w, Calls Try.prog 16 #[.int .i64 d1, .int .i64 262144] w fun e w' => e = .returned (.int .i64 (D1 - 1)) ∧ w' = w))
    (K2 : Hid (∀ w, Calls Try.prog 16 #[.int .i64 d2, .int .i64 262144] w fun e w' => e = .returned (.int .i64 (D2 - 1)) ∧ w' = w))
    (S1 : Hid (∀ w, Calls Try.prog 20 #[.agg #[.int .i64 N0, .int .i64 D0], .agg #[.int .i64 N1, .int .i64 D1]] w fun en w' => en = .returned (.tuple #[.agg #[.int .i64 p1, .int .i64 q1], .bool true]) ∧ Below w.heap.size w w'))
    (S2 : Hid (∀ w, Calls Try.prog 20 #[.agg #[.int .i64 N1, .int .i64 D1], .agg #[.int .i64 N0, .int .i64 D0]] w fun en w' => en = .returned (.tuple #[.agg #[.int .i64 p1, .int .i64 q1], .bool true]) ∧ Below w.heap.size w w'))
    (S3 : Hid (∀ w, Calls Try.prog 20 #[.agg #[.int .i64 p1, .int .i64 q1], .agg #[.int .i64 N2, .int .i64 D2]] w fun en w' => en = .returned (.tuple #[.agg #[.int .i64 p3, .int .i64 q3], .bool true]) ∧ Below w.heap.size w w'))
    (S4 : Hid (∀ w, Calls Try.prog 20 #[.agg #[.int .i64 N1, .int .i64 D1], .agg #[.int .i64 N2, .int .i64 D2]] w fun en w' => en = .returned (.tuple #[.agg #[.int .i64 p4, .int .i64 q4], .bool true]) ∧ Below w.heap.size w w'))
    (S5 : Hid (∀ w, Calls Try.prog 20 #[.agg #[.int .i64 N0, .int .i64 D0], .agg #[.int .i64 p4, .int .i64 q4]] w fun en w' => en = .returned (.tuple #[.agg #[.int .i64 p3, .int .i64 q3], .bool true]) ∧ Below w.heap.size w w'))
    (S6 : Hid (∀ w, Calls Try.prog 20 #[.agg #[.int .i64 p2, .int .i64 q2], .agg #[.int .i64 p8, .int .i64 q8]] w fun en w' => en = .returned (.tuple #[.agg #[.int .i64 p7, .int .i64 q7], .bool true]) ∧ Below w.heap.size w w'))
    (S7 : Hid (∀ w, Calls Try.prog 20 #[.agg #[.int .i64 N0, .int .i64 D0], .agg #[.int .i64 N2, .int .i64 D2]] w fun en w' => en = .returned (.tuple #[.agg #[.int .i64 p9, .int .i64 q9], .bool true]) ∧ Below w.heap.size w w'))
    (S8 : Hid (∀ w, Calls Try.prog 20 #[.agg #[.int .i64 p1, .int .i64 q1], .agg #[.int .i64 (-N1), .int .i64 D1]] w fun en w' => en = .returned (.tuple #[.agg #[.int .i64 p10, .int .i64 q10], .bool true]) ∧ Below w.heap.size w w'))
    (M1 : Hid (∀ w, Calls Try.prog 22 #[.agg #[.int .i64 N0, .int .i64 D0], .agg #[.int .i64 N1, .int .i64 D1]] w fun en w' => en = .returned (.tuple #[.agg #[.int .i64 p2, .int .i64 q2], .bool true]) ∧ Below w.heap.size w w'))
    (M2 : Hid (∀ w, Calls Try.prog 22 #[.agg #[.int .i64 N1, .int .i64 D1], .agg #[.int .i64 N0, .int .i64 D0]] w fun en w' => en = .returned (.tuple #[.agg #[.int .i64 p2, .int .i64 q2], .bool true]) ∧ Below w.heap.size w w'))
    (M3 : Hid (∀ w, Calls Try.prog 22 #[.agg #[.int .i64 p2, .int .i64 q2], .agg #[.int .i64 N2, .int .i64 D2]] w fun en w' => en = .returned (.tuple #[.agg #[.int .i64 p5, .int .i64 q5], .bool true]) ∧ Below w.heap.size w w'))
    (M4 : Hid (∀ w, Calls Try.prog 22 #[.agg #[.int .i64 N1, .int .i64 D1], .agg #[.int .i64 N2, .int .i64 D2]] w fun en w' => en = .returned (.tuple #[.agg #[.int .i64 p6, .int .i64 q6], .bool true]) ∧ Below w.heap.size w w'))
    (M5 : Hid (∀ w, Calls Try.prog 22 #[.agg #[.int .i64 N0, .int .i64 D0], .agg #[.int .i64 p6, .int .i64 q6]] w fun en w' => en = .returned (.tuple #[.agg #[.int .i64 p5, .int .i64 q5], .bool true]) ∧ Below w.heap.size w w'))
    (M6 : Hid (∀ w, Calls Try.prog 22 #[.agg #[.int .i64 N0, .int .i64 D0], .agg #[.int .i64 p4, .int .i64 q4]] w fun en w' => en = .returned (.tuple #[.agg #[.int .i64 p7, .int .i64 q7], .bool true]) ∧ Below w.heap.size w w'))
    (M7 : Hid (∀ w, Calls Try.prog 22 #[.agg #[.int .i64 N0, .int .i64 D0], .agg #[.int .i64 N2, .int .i64 D2]] w fun en w' => en = .returned (.tuple #[.agg #[.int .i64 p8, .int .i64 q8], .bool true]) ∧ Below w.heap.size w w'))
    (C1 : Hid (∀ w, Calls Try.prog 18 #[.agg #[.int .i64 p9, .int .i64 q9], .agg #[.int .i64 p4, .int .i64 q4]] w fun en w' => en = .returned (.int .i64 t) ∧ Below w.heap.size w w'))
    (C2 : Hid (∀ w, Calls Try.prog 18 #[.agg #[.int .i64 N0, .int .i64 D0], .agg #[.int .i64 N1, .int .i64 D1]] w fun en w' => en = .returned (.int .i64 t) ∧ Below w.heap.size w w'))
    (C3 : Hid (∀ w, Calls Try.prog 18 #[.agg #[.int .i64 p10, .int .i64 q10], .agg #[.int .i64 N0, .int .i64 D0]] w fun en w' => en = .returned (.int .i64 0) ∧ Below w.heap.size w w'))
    (L : Hid (∀ w, Calls Try.prog 24 #[.agg #[.int .i64 N0, .int .i64 D0]] w fun en w' => en = .returned (.tuple #[.agg #[.int .i64 p10, .int .i64 q10], .bool true]) ∧ Below w.heap.size w w'))
    (r0 : n0.tmod 262144 = N0) (r1 : n1.tmod 262144 = N1) (r2 : n2.tmod 262144 = N2)
    (b0 : -262144 < N0 ∧ N0 < 262144) (b1 : -262144 < N1 ∧ N1 < 262144) (b2 : -262144 < N2 ∧ N2 < 262144)
    (h0 : 1 ≤ D0 ∧ D0 ≤ 262144) (h1 : 1 ≤ D1 ∧ D1 ≤ 262144) (h2 : 1 ≤ D2 ∧ D2 ≤ 262144) (w : World) :
    Calls Try.prog 7 #[.agg #[.int .i64 n0, .int .i64 d0, .int .i64 n1, .int .i64 d1, .int .i64 n2, .int .i64 d2]] w fun en w' => en = .returned (.bool true) ∧ Below w.heap.size w w' := by
  have S := Lib.hid sanity_any
  have O := Lib.hid of_agg
  obtain ⟨h0a, h0b⟩ := h0
  obtain ⟨h1a, h1b⟩ := h1
  obtain ⟨h2a, h2b⟩ := h2
  obtain ⟨b0a, b0b⟩ := b0
  obtain ⟨b1a, b1b⟩ := b1
  obtain ⟨b2a, b2b⟩ := b2
  have wr0 : IntKind.i64.wrap D0 = D0 := IntWalk.i64_in _ (by omega)
  have wr1 : IntKind.i64.wrap D1 = D1 := IntWalk.i64_in _ (by omega)
  have wr2 : IntKind.i64.wrap D2 = D2 := IntWalk.i64_in _ (by omega)
  go_enter Try.func7, Try.ntmps7
  go_wp2_with fail
  refine (S.out _).mono ?_
  rintro en w1 ⟨rfl, hb⟩
  have x0 := kc hb (b := w.heap.size) (o := 0) (v := .int .i64 n0) (by go_cell)
  have fx0 := kf hb (b := w.heap.size) (o := 0) (v := .int .i64 n0) (t := false) (by go_cell) (by go_cell)
  have x1 := kc hb (b := w.heap.size) (o := 1) (v := .int .i64 d0) (by go_cell)
  have fx1 := kf hb (b := w.heap.size) (o := 1) (v := .int .i64 d0) (t := false) (by go_cell) (by go_cell)
  have x2 := kc hb (b := w.heap.size) (o := 2) (v := .int .i64 n1) (by go_cell)
  have fx2 := kf hb (b := w.heap.size) (o := 2) (v := .int .i64 n1) (t := false) (by go_cell) (by go_cell)
  have x3 := kc hb (b := w.heap.size) (o := 3) (v := .int .i64 d1) (by go_cell)
  have fx3 := kf hb (b := w.heap.size) (o := 3) (v := .int .i64 d1) (t := false) (by go_cell) (by go_cell)
  have x4 := kc hb (b := w.heap.size) (o := 4) (v := .int .i64 n2) (by go_cell)
  have fx4 := kf hb (b := w.heap.size) (o := 4) (v := .int .i64 n2) (t := false) (by go_cell) (by go_cell)
  have x5 := kc hb (b := w.heap.size) (o := 5) (v := .int .i64 d2) (by go_cell)
  have fx5 := kf hb (b := w.heap.size) (o := 5) (v := .int .i64 d2) (t := false) (by go_cell) (by go_cell)
  have hB : Below w.heap.size w w1 := bt (ba (Below.refl _ _) _) hb
  clear hb
  go_wp2_with fail
  refine wp_loop_rounds 4 ?_
  rw [rounds_succ]
  go_wp2_with fail
  apply share (R := fun wx => wx.cell? ⟨w.heap.size, 0, none⟩ = some (.int .i64 N0) ∧ wx.frozen? ⟨w.heap.size, 0, none⟩ = false ∧ wx.cell? ⟨w.heap.size, 1, none⟩ = some (.int .i64 D0) ∧ wx.frozen? ⟨w.heap.size, 1, none⟩ = false ∧ wx.cell? ⟨w.heap.size, 2, none⟩ = some (.int .i64 n1) ∧ wx.frozen? ⟨w.heap.size, 2, none⟩ = false ∧ wx.cell? ⟨w.heap.size, 3, none⟩ = some (.int .i64 d1) ∧ wx.frozen? ⟨w.heap.size, 3, none⟩ = false ∧ wx.cell? ⟨w.heap.size, 4, none⟩ = some (.int .i64 n2) ∧ wx.frozen? ⟨w.heap.size, 4, none⟩ = false ∧ wx.cell? ⟨w.heap.size, 5, none⟩ = some (.int .i64 d2) ∧ wx.frozen? ⟨w.heap.size, 5, none⟩ = false ∧ Below w.heap.size w wx)
  case hreg =>
    go_region_with (first
      | ((with_reducible refine (K0.out _).mono ?_); rintro en w' ⟨rfl, rfl⟩)
      | ((with_reducible refine (O.out _ _ _).mono ?_); rintro en wa ⟨rfl, hba⟩; (replace fx0 := kf hba x0 fx0); (replace x0 := kc hba x0); (replace fx1 := kf hba x1 fx1); (replace x1 := kc hba x1); (replace fx2 := kf hba x2 fx2); (replace x2 := kc hba x2); (replace fx3 := kf hba x3 fx3); (replace x3 := kc hba x3); (replace fx4 := kf hba x4 fx4); (replace x4 := kc hba x4); (replace fx5 := kf hba x5 fx5); (replace x5 := kc hba x5); (replace hB := bt (bd1 hB) hba)))
    all_goals exact ⟨rfl, by go_cell, by go_cell, by go_cell, by go_cell, by go_cell, by go_cell, by go_cell, by go_cell, by go_cell, by go_cell, by go_cell, by go_cell, bs (bs hB (by simp) _) (by simp) _⟩
  case hkey =>
  intro w2' hcut
  obtain ⟨y0, fy0, y1, fy1, y2, fy2, y3, fy3, y4, fy4, y5, fy5, hB'⟩ := hcut
  clear x0 fx0 x1 fx1 x2 fx2 x3 fx3 x4 fx4 x5 fx5 hB
  have x0 := y0
  have fx0 := fy0
  have x1 := y1
  have fx1 := fy1
  have x2 := y2
  have fx2 := fy2
  have x3 := y3
  have fx3 := fy3
  have x4 := y4
  have fx4 := fy4
  have x5 := y5
  have fx5 := fy5
  have hB := hB'
  clear y0 fy0 y1 fy1 y2 fy2 y3 fy3 y4 fy4 y5 fy5 hB'
  obtain ⟨w2, rfl⟩ : ∃ w2 : World, w2 = w2' := ⟨_, rfl⟩
  go_wp2_with fail
  rw [rounds_succ]
  go_wp2_with fail
  apply share (R := fun wx => wx.cell? ⟨w.heap.size, 0, none⟩ = some (.int .i64 N0) ∧ wx.frozen? ⟨w.heap.size, 0, none⟩ = false ∧ wx.cell? ⟨w.heap.size, 1, none⟩ = some (.int .i64 D0) ∧ wx.frozen? ⟨w.heap.size, 1, none⟩ = false ∧ wx.cell? ⟨w.heap.size, 2, none⟩ = some (.int .i64 N1) ∧ wx.frozen? ⟨w.heap.size, 2, none⟩ = false ∧ wx.cell? ⟨w.heap.size, 3, none⟩ = some (.int .i64 D1) ∧ wx.frozen? ⟨w.heap.size, 3, none⟩ = false ∧ wx.cell? ⟨w.heap.size, 4, none⟩ = some (.int .i64 n2) ∧ wx.frozen? ⟨w.heap.size, 4, none⟩ = false ∧ wx.cell? ⟨w.heap.size, 5, none⟩ = some (.int .i64 d2) ∧ wx.frozen? ⟨w.heap.size, 5, none⟩ = false ∧ Below w.heap.size w wx)
  case hreg =>
    go_region_with (first
      | ((with_reducible refine (K1.out _).mono ?_); rintro en w' ⟨rfl, rfl⟩)
      | ((with_reducible refine (O.out _ _ _).mono ?_); rintro en wa ⟨rfl, hba⟩; (replace fx0 := kf hba x0 fx0); (replace x0 := kc hba x0); (replace fx1 := kf hba x1 fx1); (replace x1 := kc hba x1); (replace fx2 := kf hba x2 fx2); (replace x2 := kc hba x2); (replace fx3 := kf hba x3 fx3); (replace x3 := kc hba x3); (replace fx4 := kf hba x4 fx4); (replace x4 := kc hba x4); (replace fx5 := kf hba x5 fx5); (replace x5 := kc hba x5); (replace hB := bt (bd1 hB) hba)))
    all_goals exact ⟨rfl, by go_cell, by go_cell, by go_cell, by go_cell, by go_cell, by go_cell, by go_cell, by go_cell, by go_cell, by go_cell, by go_cell, by go_cell, bs (bs hB (by simp) _) (by simp) _⟩
  case hkey =>
  intro w3' hcut
  obtain ⟨y0, fy0, y1, fy1, y2, fy2, y3, fy3, y4, fy4, y5, fy5, hB'⟩ := hcut
  clear x0 fx0 x1 fx1 x2 fx2 x3 fx3 x4 fx4 x5 fx5 hB
  have x0 := y0
  have fx0 := fy0
  have x1 := y1
  have fx1 := fy1
  have x2 := y2
  have fx2 := fy2
  have x3 := y3
  have fx3 := fy3
  have x4 := y4
  have fx4 := fy4
  have x5 := y5
  have fx5 := fy5
  have hB := hB'
  clear y0 fy0 y1 fy1 y2 fy2 y3 fy3 y4 fy4 y5 fy5 hB'
  obtain ⟨w3, rfl⟩ : ∃ w3 : World, w3 = w3' := ⟨_, rfl⟩
  go_wp2_with fail
  rw [rounds_succ]
  go_wp2_with fail
  apply share (R := fun wx => wx.cell? ⟨w.heap.size, 0, none⟩ = some (.int .i64 N0) ∧ wx.frozen? ⟨w.heap.size, 0, none⟩ = false ∧ wx.cell? ⟨w.heap.size, 1, none⟩ = some (.int .i64 D0) ∧ wx.frozen? ⟨w.heap.size, 1, none⟩ = false ∧ wx.cell? ⟨w.heap.size, 2, none⟩ = some (.int .i64 N1) ∧ wx.frozen? ⟨w.heap.size, 2, none⟩ = false ∧ wx.cell? ⟨w.heap.size, 3, none⟩ = some (.int .i64 D1) ∧ wx.frozen? ⟨w.heap.size, 3, none⟩ = false ∧ wx.cell? ⟨w.heap.size, 4, none⟩ = some (.int .i64 N2) ∧ wx.frozen? ⟨w.heap.size, 4, none⟩ = false ∧ wx.cell? ⟨w.heap.size, 5, none⟩ = some (.int .i64 D2) ∧ wx.frozen? ⟨w.heap.size, 5, none⟩ = false ∧ Below w.heap.size w wx)
  case hreg =>
    go_region_with (first
      | ((with_reducible refine (K2.out _).mono ?_); rintro en w' ⟨rfl, rfl⟩)
      | ((with_reducible refine (O.out _ _ _).mono ?_); rintro en wa ⟨rfl, hba⟩; (replace fx0 := kf hba x0 fx0); (replace x0 := kc hba x0); (replace fx1 := kf hba x1 fx1); (replace x1 := kc hba x1); (replace fx2 := kf hba x2 fx2); (replace x2 := kc hba x2); (replace fx3 := kf hba x3 fx3); (replace x3 := kc hba x3); (replace fx4 := kf hba x4 fx4); (replace x4 := kc hba x4); (replace fx5 := kf hba x5 fx5); (replace x5 := kc hba x5); (replace hB := bt (bd1 hB) hba)))
    all_goals exact ⟨rfl, by go_cell, by go_cell, by go_cell, by go_cell, by go_cell, by go_cell, by go_cell, by go_cell, by go_cell, by go_cell, by go_cell, by go_cell, bs (bs hB (by simp) _) (by simp) _⟩
  case hkey =>
  intro w4' hcut
  obtain ⟨y0, fy0, y1, fy1, y2, fy2, y3, fy3, y4, fy4, y5, fy5, hB'⟩ := hcut
  clear x0 fx0 x1 fx1 x2 fx2 x3 fx3 x4 fx4 x5 fx5 hB
  have x0 := y0
  have fx0 := fy0
  have x1 := y1
  have fx1 := fy1
  have x2 := y2
  have fx2 := fy2
  have x3 := y3
  have fx3 := fy3
  have x4 := y4
  have fx4 := fy4
  have x5 := y5
  have fx5 := fy5
  have hB := hB'
  clear y0 fy0 y1 fy1 y2 fy2 y3 fy3 y4 fy4 y5 fy5 hB'
  obtain ⟨w4, rfl⟩ : ∃ w4 : World, w4 = w4' := ⟨_, rfl⟩
  go_wp2_with fail
  rw [rounds_succ]
  go_wp2_with fail
  clear fx0 fx1 fx2 fx3 fx4 fx5
  go_cut [5, 6, 7] (fun s5 s6 s7 wx => ∃ b5 b6 b7 : Nat, s5 = .pointer (some ⟨b5, 0, none⟩) ∧ s6 = .pointer (some ⟨b6, 0, none⟩) ∧ s7 = .pointer (some ⟨b7, 0, none⟩) ∧ wx.cell? ⟨b5, 0, none⟩ = some (.int .i64 N0) ∧ wx.cell? ⟨b5, 1, none⟩ = some (.int .i64 D0) ∧ wx.cell? ⟨b6, 0, none⟩ = some (.int .i64 N1) ∧ wx.cell? ⟨b6, 1, none⟩ = some (.int .i64 D1) ∧ wx.cell? ⟨b7, 0, none⟩ = some (.int .i64 N2) ∧ wx.cell? ⟨b7, 1, none⟩ = some (.int .i64 D2) ∧ Below w4.heap.size w4 wx)
  case first =>
    clear hB
    have Y0 : ∀ w', Below w4.heap.size w4 w' → w'.cell? ⟨w.heap.size, 0, none⟩ = some (.int .i64 N0) := fun _ h => kc h x0
    have Y1 : ∀ w', Below w4.heap.size w4 w' → w'.cell? ⟨w.heap.size, 1, none⟩ = some (.int .i64 D0) := fun _ h => kc h x1
    have Y2 : ∀ w', Below w4.heap.size w4 w' → w'.cell? ⟨w.heap.size, 2, none⟩ = some (.int .i64 N1) := fun _ h => kc h x2
    have Y3 : ∀ w', Below w4.heap.size w4 w' → w'.cell? ⟨w.heap.size, 3, none⟩ = some (.int .i64 D1) := fun _ h => kc h x3
    have Y4 : ∀ w', Below w4.heap.size w4 w' → w'.cell? ⟨w.heap.size, 4, none⟩ = some (.int .i64 N2) := fun _ h => kc h x4
    have Y5 : ∀ w', Below w4.heap.size w4 w' → w'.cell? ⟨w.heap.size, 5, none⟩ = some (.int .i64 D2) := fun _ h => kc h x5
    clear x0 x1 x2 x3 x4 x5
    go_region_held3 (fun w' => Below w4.heap.size w4 w') (first | (with_reducible exact bd1 (Below.refl _ _)) | (with_reducible exact bd1 (ba (Below.refl _ _) _)) | (with_reducible exact bd1 (ba (ba (Below.refl _ _) _) _)) | (with_reducible exact bd1 (ba (ba (ba (Below.refl _ _) _) _) _))) (fail)
    all_goals (go_wp2_with fail; go_meet; exact ⟨_, _, _, rfl, rfl, rfl, by go_simp, by go_simp, by go_simp, by go_simp, by go_simp, by go_simp, by with_reducible assumption⟩)
  case rest => as_aux_lemma =>
  obtain ⟨b5, b6, b7, rfl, rfl, rfl, X0, X1, Y0, Y1, Z0, Z1, hb⟩ := hcut
  obtain ⟨w5, rfl⟩ : ∃ w5 : World, w5 = wc := ⟨_, rfl⟩
  replace hB := bt hB hb
  clear hb x0 x1 x2 x3 x4 x5
  go_upto_region 9 with (fail)
  obtain ⟨w6, hw6⟩ : ∃ w6 : World, w6 = w5.alloc (.cells #[.bool true] 4) := ⟨_, rfl⟩
  have OC : w6.cell? ⟨w5.heap.size, 0, none⟩ = some (.bool true) := by rw [hw6]; go_cell
  have OF : w6.frozen? ⟨w5.heap.size, 0, none⟩ = false := by rw [hw6]; go_cell
  replace X0 : w6.cell? ⟨b5, 0, none⟩ = some (.int .i64 N0) := by rw [hw6]; exact kc (ba (Below.refl _ _) _) X0
  replace X1 : w6.cell? ⟨b5, 1, none⟩ = some (.int .i64 D0) := by rw [hw6]; exact kc (ba (Below.refl _ _) _) X1
  replace Y0 : w6.cell? ⟨b6, 0, none⟩ = some (.int .i64 N1) := by rw [hw6]; exact kc (ba (Below.refl _ _) _) Y0
  replace Y1 : w6.cell? ⟨b6, 1, none⟩ = some (.int .i64 D1) := by rw [hw6]; exact kc (ba (Below.refl _ _) _) Y1
  replace Z0 : w6.cell? ⟨b7, 0, none⟩ = some (.int .i64 N2) := by rw [hw6]; exact kc (ba (Below.refl _ _) _) Z0
  replace Z1 : w6.cell? ⟨b7, 1, none⟩ = some (.int .i64 D2) := by rw [hw6]; exact kc (ba (Below.refl _ _) _) Z1
  replace hB : Below w.heap.size w w6 := by rw [hw6]; exact ba hB _
  rw [← hw6]
  clear hw6
  generalize w5.heap.size = bo at *
  go_cut [77] (fun s wx => s = .bool false ∧ Below w6.heap.size w6 wx)
  case first => as_aux_lemma =>
    clear hB
    have gX0 := cell_regrown X0
    have gX1 := cell_regrown X1
    have gY0 := cell_regrown Y0
    have gY1 := cell_regrown Y1
    have gZ0 := cell_regrown Z0
    have gZ1 := cell_regrown Z1
    have gOC := cell_regrown OC
    have okc := cell_regrown OC
    have okf := frozen_regrown OC OF
    refine wp_region_quiet_below (by kernel_rfl) (by kernel_rfl) ?_
    repeat (go_big_quiet_step ((first | (with_reducible exact Calls.regrown_of (sum_ok _ _ _ _ _ _ _ S1 _ (okc _ _) (okf _ _))) | (with_reducible exact Calls.regrown_of (sum_ok _ _ _ _ _ _ _ S2 _ (okc _ _) (okf _ _))) | (with_reducible exact Calls.regrown_of (sum_ok _ _ _ _ _ _ _ S3 _ (okc _ _) (okf _ _))) | (with_reducible exact Calls.regrown_of (sum_ok _ _ _ _ _ _ _ S4 _ (okc _ _) (okf _ _))) | (with_reducible exact Calls.regrown_of (sum_ok _ _ _ _ _ _ _ S5 _ (okc _ _) (okf _ _))) | (with_reducible exact Calls.regrown_of (sum_ok _ _ _ _ _ _ _ S6 _ (okc _ _) (okf _ _))) | (with_reducible exact Calls.regrown_of (sum_ok _ _ _ _ _ _ _ S7 _ (okc _ _) (okf _ _))) | (with_reducible exact Calls.regrown_of (sum_ok _ _ _ _ _ _ _ S8 _ (okc _ _) (okf _ _))) | (with_reducible exact Calls.regrown_of (mul_ok _ _ _ _ _ _ _ M1 _ (okc _ _) (okf _ _))) | (with_reducible exact Calls.regrown_of (mul_ok _ _ _ _ _ _ _ M2 _ (okc _ _) (okf _ _))) | (with_reducible exact Calls.regrown_of (mul_ok _ _ _ _ _ _ _ M3 _ (okc _ _) (okf _ _))) | (with_reducible exact Calls.regrown_of (mul_ok _ _ _ _ _ _ _ M4 _ (okc _ _) (okf _ _))) | (with_reducible exact Calls.regrown_of (mul_ok _ _ _ _ _ _ _ M5 _ (okc _ _) (okf _ _))) | (with_reducible exact Calls.regrown_of (mul_ok _ _ _ _ _ _ _ M6 _ (okc _ _) (okf _ _))) | (with_reducible exact Calls.regrown_of (mul_ok _ _ _ _ _ _ _ M7 _ (okc _ _) (okf _ _))) | (with_reducible exact Calls.regrown_of (C1.out _)) | (with_reducible exact Calls.regrown_of (C2.out _)) | (with_reducible exact Calls.regrown_of (C3.out _)) | (with_reducible exact Calls.regrown_of (O.out _ _ _)))))
    refine wpQuiet_nil ?_
    intro _ hw'
    obtain ⟨⟨dq, osq⟩, hw''⟩ := hw'
    subst hw''
    go_wp2_with fail
    go_meet
    exact ⟨rfl, below_regrown w6 dq osq⟩
  case rest => as_aux_lemma =>
  obtain ⟨rfl, hb⟩ := hcut
  obtain ⟨w7, rfl⟩ : ∃ w7 : World, w7 = wc := ⟨_, rfl⟩
  replace OF := kf hb OC OF
  replace X0 := kc hb X0
  replace X1 := kc hb X1
  replace Y0 := kc hb Y0
  replace Y1 := kc hb Y1
  replace Z0 := kc hb Z0
  replace Z1 := kc hb Z1
  replace OC := kc hb OC
  replace hB := bt hB hb
  clear hb
  go_upto_region 11 with (fail)
  go_cut [103] (fun s wx => s = .bool false ∧ Below w7.heap.size w7 wx)
  case first => as_aux_lemma =>
    clear hB
    have gX0 := cell_regrown X0
    have gX1 := cell_regrown X1
    have gY0 := cell_regrown Y0
    have gY1 := cell_regrown Y1
    have gZ0 := cell_regrown Z0
    have gZ1 := cell_regrown Z1
    have gOC := cell_regrown OC
    have okc := cell_regrown OC
    have okf := frozen_regrown OC OF
    refine wp_region_quiet_below (by kernel_rfl) (by kernel_rfl) ?_
    repeat (go_big_quiet_step ((first | (with_reducible exact Calls.regrown_of (sum_ok _ _ _ _ _ _ _ S1 _ (okc _ _) (okf _ _))) | (with_reducible exact Calls.regrown_of (sum_ok _ _ _ _ _ _ _ S2 _ (okc _ _) (okf _ _))) | (with_reducible exact Calls.regrown_of (sum_ok _ _ _ _ _ _ _ S3 _ (okc _ _) (okf _ _))) | (with_reducible exact Calls.regrown_of (sum_ok _ _ _ _ _ _ _ S4 _ (okc _ _) (okf _ _))) | (with_reducible exact Calls.regrown_of (sum_ok _ _ _ _ _ _ _ S5 _ (okc _ _) (okf _ _))) | (with_reducible exact Calls.regrown_of (sum_ok _ _ _ _ _ _ _ S6 _ (okc _ _) (okf _ _))) | (with_reducible exact Calls.regrown_of (sum_ok _ _ _ _ _ _ _ S7 _ (okc _ _) (okf _ _))) | (with_reducible exact Calls.regrown_of (sum_ok _ _ _ _ _ _ _ S8 _ (okc _ _) (okf _ _))) | (with_reducible exact Calls.regrown_of (mul_ok _ _ _ _ _ _ _ M1 _ (okc _ _) (okf _ _))) | (with_reducible exact Calls.regrown_of (mul_ok _ _ _ _ _ _ _ M2 _ (okc _ _) (okf _ _))) | (with_reducible exact Calls.regrown_of (mul_ok _ _ _ _ _ _ _ M3 _ (okc _ _) (okf _ _))) | (with_reducible exact Calls.regrown_of (mul_ok _ _ _ _ _ _ _ M4 _ (okc _ _) (okf _ _))) | (with_reducible exact Calls.regrown_of (mul_ok _ _ _ _ _ _ _ M5 _ (okc _ _) (okf _ _))) | (with_reducible exact Calls.regrown_of (mul_ok _ _ _ _ _ _ _ M6 _ (okc _ _) (okf _ _))) | (with_reducible exact Calls.regrown_of (mul_ok _ _ _ _ _ _ _ M7 _ (okc _ _) (okf _ _))) | (with_reducible exact Calls.regrown_of (C1.out _)) | (with_reducible exact Calls.regrown_of (C2.out _)) | (with_reducible exact Calls.regrown_of (C3.out _)) | (with_reducible exact Calls.regrown_of (O.out _ _ _)))))
    refine wpQuiet_nil ?_
    intro _ hw'
    obtain ⟨⟨dq, osq⟩, hw''⟩ := hw'
    subst hw''
    go_wp2_with fail
    go_meet
    exact ⟨rfl, below_regrown w7 dq osq⟩
  case rest => as_aux_lemma =>
  obtain ⟨rfl, hb⟩ := hcut
  obtain ⟨w8, rfl⟩ : ∃ w8 : World, w8 = wc := ⟨_, rfl⟩
  replace OF := kf hb OC OF
  replace X0 := kc hb X0
  replace X1 := kc hb X1
  replace Y0 := kc hb Y0
  replace Y1 := kc hb Y1
  replace Z0 := kc hb Z0
  replace Z1 := kc hb Z1
  replace OC := kc hb OC
  replace hB := bt hB hb
  clear hb
  go_wp2_with fail
  refine (L.out _).mono ?_
  rintro en w9 ⟨rfl, hb⟩
  replace OF := kf hb OC OF
  replace X0 := kc hb X0
  replace X1 := kc hb X1
  replace Y0 := kc hb Y0
  replace Y1 := kc hb Y1
  replace Z0 := kc hb Z0
  replace Z1 := kc hb Z1
  replace OC := kc hb OC
  replace hB := bt hB hb
  clear hb
  go_upto_region 14 with (fail)
  obtain ⟨w10, hw10⟩ : ∃ w10 : World, w10 = w9.alloc (.cells #[.int .i64 p10, .int .i64 q10] 33) := ⟨_, rfl⟩
  have V0 : w10.cell? ⟨w9.heap.size, 0, none⟩ = some (.int .i64 p10) := by rw [hw10]; go_cell
  have V1 : w10.cell? ⟨w9.heap.size, 1, none⟩ = some (.int .i64 q10) := by rw [hw10]; go_cell
  replace OF : w10.frozen? ⟨bo, 0, none⟩ = false := by rw [hw10]; exact kf (ba (Below.refl _ _) _) OC OF
  replace OC : w10.cell? ⟨bo, 0, none⟩ = some (.bool true) := by rw [hw10]; exact kc (ba (Below.refl _ _) _) OC
  replace X0 : w10.cell? ⟨b5, 0, none⟩ = some (.int .i64 N0) := by rw [hw10]; exact kc (ba (Below.refl _ _) _) X0
  replace X1 : w10.cell? ⟨b5, 1, none⟩ = some (.int .i64 D0) := by rw [hw10]; exact kc (ba (Below.refl _ _) _) X1
  replace Y0 : w10.cell? ⟨b6, 0, none⟩ = some (.int .i64 N1) := by rw [hw10]; exact kc (ba (Below.refl _ _) _) Y0
  replace Y1 : w10.cell? ⟨b6, 1, none⟩ = some (.int .i64 D1) := by rw [hw10]; exact kc (ba (Below.refl _ _) _) Y1
  replace Z0 : w10.cell? ⟨b7, 0, none⟩ = some (.int .i64 N2) := by rw [hw10]; exact kc (ba (Below.refl _ _) _) Z0
  replace Z1 : w10.cell? ⟨b7, 1, none⟩ = some (.int .i64 D2) := by rw [hw10]; exact kc (ba (Below.refl _ _) _) Z1
  replace hB : Below w.heap.size w w10 := by rw [hw10]; exact ba hB _
  rw [← hw10]
  clear hw10
  generalize w9.heap.size = bl at *
  have gX0 := cell_regrown X0
  have gX1 := cell_regrown X1
  have gY0 := cell_regrown Y0
  have gY1 := cell_regrown Y1
  have gZ0 := cell_regrown Z0
  have gZ1 := cell_regrown Z1
  have gOC := cell_regrown OC
  have okc := cell_regrown OC
  have okf := frozen_regrown OC OF
  have gV0 := cell_regrown V0
  have gV1 := cell_regrown V1
  refine wp_region_quiet_below (by kernel_rfl) (by kernel_rfl) ?_
  repeat (go_big_quiet_step ((first | (with_reducible exact Calls.regrown_of (sum_ok _ _ _ _ _ _ _ S1 _ (okc _ _) (okf _ _))) | (with_reducible exact Calls.regrown_of (sum_ok _ _ _ _ _ _ _ S2 _ (okc _ _) (okf _ _))) | (with_reducible exact Calls.regrown_of (sum_ok _ _ _ _ _ _ _ S3 _ (okc _ _) (okf _ _))) | (with_reducible exact Calls.regrown_of (sum_ok _ _ _ _ _ _ _ S4 _ (okc _ _) (okf _ _))) | (with_reducible exact Calls.regrown_of (sum_ok _ _ _ _ _ _ _ S5 _ (okc _ _) (okf _ _))) | (with_reducible exact Calls.regrown_of (sum_ok _ _ _ _ _ _ _ S6 _ (okc _ _) (okf _ _))) | (with_reducible exact Calls.regrown_of (sum_ok _ _ _ _ _ _ _ S7 _ (okc _ _) (okf _ _))) | (with_reducible exact Calls.regrown_of (sum_ok _ _ _ _ _ _ _ S8 _ (okc _ _) (okf _ _))) | (with_reducible exact Calls.regrown_of (mul_ok _ _ _ _ _ _ _ M1 _ (okc _ _) (okf _ _))) | (with_reducible exact Calls.regrown_of (mul_ok _ _ _ _ _ _ _ M2 _ (okc _ _) (okf _ _))) | (with_reducible exact Calls.regrown_of (mul_ok _ _ _ _ _ _ _ M3 _ (okc _ _) (okf _ _))) | (with_reducible exact Calls.regrown_of (mul_ok _ _ _ _ _ _ _ M4 _ (okc _ _) (okf _ _))) | (with_reducible exact Calls.regrown_of (mul_ok _ _ _ _ _ _ _ M5 _ (okc _ _) (okf _ _))) | (with_reducible exact Calls.regrown_of (mul_ok _ _ _ _ _ _ _ M6 _ (okc _ _) (okf _ _))) | (with_reducible exact Calls.regrown_of (mul_ok _ _ _ _ _ _ _ M7 _ (okc _ _) (okf _ _))) | (with_reducible exact Calls.regrown_of (C1.out _)) | (with_reducible exact Calls.regrown_of (C2.out _)) | (with_reducible exact Calls.regrown_of (C3.out _)) | (with_reducible exact Calls.regrown_of (O.out _ _ _)))))
  refine wpQuiet_nil ?_
  intro _ hw'
  obtain ⟨⟨dq, osq⟩, hw''⟩ := hw'
  subst hw''
  go_wp2
  go_ret
  exact ⟨rfl, bt hB (below_regrown w10 dq osq)⟩

end Go.Proofs.Ytijpkacjbnijoaa.Ex
