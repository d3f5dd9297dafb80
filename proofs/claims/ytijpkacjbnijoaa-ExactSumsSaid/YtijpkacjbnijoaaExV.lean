/-
  The walk of the law ExactOrder.
-/
import Derived.Test.YtijpkacjbnijoaaExP
import Derived.Lib.QuietBelow
import Derived.BigQuiet
namespace Go.Proofs.Ytijpkacjbnijoaa.Ex
open Go.RowKit Go.Sort

set_option maxRecDepth 100000 in
set_option maxHeartbeats 4000000 in
theorem order_walk (n0 d0 n1 d1 n2 d2 n m D0 D1 D2 a b c t : Int)
    (M0 : Hid (∀ w, Calls Try.prog 16 #[.int .i64 d0, .int .i64 4611686018427387904] w fun e w' => e = .returned (.int .i64 (D0 - 1)) ∧ w = w'))
    (M1 : Hid (∀ w, Calls Try.prog 16 #[.int .i64 d1, .int .i64 4611686018427387904] w fun e w' => e = .returned (.int .i64 (D1 - 1)) ∧ w = w'))
    (M2 : Hid (∀ w, Calls Try.prog 16 #[.int .i64 d2, .int .i64 4611686018427387904] w fun e w' => e = .returned (.int .i64 (D2 - 1)) ∧ w = w'))
    (C01 : Hid (∀ w, Calls Try.prog 18 #[.agg #[.int .i64 n0, .int .i64 D0], .agg #[.int .i64 n1, .int .i64 D1]] w fun en w' => en = .returned (.int .i64 a) ∧ Below w.heap.size w w'))
    (C12 : Hid (∀ w, Calls Try.prog 18 #[.agg #[.int .i64 n1, .int .i64 D1], .agg #[.int .i64 n2, .int .i64 D2]] w fun en w' => en = .returned (.int .i64 b) ∧ Below w.heap.size w w'))
    (C02 : Hid (∀ w, Calls Try.prog 18 #[.agg #[.int .i64 n0, .int .i64 D0], .agg #[.int .i64 n2, .int .i64 D2]] w fun en w' => en = .returned (.int .i64 c) ∧ Below w.heap.size w w'))
    (C10 : Hid (∀ w, Calls Try.prog 18 #[.agg #[.int .i64 n1, .int .i64 D1], .agg #[.int .i64 n0, .int .i64 D0]] w fun en w' => en = .returned (.int .i64 (-a)) ∧ Below w.heap.size w w'))
    (C00 : Hid (∀ w, Calls Try.prog 18 #[.agg #[.int .i64 n0, .int .i64 D0], .agg #[.int .i64 n0, .int .i64 D0]] w fun en w' => en = .returned (.int .i64 0) ∧ Below w.heap.size w w'))
    (CN : Hid (∀ w, Calls Try.prog 18 #[.agg #[.int .i64 n, .int .i64 1], .agg #[.int .i64 m, .int .i64 1]] w fun en w' => en = .returned (.int .i64 t) ∧ Below w.heap.size w w'))
    (CX : Hid (∀ w, Calls Try.prog 18 #[.agg #[.int .i64 n, .int .i64 (-D0)], .agg #[.int .i64 n0, .int .i64 D0]] w fun en w' => en = .returned (.int .i64 0) ∧ Below w.heap.size w w'))
    (CY : Hid (∀ w, Calls Try.prog 18 #[.agg #[.int .i64 n0, .int .i64 D0], .agg #[.int .i64 m, .int .i64 0]] w fun en w' => en = .returned (.int .i64 0) ∧ Below w.heap.size w w'))
    (h0 : 1 ≤ D0 ∧ D0 ≤ 4611686018427387904) (h1 : 1 ≤ D1 ∧ D1 ≤ 4611686018427387904) (h2 : 1 ≤ D2 ∧ D2 ≤ 4611686018427387904)
    (ha : a = -1 ∨ a = 0 ∨ a = 1) (e0 : a = 0 → b = c) (e1 : 0 < a → 0 < b → 0 < c) (e2 : a < 0 → b < 0 → c < 0)
    (t0 : n < m → t = -1) (t1 : n = m → t = 0) (t2 : m < n → t = 1) (w : World) :
    Calls Try.prog 5 #[.agg #[.int .i64 n0, .int .i64 d0, .int .i64 n1, .int .i64 d1, .int .i64 n2, .int .i64 d2], .int .i64 n, .int .i64 m] w fun en w' => en = .returned (.bool true) ∧ Below w.heap.size w w' := by
  have S := Lib.hid sanity_any
  have O := Lib.hid of_agg
  have HA := Lib.hid (And.intro ha (And.intro e0 (And.intro e1 e2)))
  have HT := Lib.hid (And.intro t0 (And.intro t1 t2))
  obtain ⟨h0a, h0b⟩ := h0
  obtain ⟨h1a, h1b⟩ := h1
  obtain ⟨h2a, h2b⟩ := h2
  clear ha e0 e1 e2 t0 t1 t2
  go_enter Try.func5, Try.ntmps5
  go_wp2_with fail
  refine (S.out _).mono ?_
  rintro en w1 ⟨rfl, hb⟩
  have x0 := kc hb (b := w.heap.size) (o := 0) (v := .int .i64 n0) (by go_cell)
  have fx0 := kf hb (b := w.heap.size) (o := 0) (v := .int .i64 n0) (t := false) (by go_cell) (by go_cell)
  have x1 := kc hb (b := w.heap.size) (o := 1) (v := .int .i64 d0) (by go_cell)
  have fx1 := kf hb (b := w.heap.size) (o := 1) (v := .int .i64 d0) (t := false) (by go_cell) (by go_cell)
  have x2 := kc hb (b := w.heap.size) (o := 2) (v := .int .i64 n1) (by go_cell)
  have fx2 := kf hb (b := w.heap.size) (o := 2) (v := .int .i64 n1) (t := false) (by go_cell) (by go_cell)
  have x3 := kc hb (b := w.heap.size) (o := 3) (v := .int .i64 d1) (by go_cell)
  have fx3 := kf hb (b := w.heap.size) (o := 3) (v := .int .i64 d1) (t := false) (by go_cell) (by go_cell)
  have x4 := kc hb (b := w.heap.size) (o := 4) (v := .int .i64 n2) (by go_cell)
  have fx4 := kf hb (b := w.heap.size) (o := 4) (v := .int .i64 n2) (t := false) (by go_cell) (by go_cell)
  have x5 := kc hb (b := w.heap.size) (o := 5) (v := .int .i64 d2) (by go_cell)
  have fx5 := kf hb (b := w.heap.size) (o := 5) (v := .int .i64 d2) (t := false) (by go_cell) (by go_cell)
  have hB : Below w.heap.size w w1 := bt (ba (Below.refl _ _) _) hb
  clear hb
  go_wp2_with fail
  refine wp_loop_rounds 4 ?_
  rw [rounds_succ]
  go_wp2_with fail
  refine (M0.out _).mono ?_
  rintro en w' ⟨rfl, rfl⟩
  go_wp2_with fail
  rw [rounds_succ]
  go_wp2_with fail
  refine (M1.out _).mono ?_
  rintro en w' ⟨rfl, rfl⟩
  go_wp2_with fail
  rw [rounds_succ]
  go_wp2_with fail
  refine (M2.out _).mono ?_
  rintro en w' ⟨rfl, rfl⟩
  go_wp2_with fail
  rw [rounds_succ]
  go_wp2_with fail
  obtain ⟨w2, hw2⟩ : ∃ w2 : World, w2 = ((w1.setCell ⟨w.heap.size, 1, none⟩ (.int .i64 D0)).setCell ⟨w.heap.size, 3, none⟩ (.int .i64 D1)).setCell ⟨w.heap.size, 5, none⟩ (.int .i64 D2) := ⟨_, rfl⟩
  have y0 : w2.cell? ⟨w.heap.size, 0, none⟩ = some (.int .i64 n0) := by rw [hw2]; go_cell
  have y1 : w2.cell? ⟨w.heap.size, 1, none⟩ = some (.int .i64 D0) := by rw [hw2]; go_cell
  have y2 : w2.cell? ⟨w.heap.size, 2, none⟩ = some (.int .i64 n1) := by rw [hw2]; go_cell
  have y3 : w2.cell? ⟨w.heap.size, 3, none⟩ = some (.int .i64 D1) := by rw [hw2]; go_cell
  have y4 : w2.cell? ⟨w.heap.size, 4, none⟩ = some (.int .i64 n2) := by rw [hw2]; go_cell
  have y5 : w2.cell? ⟨w.heap.size, 5, none⟩ = some (.int .i64 D2) := by rw [hw2]; go_cell
  replace hB : Below w.heap.size w w2 := by rw [hw2]; exact bs (bs (bs hB (by simp) _) (by simp) _) (by simp) _
  rw [← hw2]
  clear hw2 x0 x1 x2 x3 x4 x5 fx0 fx1 fx2 fx3 fx4 fx5
  go_upto_region 7 with (fail)
  go_cut [9, 10, 11] (fun s9 s10 s11 wx => s9 = .int .i64 a ∧ s10 = .int .i64 b ∧ s11 = .int .i64 c ∧ Below w2.heap.size w2 wx)
  case first =>
    clear hB
    have z0 := cell_regrown y0
    have z1 := cell_regrown y1
    have z2 := cell_regrown y2
    have z3 := cell_regrown y3
    have z4 := cell_regrown y4
    have z5 := cell_regrown y5
    refine wp_region_quiet_below (by kernel_rfl) (by kernel_rfl) ?_
    repeat (go_big_quiet_step ((first | (with_reducible exact Calls.regrown_of (C01.out _)) | (with_reducible exact Calls.regrown_of (C12.out _)) | (with_reducible exact Calls.regrown_of (C02.out _)))))
    refine wpQuiet_nil ?_
    intro _ hw'
    obtain ⟨⟨dq, osq⟩, hw''⟩ := hw'
    subst hw''
    go_wp2_with fail
    go_meet
    exact ⟨rfl, rfl, rfl, below_regrown w2 dq osq⟩
  case rest =>
  obtain ⟨rfl, rfl, rfl, hb⟩ := hcut
  obtain ⟨w3, rfl⟩ : ∃ w3 : World, w3 = wc := ⟨_, rfl⟩
  replace y0 := kc hb y0
  replace y1 := kc hb y1
  replace y2 := kc hb y2
  replace y3 := kc hb y3
  replace y4 := kc hb y4
  replace y5 := kc hb y5
  replace hB := bt hB hb
  clear hb
  go_upto_region 8 with (fail)
  go_cut [90] (fun s wx => s = .bool false ∧ Below w3.heap.size w3 wx)
  case first =>
    clear hB
    obtain ⟨ha, e0, e1, e2⟩ := HA.out
    rcases ha with rfl | rfl | rfl
    · clear e0 e1
      rcases Int.lt_or_le b 0 with hb | hb
      · have hc' := e2 (by omega) hb
        have hc : decide (0 ≤ c) = false := decide_eq_false (by omega)
        clear hc'
        clear e2
        go_wp2_with fail
        refine (C10.out _).mono ?_
        rintro en w4 ⟨rfl, hb4⟩
        have v0 := kc hb4 y0
        have v1 := kc hb4 y1
        go_wp2_with fail
        refine (C00.out _).mono ?_
        rintro en w5 ⟨rfl, hb5⟩
        go_wp2_with fail
        go_meet
        exact ⟨rfl, bt hb4 hb5⟩
      · clear e2
        go_wp2_with fail
        refine (C10.out _).mono ?_
        rintro en w4 ⟨rfl, hb4⟩
        have v0 := kc hb4 y0
        have v1 := kc hb4 y1
        go_wp2_with fail
        refine (C00.out _).mono ?_
        rintro en w5 ⟨rfl, hb5⟩
        go_wp2_with fail
        go_meet
        exact ⟨rfl, bt hb4 hb5⟩
    · have hbc := e0 rfl
      subst hbc
      clear e0 e1 e2
      go_wp2_with fail
      refine (C10.out _).mono ?_
      rintro en w4 ⟨rfl, hb4⟩
      have v0 := kc hb4 y0
      have v1 := kc hb4 y1
      go_wp2_with fail
      refine (C00.out _).mono ?_
      rintro en w5 ⟨rfl, hb5⟩
      go_wp2_with fail
      go_meet
      exact ⟨rfl, bt hb4 hb5⟩
    · clear e0 e2
      rcases Int.lt_or_le 0 b with hb | hb
      · have hc' := e1 (by omega) hb
        have hc : decide (c ≤ 0) = false := decide_eq_false (by omega)
        clear hc'
        clear e1
        go_wp2_with fail
        refine (C10.out _).mono ?_
        rintro en w4 ⟨rfl, hb4⟩
        have v0 := kc hb4 y0
        have v1 := kc hb4 y1
        go_wp2_with fail
        refine (C00.out _).mono ?_
        rintro en w5 ⟨rfl, hb5⟩
        go_wp2_with fail
        go_meet
        exact ⟨rfl, bt hb4 hb5⟩
      · clear e1
        go_wp2_with fail
        refine (C10.out _).mono ?_
        rintro en w4 ⟨rfl, hb4⟩
        have v0 := kc hb4 y0
        have v1 := kc hb4 y1
        go_wp2_with fail
        refine (C00.out _).mono ?_
        rintro en w5 ⟨rfl, hb5⟩
        go_wp2_with fail
        go_meet
        exact ⟨rfl, bt hb4 hb5⟩
  case rest =>
  obtain ⟨rfl, hb⟩ := hcut
  obtain ⟨w4, rfl⟩ : ∃ w4 : World, w4 = wc := ⟨_, rfl⟩
  replace y0 := kc hb y0
  replace y1 := kc hb y1
  replace hB := bt hB hb
  clear hb y2 y3 y4 y5
  have z0 := cell_regrown y0
  have z1 := cell_regrown y1
  obtain ⟨t0, t1, t2⟩ := HT.out
  rcases (by omega : n < m ∨ n = m ∨ m < n) with hlt | hlt | hlt
  · have ht := t0 hlt
    subst ht
    clear t0 t1 t2
    go_upto_region 15 with (fail)
    refine wp_region_quiet_below (by kernel_rfl) (by kernel_rfl) ?_
    repeat (go_big_quiet_step ((first | (with_reducible exact Calls.regrown_of (O.out _ _ _)) | (with_reducible exact Calls.regrown_of (CN.out _)) | (with_reducible exact Calls.regrown_of (CX.out _)) | (with_reducible exact Calls.regrown_of (CY.out _)))))
    refine wpQuiet_nil ?_
    intro _ hw'
    obtain ⟨⟨dq, osq⟩, hw''⟩ := hw'
    subst hw''
    go_wp2
    go_ret
    exact ⟨rfl, bt hB (below_regrown w4 dq osq)⟩
  · have ht := t1 hlt
    subst ht hlt
    clear t0 t1 t2
    go_upto_region 15 with (fail)
    refine wp_region_quiet_below (by kernel_rfl) (by kernel_rfl) ?_
    repeat (go_big_quiet_step ((first | (with_reducible exact Calls.regrown_of (O.out _ _ _)) | (with_reducible exact Calls.regrown_of (CN.out _)) | (with_reducible exact Calls.regrown_of (CX.out _)) | (with_reducible exact Calls.regrown_of (CY.out _)))))
    refine wpQuiet_nil ?_
    intro _ hw'
    obtain ⟨⟨dq, osq⟩, hw''⟩ := hw'
    subst hw''
    go_wp2
    go_ret
    exact ⟨rfl, bt hB (below_regrown w4 dq osq)⟩
  · have ht := t2 hlt
    subst ht
    clear t0 t1 t2
    go_upto_region 15 with (fail)
    refine wp_region_quiet_below (by kernel_rfl) (by kernel_rfl) ?_
    repeat (go_big_quiet_step ((first | (with_reducible exact Calls.regrown_of (O.out _ _ _)) | (with_reducible exact Calls.regrown_of (CN.out _)) | (with_reducible exact Calls.regrown_of (CX.out _)) | (with_reducible exact Calls.regrown_of (CY.out _)))))
    refine wpQuiet_nil ?_
    intro _ hw'
    obtain ⟨⟨dq, osq⟩, hw''⟩ := hw'
    subst hw''
    go_wp2
    go_ret
    exact ⟨rfl, bt hB (below_regrown w4 dq osq)⟩

end Go.Proofs.Ytijpkacjbnijoaa.Ex
