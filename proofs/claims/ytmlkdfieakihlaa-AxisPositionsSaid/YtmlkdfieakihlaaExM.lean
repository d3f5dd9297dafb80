/-
  The walks of layer 1 (exact): Mul.
-/
import Derived.Test.YtmlkdfieakihlaaExL
namespace Go.Proofs.Ytmlkdfieakihlaa.Ex
open Go.RowKit

theorem quo_wrap' (a b : Int) (ha : -9223372036854775808 ≤ a ∧ a ≤ 9223372036854775807) (hb : 1 ≤ b) (h : b ∣ a) : IntKind.i64.wrap (a.tdiv b) = a / b := by
  rw [Int.tdiv_eq_ediv_of_dvd h]
  obtain ⟨k, rfl⟩ := h
  rw [Int.mul_ediv_cancel_left _ (by omega)]
  have hk : k.natAbs ≤ (b * k).natAbs := by rw [Int.natAbs_mul]; exact Nat.le_mul_of_pos_left _ (by omega)
  by_cases hn : k < 0
  · have h0 : b * k ≤ 0 := by
      have : b * -k ≥ 0 := Int.mul_nonneg (by omega) (by omega)
      rw [Int.mul_neg] at this; omega
    exact IntWalk.i64_in _ (by omega)
  · have h0 : 0 ≤ b * k := Int.mul_nonneg (by omega) (by omega)
    exact IntWalk.i64_in _ (by omega)

set_option maxHeartbeats 2000000 in
theorem mul_core (n d m e n1 d1 m1 e1 g h n2 m2 d2 e2 : Int)
    (B : Hid (∀ w, Calls Try.prog 54 #[ratV n d, ratV m e] w fun en w' => en = .returned (.tuple #[ratV n1 d1, ratV m1 e1, .bool true]) ∧ Below w.heap.size w w'))
    (G : Hid (∀ w, Calls Try.prog 55 #[.int .i64 n1, .int .i64 e1] w fun en w' => en = .returned (.int .i64 g) ∧ Below w.heap.size w w'))
    (K : Hid (∀ w, Calls Try.prog 55 #[.int .i64 m1, .int .i64 d1] w fun en w' => en = .returned (.int .i64 h) ∧ Below w.heap.size w w'))
    (P : Hid (∀ w, Calls Try.prog 50 #[.int .i64 n2, .int .i64 m2] w fun en w' => en = .returned (wideV (n2 * m2)) ∧ Below w.heap.size w w'))
    (Q : Hid (∀ w, Calls Try.prog 50 #[.int .i64 d2, .int .i64 e2] w fun en w' => en = .returned (wideV (d2 * e2)) ∧ Below w.heap.size w w'))
    (X : Hid (∀ w, Calls Try.prog 56 #[wideV (n2 * m2), wideV (d2 * e2), .int .u64 1] w fun en w' => en = .returned (.tuple #[ratV (rtN (n2 * m2) (d2 * e2) 1) (rtD (n2 * m2) (d2 * e2) 1), .bool (rtB (n2 * m2) (d2 * e2) 1)]) ∧ Below w.heap.size w w'))
    (q1 : IntKind.i64.wrap (n1.tdiv g) = n2) (q2 : IntKind.i64.wrap (m1.tdiv h) = m2) (q3 : IntKind.i64.wrap (d1.tdiv h) = d2) (q4 : IntKind.i64.wrap (e1.tdiv g) = e2)
    (t3 : d1 / h = d2) (t4 : e1 / g = e2)
    (hg : 1 ≤ g) (hh : 1 ≤ h) (w : World) :
    Calls Try.prog 37 #[ratV n d, ratV m e] w fun en w' => en = .returned (.tuple #[ratV (rtN (n2 * m2) (d2 * e2) 1) (rtD (n2 * m2) (d2 * e2) 1), .bool (rtB (n2 * m2) (d2 * e2) 1)]) ∧ Below w.heap.size w w' := by
  unfold ratV wideV at *
  generalize rtN (n2 * m2) (d2 * e2) 1 = xn at *
  generalize rtD (n2 * m2) (d2 * e2) 1 = xd at *
  generalize rtB (n2 * m2) (d2 * e2) 1 = xb at *
  generalize hiW (n2 * m2) = N0 at *
  generalize loW (n2 * m2) = N1 at *
  generalize hiW (d2 * e2) = D0 at *
  generalize loW (d2 * e2) = D1 at *
  have Q1 := Lib.hid q1
  have Q2 := Lib.hid q2
  have Q3 := Lib.hid q3
  have Q4 := Lib.hid q4
  have T3 := Lib.hid t3
  have T4 := Lib.hid t4
  clear q1 q2 q3 q4 t3 t4
  go_enter Try.func37, Try.ntmps37
  go_wp2_with fail
  refine (B.out _).mono ?_
  rintro en w1 ⟨rfl, hb1⟩
  have a1 := kc hb1 (b := w.heap.size) (o := 0) (v := .int .i64 n) (by go_cell)
  have fa1 := kf hb1 (b := w.heap.size) (o := 0) (v := .int .i64 n) (t := false) (by go_cell) (by go_cell)
  have b1 := kc hb1 (b := w.heap.size) (o := 1) (v := .int .i64 d) (by go_cell)
  have fb1 := kf hb1 (b := w.heap.size) (o := 1) (v := .int .i64 d) (t := false) (by go_cell) (by go_cell)
  have c1 := kc hb1 (b := w.heap.size + 1) (o := 0) (v := .int .i64 m) (by go_cell)
  have fc1 := kf hb1 (b := w.heap.size + 1) (o := 0) (v := .int .i64 m) (t := false) (by go_cell) (by go_cell)
  have g1 := kc hb1 (b := w.heap.size + 1) (o := 1) (v := .int .i64 e) (by go_cell)
  have fg1 := kf hb1 (b := w.heap.size + 1) (o := 1) (v := .int .i64 e) (t := false) (by go_cell) (by go_cell)
  have r1 := kc hb1 (b := w.heap.size + 1 + 1) (o := 0) (v := .int .i64 0) (by go_cell)
  have fr1 := kf hb1 (b := w.heap.size + 1 + 1) (o := 0) (v := .int .i64 0) (t := false) (by go_cell) (by go_cell)
  have s1 := kc hb1 (b := w.heap.size + 1 + 1) (o := 1) (v := .int .i64 0) (by go_cell)
  have fs1 := kf hb1 (b := w.heap.size + 1 + 1) (o := 1) (v := .int .i64 0) (t := false) (by go_cell) (by go_cell)
  have hB : Below w.heap.size w w1 := bt (ba (ba (ba (Below.refl _ _) _) _) _) hb1
  clear hb1
  go_upto_region 4 with (fail)
  obtain ⟨w2, hw2⟩ : ∃ w2 : World, w2 = (((w1.setCell ⟨w.heap.size, 0, none⟩ (.int .i64 n1)).setCell ⟨w.heap.size, 1, none⟩ (.int .i64 d1)).setCell ⟨w.heap.size + 1, 0, none⟩ (.int .i64 m1)).setCell ⟨w.heap.size + 1, 1, none⟩ (.int .i64 e1) := ⟨_, rfl⟩
  have hB2 : Below w.heap.size w w2 := by rw [hw2]; exact bs (bs (bs (bs hB (by simp) _) (by simp) _) (by simp) _) (by simp) _
  have a2 : w2.cell? ⟨w.heap.size, 0, none⟩ = some (.int .i64 n1) := by rw [hw2]; go_cell
  have b2 : w2.cell? ⟨w.heap.size, 1, none⟩ = some (.int .i64 d1) := by rw [hw2]; go_cell
  have c2 : w2.cell? ⟨w.heap.size + 1, 0, none⟩ = some (.int .i64 m1) := by rw [hw2]; go_cell
  have g2 : w2.cell? ⟨w.heap.size + 1, 1, none⟩ = some (.int .i64 e1) := by rw [hw2]; go_cell
  have r2 : w2.cell? ⟨w.heap.size + 1 + 1, 0, none⟩ = some (.int .i64 0) := by rw [hw2]; go_cell
  have s2 : w2.cell? ⟨w.heap.size + 1 + 1, 1, none⟩ = some (.int .i64 0) := by rw [hw2]; go_cell
  have fr2 : w2.frozen? ⟨w.heap.size + 1 + 1, 0, none⟩ = false := by rw [hw2]; go_cell
  have fs2 : w2.frozen? ⟨w.heap.size + 1 + 1, 1, none⟩ = false := by rw [hw2]; go_cell
  rw [← hw2]
  clear hw2 hB a1 fa1 b1 fb1 c1 fc1 g1 fg1 r1 fr1 s1 fs1
  have A3 : ∀ w', Below w2.heap.size w2 w' → w'.cell? ⟨w.heap.size, 0, none⟩ = some (.int .i64 n1) := fun _ h => kc h a2
  have B3 : ∀ w', Below w2.heap.size w2 w' → w'.cell? ⟨w.heap.size, 1, none⟩ = some (.int .i64 d1) := fun _ h => kc h b2
  have C3 : ∀ w', Below w2.heap.size w2 w' → w'.cell? ⟨w.heap.size + 1, 0, none⟩ = some (.int .i64 m1) := fun _ h => kc h c2
  have G3 : ∀ w', Below w2.heap.size w2 w' → w'.cell? ⟨w.heap.size + 1, 1, none⟩ = some (.int .i64 e1) := fun _ h => kc h g2
  go_region_held3 (fun w' => Below w2.heap.size w2 w') (first
    | (with_reducible exact bd1 (Below.refl _ _))
    | (with_reducible exact bt (by assumption) hba))
    (first
    | ((with_reducible refine (G.out _).mono ?_); rintro en wa ⟨rfl, hba⟩)
    | ((with_reducible refine (K.out _).mono ?_); rintro en wa ⟨rfl, hba⟩))
  have hb4 : Below w2.heap.size w2 wa := by with_reducible assumption
  obtain ⟨w4, rfl⟩ : ∃ w4 : World, w4 = wa := ⟨_, rfl⟩
  have hB := bt hB2 hb4
  have r4 := kc hb4 r2
  have s4 := kc hb4 s2
  have fr4 := kf hb4 r2 fr2
  have fs4 := kf hb4 s2 fs2
  replace a2 := kc hb4 a2
  replace b2 := kc hb4 b2
  replace c2 := kc hb4 c2
  replace g2 := kc hb4 g2
  clear hba hb4 hB2 A3 B3 C3 G3 r2 s2 fr2 fs2
  have A4 : ∀ w', w4.grownBy w' (some (w.heap.size + 1 + 1)) → w'.cell? ⟨w.heap.size, 0, none⟩ = some (.int .i64 n1) := fun _ h => gc h a2 (by omega)
  have B4 : ∀ w', w4.grownBy w' (some (w.heap.size + 1 + 1)) → w'.cell? ⟨w.heap.size, 1, none⟩ = some (.int .i64 d1) := fun _ h => gc h b2 (by omega)
  have C4 : ∀ w', w4.grownBy w' (some (w.heap.size + 1 + 1)) → w'.cell? ⟨w.heap.size + 1, 0, none⟩ = some (.int .i64 m1) := fun _ h => gc h c2 (by omega)
  have G4 : ∀ w', w4.grownBy w' (some (w.heap.size + 1 + 1)) → w'.cell? ⟨w.heap.size + 1, 1, none⟩ = some (.int .i64 e1) := fun _ h => gc h g2 (by omega)
  have q1 := Q1.out
  have q2 := Q2.out
  have q3 := Q3.out
  have q4 := Q4.out
  have t3 := T3.out
  have t4 := T4.out
  have gz : ¬ g = 0 := by omega
  have hz : ¬ h = 0 := by omega
  have gne : (g == 0) = false := beq_eq_false_iff_ne.2 gz
  have hne : (h == 0) = false := beq_eq_false_iff_ne.2 hz
  clear a2 b2 c2 g2
  go_upto_region 5 with (fail)
  go_region_held3 (fun w' => w4.grownBy w' (some (w.heap.size + 1 + 1))) (first
    | (with_reducible exact gd1 (gr _ _))
    | (with_reducible exact gt (by assumption) hba)
    | (with_reducible exact gs (gs (by assumption) _) _))
    (first
    | ((with_reducible refine (P.out _).mono ?_); rintro en wa ⟨rfl, hba⟩; have hqa : w4.grownBy wa (some (w.heap.size + 1 + 1)) := gt (by assumption) hba; replace fr4 := kf hba r4 fr4; replace fs4 := kf hba s4 fs4; replace r4 := kc hba r4; replace s4 := kc hba s4)
    | ((with_reducible refine (Q.out _).mono ?_); rintro en wa ⟨rfl, hba⟩; have hqa : w4.grownBy wa (some (w.heap.size + 1 + 1)) := gt (by assumption) hba; replace fr4 := kf hba r4 fr4; replace fs4 := kf hba s4 fs4; replace r4 := kc hba r4; replace s4 := kc hba s4)
    | ((with_reducible refine (X.out _).mono ?_); rintro en wa ⟨rfl, hba⟩; have hqa : w4.grownBy wa (some (w.heap.size + 1 + 1)) := gt (by assumption) hba; replace fr4 := kf hba r4 fr4; replace fs4 := kf hba s4 fs4; replace r4 := kc hba r4; replace s4 := kc hba s4))
  go_wp2
  refine bodyPost_ret (by simp [results, Try.results37, go_sem, r4, s4]; try rfl) rfl ⟨rfl, ?_⟩
  exact gB hB (by with_reducible assumption) (by omega)

end Go.Proofs.Ytmlkdfieakihlaa.Ex
