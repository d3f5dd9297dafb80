/-
  Layer 5 (axis): mathematics of regions of three tents.
-/
import Derived.Test.YtcogoomajfahkaaAxYm
namespace Go.Proofs.Ytcogoomajfahkaa.Ax
open Go.RowKit
open Go.Proofs.Ytcogoomajfahkaa.Ex (MuN MuD MuB okR fits redN redD redN_mul redD_mul redD_pos gcd_pos' red_coprime)

theorem mu_red {a b c d : Int} (hb : 1 ≤ b) (hd : 1 ≤ d) (h0 : 0 ≤ a * c) (h1 : a * c ≤ b * d) (h3 : b * d ≤ 1000000000000) :
    MuN a b c d = redN (a * c) (b * d) ∧ MuD a b c d = redD (a * c) (b * d) := by
  have hbd : 1 ≤ b * d := by
    have : 1 * 1 ≤ b * d := Int.mul_le_mul hb hd (by omega) (by omega)
    omega
  have e1 := redN_mul (a * c) (b * d)
  have e2 := redD_mul (a * c) (b * d)
  have hd' := redD_pos (a * c) hbd
  have hg := gcd_pos' (a * c) hbd
  have hB : MuB a b c d = true := by
    unfold MuB okR fits
    simp only [Bool.and_eq_true, decide_eq_true_eq]
    generalize ((Int.gcd (a * c) (b * d) : Nat) : Int) = g at *
    generalize redN (a * c) (b * d) = N at *
    generalize redD (a * c) (b * d) = D at *
    have hN : 0 ≤ N := by
      rcases Int.lt_or_le N 0 with h | h
      · have : g * N < 0 := Int.mul_neg_of_pos_of_neg (by omega) h
        omega
      · exact h
    have k1 : 1 * N ≤ g * N := Int.mul_le_mul_of_nonneg_right (by omega) hN
    have k2 : 1 * D ≤ g * D := Int.mul_le_mul_of_nonneg_right (by omega) (by omega)
    omega
  unfold MuN MuD
  rw [hB, if_pos rfl, if_pos rfl]
  exact ⟨rfl, rfl⟩
/-- What a reduced quotient is like. -/
theorem red_big {a b : Int} (h0 : 0 ≤ a) (h1 : a ≤ b) (h2 : 1 ≤ b) :
    1 ≤ redD a b ∧ 0 ≤ redN a b ∧ redN a b ≤ redD a b ∧ redD a b ≤ b ∧ redN a b * b = a * redD a b := by
  have e1 := redN_mul a b
  have e2 := redD_mul a b
  have hd := redD_pos a h2
  have hg := gcd_pos' a h2
  generalize ((Int.gcd a b : Nat) : Int) = g at *
  generalize redN a b = N at *
  generalize redD a b = D at *
  have hN : 0 ≤ N := by
    rcases Int.lt_or_le N 0 with h | h
    · have : g * N < 0 := Int.mul_neg_of_pos_of_neg (by omega) h
      omega
    · exact h
  have hle : N ≤ D := Int.le_of_mul_le_mul_left (a := g) (by omega) (by omega)
  have hD : 1 * D ≤ g * D := Int.mul_le_mul_of_nonneg_right (by omega) (by omega)
  refine ⟨hd, hN, hle, by omega, ?_⟩
  rw [← e1, ← e2]
  ac_rfl
theorem sc1_is (g : Nat → Tns) (q : Nat → Int) (hx : vtR (g 0)) : scS g q 1 = (redN (vlN (g 0) (q 0)) (vlD (g 0) (q 0)), redD (vlN (g 0) (q 0)) (vlD (g 0) (q 0))) := by
  have hl := vl_in (v := q 0) hx
  obtain ⟨e1, e2⟩ := mu_red (a := 1) (b := 1) (c := vlN (g 0) (q 0)) (d := vlD (g 0) (q 0)) (by omega) (by omega) (by omega) (by omega) (by omega)
  rw [Int.one_mul, Int.one_mul] at e1 e2
  show (MuN 1 1 _ _, MuD 1 1 _ _) = _
  rw [e1, e2]
theorem step_in {N D c d B : Int} (hN : 0 ≤ N ∧ N ≤ D) (hD : 1 ≤ D ∧ D ≤ B) (hc : 0 ≤ c ∧ c ≤ d) (hd : 1 ≤ d ∧ d ≤ 128) : 0 ≤ N * c ∧ N * c ≤ D * d ∧ 1 ≤ D * d ∧ D * d ≤ B * 128 := by
  have k1 : 1 * 1 ≤ D * d := Int.mul_le_mul hD.1 hd.1 (by omega) (by omega)
  exact ⟨Int.mul_nonneg hN.1 hc.1, Int.mul_le_mul hN.2 hc.2 hc.1 (by omega), by omega, Int.mul_le_mul hD.2 hd.2 (by omega) (by omega)⟩
/-- The value of three tents. -/
theorem sc3 (g : Nat → Tns) (q : Nat → Int) (hx : ∀ i, i < 3 → vtR (g i)) :
    ∃ N D : Int, scS g q 3 = (N, D) ∧ 1 ≤ D ∧ D ≤ 2097152 ∧ 0 ≤ N ∧ N ≤ D ∧ Int.gcd N D = 1 ∧
      N * (redD (vlN (g 0) (q 0)) (vlD (g 0) (q 0)) * redD (vlN (g 1) (q 1)) (vlD (g 1) (q 1)) * redD (vlN (g 2) (q 2)) (vlD (g 2) (q 2))) =
      redN (vlN (g 0) (q 0)) (vlD (g 0) (q 0)) * redN (vlN (g 1) (q 1)) (vlD (g 1) (q 1)) * redN (vlN (g 2) (q 2)) (vlD (g 2) (q 2)) * D := by
  have h0 := vl_in (v := q 0) (hx 0 (by omega))
  have h1 := vl_in (v := q 1) (hx 1 (by omega))
  have h2 := vl_in (v := q 2) (hx 2 (by omega))
  have e1 := sc1_is g q (hx 0 (by omega))
  have s2 : scS g q 2 = (MuN (scS g q 1).1 (scS g q 1).2 (vlN (g 1) (q 1)) (vlD (g 1) (q 1)), MuD (scS g q 1).1 (scS g q 1).2 (vlN (g 1) (q 1)) (vlD (g 1) (q 1))) := rfl
  have s3 : scS g q 3 = (MuN (scS g q 2).1 (scS g q 2).2 (vlN (g 2) (q 2)) (vlD (g 2) (q 2)), MuD (scS g q 2).1 (scS g q 2).2 (vlN (g 2) (q 2)) (vlD (g 2) (q 2))) := rfl
  rw [e1] at s2
  simp only at s2
  obtain ⟨a1, a2, a3, a4, a5⟩ := red_big (a := vlN (g 0) (q 0)) (b := vlD (g 0) (q 0)) (by omega) (by omega) (by omega)
  obtain ⟨b1, b2, b3, b4, b5⟩ := red_big (a := vlN (g 1) (q 1)) (b := vlD (g 1) (q 1)) (by omega) (by omega) (by omega)
  obtain ⟨c1, c2, c3, c4, c5⟩ := red_big (a := vlN (g 2) (q 2)) (b := vlD (g 2) (q 2)) (by omega) (by omega) (by omega)
  generalize redN (vlN (g 0) (q 0)) (vlD (g 0) (q 0)) = N0 at *
  generalize redD (vlN (g 0) (q 0)) (vlD (g 0) (q 0)) = D0 at *
  generalize redN (vlN (g 1) (q 1)) (vlD (g 1) (q 1)) = N1 at *
  generalize redD (vlN (g 1) (q 1)) (vlD (g 1) (q 1)) = D1 at *
  generalize redN (vlN (g 2) (q 2)) (vlD (g 2) (q 2)) = N2 at *
  generalize redD (vlN (g 2) (q 2)) (vlD (g 2) (q 2)) = D2 at *
  generalize vlN (g 0) (q 0) = x0 at *
  generalize vlD (g 0) (q 0) = y0 at *
  generalize vlN (g 1) (q 1) = x1 at *
  generalize vlD (g 1) (q 1) = y1 at *
  generalize vlN (g 2) (q 2) = x2 at *
  generalize vlD (g 2) (q 2) = y2 at *
  obtain ⟨t1, t2, t3, t4⟩ := step_in (N := N0) (D := D0) (c := x1) (d := y1) (B := 128) (by omega) (by omega) (by omega) (by omega)
  obtain ⟨m1, m2⟩ := mu_red (a := N0) (b := D0) (c := x1) (d := y1) (by omega) (by omega) t1 t2 (by omega)
  rw [m1, m2] at s2
  obtain ⟨d1, d2, d3, d4, d5⟩ := red_big t1 t2 t3
  generalize redN (N0 * x1) (D0 * y1) = Na at *
  generalize redD (N0 * x1) (D0 * y1) = Da at *
  rw [s2] at s3
  simp only at s3
  obtain ⟨u1, u2, u3, u4⟩ := step_in (N := Na) (D := Da) (c := x2) (d := y2) (B := 16384) (by omega) (by omega) (by omega) (by omega)
  obtain ⟨n1, n2⟩ := mu_red (a := Na) (b := Da) (c := x2) (d := y2) (by omega) (by omega) u1 u2 (by omega)
  rw [n1, n2] at s3
  obtain ⟨f1, f2, f3, f4, f5⟩ := red_big u1 u2 u3
  have hco := red_coprime (Na * x2) u3
  refine ⟨_, _, s3, f1, by omega, f2, f3, hco, ?_⟩
  generalize redN (Na * x2) (Da * y2) = N at *
  generalize redD (Na * x2) (Da * y2) = D at *
  have hK : 0 < Da * y2 * y1 := by
    have : 1 * 1 ≤ Da * y2 * y1 := Int.mul_le_mul u3 (by omega) (by omega) (by omega)
    omega
  apply Int.eq_of_mul_eq_mul_left (a := Da * y2 * y1) (by omega)
  calc Da * y2 * y1 * (N * (D0 * D1 * D2)) = (N * (Da * y2)) * (D0 * y1) * (D1 * D2) := by ac_rfl
    _ = (Na * x2 * D) * (D0 * y1) * (D1 * D2) := by rw [f5]
    _ = (Na * (D0 * y1)) * x2 * D * (D1 * D2) := by ac_rfl
    _ = (N0 * x1 * Da) * x2 * D * (D1 * D2) := by rw [d5]
    _ = N0 * (x1 * D1) * (x2 * D2) * Da * D := by ac_rfl
    _ = N0 * (N1 * y1) * (N2 * y2) * Da * D := by rw [b5, c5]
    _ = Da * y2 * y1 * (N0 * N1 * N2 * D) := by ac_rfl
theorem scS_congr {g h : Nat → Tns} {p q : Nat → Int} : ∀ {n : Nat}, (∀ i, i < n → g i = h i ∧ p i = q i) → scS g p n = scS h q n
  | 0, _ => rfl
  | n + 1, e => by
    unfold scS
    rw [scS_congr (n := n) (fun i hi => e i (by omega)), (e n (by omega)).1, (e n (by omega)).2]
theorem cop_no {N D k : Int} (hc : Int.gcd N D = 1) (hk : 2 ≤ k) : ¬ (N.tmod k = 0 ∧ D.tmod k = 0) := by
  rintro ⟨h1, h2⟩
  have d1 : k ∣ N := Int.dvd_of_tmod_eq_zero h1
  have d2 : k ∣ D := Int.dvd_of_tmod_eq_zero h2
  have := Int.dvd_coe_gcd d1 d2
  rw [hc] at this
  have := Int.le_of_dvd (by omega) this
  omega
theorem cop_zero {D : Int} (hc : Int.gcd 0 D = 1) (hD : 1 ≤ D) : D = 1 := by
  rw [Int.gcd_zero_left] at hc
  omega
end Go.Proofs.Ytcogoomajfahkaa.Ax
