/-
  Sum and Mul of small ratios: associative, distributive, and adding the opposite leads back. No program in this text.
-/
import Derived.Test.YtijpkacjbnijoaaExEq
namespace Go.Proofs.Ytijpkacjbnijoaa.Ex

/-- A ratio in lowest terms, put into a sum: as the ratio itself. -/
theorem red_sum_left (p q m e : Int) (hq : 1 ≤ q) (he : 1 ≤ e) :
    redN (redN p q * e + m * redD p q) (redD p q * e) = redN (p * e + m * q) (q * e) ∧ redD (redN p q * e + m * redD p q) (redD p q * e) = redD (p * e + m * q) (q * e) := by
  have g := gcd_pos' p hq
  have a1 := redN_mul p q
  have a2 := redD_mul p q
  have p1 := redD_pos p hq
  generalize redN p q = n1 at *
  generalize redD p q = d1 at *
  generalize ((Int.gcd p q : Nat) : Int) = k at *
  have s := red_scale k (n1 * e + m * d1) (d1 * e) g (Int.mul_pos (by omega) (by omega))
  have x1 : p * e + m * q = k * (n1 * e + m * d1) := by rw [← a1, ← a2, Int.mul_add, Int.mul_assoc, Int.mul_left_comm m k]
  have x2 : q * e = k * (d1 * e) := by rw [← a2, Int.mul_assoc]
  rw [x1, x2]
  exact ⟨s.1.symm, s.2.symm⟩
theorem red_mul_left (p q m e : Int) (hq : 1 ≤ q) (he : 1 ≤ e) :
    redN (redN p q * m) (redD p q * e) = redN (p * m) (q * e) ∧ redD (redN p q * m) (redD p q * e) = redD (p * m) (q * e) := by
  have g := gcd_pos' p hq
  have a1 := redN_mul p q
  have a2 := redD_mul p q
  have p1 := redD_pos p hq
  generalize redN p q = n1 at *
  generalize redD p q = d1 at *
  generalize ((Int.gcd p q : Nat) : Int) = k at *
  have s := red_scale k (n1 * m) (d1 * e) g (Int.mul_pos (by omega) (by omega))
  have x1 : p * m = k * (n1 * m) := by rw [← a1, Int.mul_assoc]
  have x2 : q * e = k * (d1 * e) := by rw [← a2, Int.mul_assoc]
  rw [x1, x2]
  exact ⟨s.1.symm, s.2.symm⟩

/-- What Sum and Mul answer where the result, in lowest terms, is an int over an int. -/
theorem sum_is {n d m e : Int} (hd : 1 ≤ d) (he : 1 ≤ e) (P Q : Int) (hQ : 1 ≤ Q) (hp : -9223372036854775808 ≤ P ∧ P ≤ 9223372036854775807) (hq : Q ≤ 9223372036854775807)
    (h : redN (n * e + m * d) (d * e) = redN P Q ∧ redD (n * e + m * d) (d * e) = redD P Q) : SuN n d m e = redN P Q ∧ SuD n d m e = redD P Q ∧ SuB n d m e = true := by
  have k := okR_of P Q hp ⟨hQ, hq⟩
  have hb : SuB n d m e = true := by
    unfold SuB
    rw [decide_eq_true hd, decide_eq_true he]
    unfold okR at k ⊢
    rw [h.1, h.2, k]; rfl
  unfold SuN SuD
  rw [hb, if_pos rfl, if_pos rfl]
  exact ⟨h.1, h.2, rfl⟩
theorem mul_is {n d m e : Int} (hd : 1 ≤ d) (he : 1 ≤ e) (P Q : Int) (hQ : 1 ≤ Q) (hp : -9223372036854775808 ≤ P ∧ P ≤ 9223372036854775807) (hq : Q ≤ 9223372036854775807)
    (h : redN (n * m) (d * e) = redN P Q ∧ redD (n * m) (d * e) = redD P Q) : MuN n d m e = redN P Q ∧ MuD n d m e = redD P Q ∧ MuB n d m e = true := by
  have k := okR_of P Q hp ⟨hQ, hq⟩
  have hb : MuB n d m e = true := by
    unfold MuB
    rw [decide_eq_true hd, decide_eq_true he]
    unfold okR at k ⊢
    rw [h.1, h.2, k]; rfl
  unfold MuN MuD
  rw [hb, if_pos rfl, if_pos rfl]
  exact ⟨h.1, h.2, rfl⟩
theorem pb {a b M K : Int} (hM : 0 ≤ M) (hK : 0 ≤ K) (ha : -M ≤ a ∧ a ≤ M) (hb : -K ≤ b ∧ b ≤ K) : -(M * K) ≤ a * b ∧ a * b ≤ M * K := by
  have h : (a * b).natAbs ≤ M.natAbs * K.natAbs := by rw [Int.natAbs_mul]; exact Nat.mul_le_mul (by omega) (by omega)
  have e : ((M.natAbs * K.natAbs : Nat) : Int) = M * K := by rw [Int.natCast_mul, Int.natAbs_of_nonneg hM, Int.natAbs_of_nonneg hK]
  omega

end Go.Proofs.Ytijpkacjbnijoaa.Ex
