/-
  What Sum, Mul, Lowest and Cmp answer for three small ratios. No program in this text.
-/
import Derived.Test.YtijpkacjbnijoaaExSm
namespace Go.Proofs.Ytijpkacjbnijoaa.Ex

theorem sgn_mul' (x k : Int) (hk : 0 < k) : sgn (x * k) = sgn x := by
  unfold sgn
  rcases (by omega : x < 0 ∨ x = 0 ∨ 0 < x) with h | h | h
  · have : x * k < 0 := Int.mul_neg_of_neg_of_pos h hk
    rw [if_pos this, if_pos h]
  · subst h; simp
  · have : 0 < x * k := Int.mul_pos h hk
    rw [if_neg (by omega), if_pos this, if_neg (by omega), if_pos h]

/-- Two ratios in lowest terms compare as the ratios themselves. -/
theorem cmp_red (p q m e : Int) (hq : 1 ≤ q) (he : 1 ≤ e) : CmI (redN p q) (redD p q) (redN m e) (redD m e) = sgn (p * e - m * q) := by
  have p1 := redD_pos p hq
  have p2 := redD_pos m he
  have g := gcd_pos' p hq
  have h := gcd_pos' m he
  have a1 := redN_mul p q
  have a2 := redD_mul p q
  have b1 := redN_mul m e
  have b2 := redD_mul m e
  unfold CmI
  rw [if_neg (by omega)]
  generalize redN p q = n1 at *
  generalize redD p q = d1 at *
  generalize redN m e = m1 at *
  generalize redD m e = e1 at *
  generalize ((Int.gcd p q : Nat) : Int) = k at *
  generalize ((Int.gcd m e : Nat) : Int) = l at *
  have x : p * e - m * q = (n1 * e1 - m1 * d1) * (k * l) := by
    rw [← a1, ← a2, ← b1, ← b2, Int.sub_mul, mul4 k n1 l e1, mul4 l m1 k d1, Int.mul_comm (k * l), Int.mul_comm l k, Int.mul_comm (k * l)]
  rw [x, sgn_mul' _ _ (Int.mul_pos (by omega) (by omega))]
theorem cmp_low (n d : Int) (hd : 1 ≤ d) : CmI (redN n d) (redD n d) n d = 0 := by
  have p1 := redD_pos n hd
  have a1 := redN_mul n d
  have a2 := redD_mul n d
  unfold CmI
  rw [if_neg (by omega)]
  generalize redN n d = n1 at *
  generalize redD n d = d1 at *
  generalize ((Int.gcd n d : Nat) : Int) = k at *
  have : n1 * d - n * d1 = 0 := by rw [← a1, ← a2, Int.mul_left_comm, Int.mul_assoc]; omega
  rw [this]; rfl

section
variable (a b c d e f : Int)
theorem assoc_sum : (c * f + e * d) * b + a * (d * f) = (a * d + c * b) * f + e * (b * d) ∧ d * f * b = b * d * f := by
  constructor
  · simp only [Int.add_mul, Int.mul_add, Int.mul_assoc, Int.mul_comm, Int.mul_left_comm]
    omega
  · simp only [Int.mul_assoc, Int.mul_comm, Int.mul_left_comm]
theorem assoc_mul : c * e * a = a * c * e ∧ d * f * b = b * d * f := by
  constructor <;> simp only [Int.mul_assoc, Int.mul_comm, Int.mul_left_comm]
theorem distr : a * c * (b * f) + a * e * (b * d) = b * ((c * f + e * d) * a) ∧ b * d * (b * f) = b * (d * f * b) := by
  constructor
  · simp only [Int.add_mul, Int.mul_add, Int.mul_assoc, Int.mul_comm, Int.mul_left_comm]
  · simp only [Int.mul_assoc, Int.mul_comm, Int.mul_left_comm]
theorem back : (a * d + c * b) * d + -c * (b * d) = d * d * a ∧ b * d * d = d * d * b := by
  constructor
  · rw [Int.neg_mul, Int.add_mul, Int.mul_assoc a, Int.mul_assoc c, Int.mul_comm a (d * d)]; omega
  · rw [Int.mul_assoc, Int.mul_comm]
theorem keeps : (a * f + e * b) * (d * f) - (c * f + e * d) * (b * f) = (a * d - c * b) * (f * f) := by
  simp only [Int.add_mul, Int.sub_mul, Int.mul_add, Int.mul_sub, Int.mul_assoc, Int.mul_comm, Int.mul_left_comm]
  omega
end

end Go.Proofs.Ytijpkacjbnijoaa.Ex
