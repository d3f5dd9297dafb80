/-
  Plain facts on what Sum and Mul answer: 0 and 1 are neutral, the order plays no part, integers stand as they are. No program in this text.
-/
import Derived.Test.YtijpkacjbnijoaaExRed
namespace Go.Proofs.Ytijpkacjbnijoaa.Ex

theorem fits_of {q : Int} (h : -9223372036854775808 ≤ q ∧ q ≤ 9223372036854775807) : fits q = true := decide_eq_true h
theorem fits_iff (q : Int) : fits q = true ↔ -9223372036854775808 ≤ q ∧ q ≤ 9223372036854775807 := by unfold fits; simp
theorem red_bd0 (n d : Int) (hn : -9223372036854775808 ≤ n ∧ n ≤ 9223372036854775807) (hd : 1 ≤ d ∧ d ≤ 9223372036854775807) :
    (-9223372036854775808 ≤ redN n d ∧ redN n d ≤ 9223372036854775807) ∧ 1 ≤ redD n d ∧ redD n d ≤ 9223372036854775807 := by
  have g := gcd_pos' n hd.1
  have h1 := redN_mul n d
  have h2 := redD_mul n d
  have h3 := redD_pos n hd.1
  generalize redN n d = x at *
  generalize redD n d = y at *
  generalize ((Int.gcd n d : Nat) : Int) = k at *
  have a1 : x.natAbs ≤ (k * x).natAbs := by rw [Int.natAbs_mul]; exact Nat.le_mul_of_pos_left _ (by omega)
  have a2 : y.natAbs ≤ (k * y).natAbs := by rw [Int.natAbs_mul]; exact Nat.le_mul_of_pos_left _ (by omega)
  refine ⟨⟨?_, ?_⟩, h3, by omega⟩
  · omega
  · by_cases h : x ≤ 0
    · omega
    · have : 0 ≤ k * x := Int.mul_nonneg (by omega) (by omega)
      omega
theorem okR_of (n d : Int) (hn : -9223372036854775808 ≤ n ∧ n ≤ 9223372036854775807) (hd : 1 ≤ d ∧ d ≤ 9223372036854775807) : okR n d = true := by
  obtain ⟨a, b, c⟩ := red_bd0 n d hn hd
  unfold okR
  rw [fits_of a, fits_of ⟨by omega, c⟩]; rfl

theorem sum_zero (n d : Int) (hn : -9223372036854775808 ≤ n ∧ n ≤ 9223372036854775807) (hd : d ≤ 9223372036854775807) :
    SuN n d 0 5 = LoN n d ∧ SuD n d 0 5 = LoD n d ∧ SuB n d 0 5 = decide (1 ≤ d) := by
  unfold SuN SuD SuB LoN LoD
  by_cases h : 1 ≤ d
  · have r := red_scale 5 n d (by omega) h
    rw [show n * 5 + 0 * d = 5 * n by omega, show d * 5 = 5 * d by omega]
    unfold okR
    rw [r.1, r.2]
    have k := okR_of n d hn ⟨h, hd⟩
    unfold okR at k
    rw [k, decide_eq_true h]
    simp [show ¬ d < 1 by omega]
  · rw [decide_eq_false h]
    simp [show d < 1 by omega]
theorem mul_one' (n d : Int) (hn : -9223372036854775808 ≤ n ∧ n ≤ 9223372036854775807) (hd : d ≤ 9223372036854775807) :
    MuN 3 3 n d = LoN n d ∧ MuD 3 3 n d = LoD n d ∧ MuB 3 3 n d = decide (1 ≤ d) := by
  unfold MuN MuD MuB LoN LoD
  by_cases h : 1 ≤ d
  · have r := red_scale 3 n d (by omega) h
    unfold okR
    rw [r.1, r.2]
    have k := okR_of n d hn ⟨h, hd⟩
    unfold okR at k
    rw [k, decide_eq_true h]
    simp [show ¬ d < 1 by omega]
  · rw [decide_eq_false h]
    simp [show d < 1 by omega]
theorem bool3 (a b c : Bool) : (a && (b && c)) = (b && (a && c)) := by cases a <;> cases b <;> rfl
theorem sum_comm (n d m e : Int) : SuN m e n d = SuN n d m e ∧ SuD m e n d = SuD n d m e ∧ SuB m e n d = SuB n d m e := by
  have hb : SuB m e n d = SuB n d m e := by
    unfold SuB
    rw [bool3, show m * d + n * e = n * e + m * d by omega, Int.mul_comm e d]
  unfold SuN SuD
  rw [hb, show m * d + n * e = n * e + m * d by omega, Int.mul_comm e d]
  exact ⟨rfl, rfl, rfl⟩
theorem mul_comm' (n d m e : Int) : MuN m e n d = MuN n d m e ∧ MuD m e n d = MuD n d m e ∧ MuB m e n d = MuB n d m e := by
  have hb : MuB m e n d = MuB n d m e := by
    unfold MuB
    rw [bool3, Int.mul_comm m n, Int.mul_comm e d]
  unfold MuN MuD
  rw [hb, Int.mul_comm m n, Int.mul_comm e d]
  exact ⟨rfl, rfl, rfl⟩
theorem sum_valid {n d m e : Int} (h : SuB n d m e = true) : 1 ≤ d ∧ 1 ≤ e := by
  unfold SuB at h
  simp only [Bool.and_eq_true, decide_eq_true_eq] at h
  exact ⟨h.1, h.2.1⟩
theorem red_one (p : Int) : redN p 1 = p ∧ redD p 1 = 1 := red_of_coprime p 1 (by simp)
theorem sum_ints (p q : Int) : SuN p 1 q 1 = (if fits (p + q) = true then p + q else 0) ∧ SuD p 1 q 1 = (if fits (p + q) = true then 1 else 0) ∧ SuB p 1 q 1 = fits (p + q) := by
  have hb : SuB p 1 q 1 = fits (p + q) := by
    unfold SuB okR
    rw [show p * 1 + q * 1 = p + q by omega, show (1 : Int) * 1 = 1 from rfl, (red_one (p + q)).1, (red_one (p + q)).2]
    have : fits 1 = true := rfl
    rw [this]
    cases fits (p + q) <;> rfl
  unfold SuN SuD
  rw [hb, show p * 1 + q * 1 = p + q by omega, show (1 : Int) * 1 = 1 from rfl, (red_one (p + q)).1, (red_one (p + q)).2]
  exact ⟨rfl, rfl, rfl⟩
theorem mul_ints (p q : Int) : MuN p 1 q 1 = (if fits (p * q) = true then p * q else 0) ∧ MuD p 1 q 1 = (if fits (p * q) = true then 1 else 0) ∧ MuB p 1 q 1 = fits (p * q) ∧ MdI p q 1 = (if fits (p * q) = true then p * q else 0) ∧ MdB p q 1 = fits (p * q) := by
  have hb : MuB p 1 q 1 = fits (p * q) := by
    unfold MuB okR
    rw [show (1 : Int) * 1 = 1 from rfl, (red_one (p * q)).1, (red_one (p * q)).2]
    have : fits 1 = true := rfl
    rw [this]
    cases fits (p * q) <;> rfl
  unfold MuN MuD MdI MdB
  rw [hb, show (1 : Int) * 1 = 1 from rfl, (red_one (p * q)).1, (red_one (p * q)).2, Int.ediv_one]
  simp [outI]

end Go.Proofs.Ytijpkacjbnijoaa.Ex
