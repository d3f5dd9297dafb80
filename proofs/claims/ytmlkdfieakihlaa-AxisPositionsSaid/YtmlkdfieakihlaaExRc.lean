/-
  Arithmetic of the document's own long division, bit by bit.
-/
import Derived.Test.YtmlkdfieakihlaaExRb
import Derived.Test.YtmlkdfieakihlaaExE
namespace Go.Proofs.Ytmlkdfieakihlaa.Ex

theorem nat_and_bit (W s : Nat) : W &&& 2 ^ s = W / 2 ^ s % 2 * 2 ^ s := by
  have hb := Nat.testBit_eq_decide_div_mod_eq (x := W) (i := s)
  have hr : W / 2 ^ s % 2 < 2 := Nat.mod_lt _ (by omega)
  by_cases h : W / 2 ^ s % 2 = 1
  · rw [h, Nat.one_mul]
    apply Nat.eq_of_testBit_eq
    intro j
    rw [Nat.testBit_and, Nat.testBit_two_pow]
    by_cases e : s = j
    · subst e; rw [hb]; simp [h]
    · simp [e]
  · have z : W / 2 ^ s % 2 = 0 := by omega
    rw [z, Nat.zero_mul]
    apply Nat.eq_of_testBit_eq
    intro j
    rw [Nat.testBit_and, Nat.testBit_two_pow]
    by_cases e : s = j
    · subst e; rw [hb]; simp [h]
    · simp [e]
theorem and_bit (W s : Nat) (hW : W < 18446744073709551616) (hs : s < 64) : bits .and .u64 (W : Int) ((2 ^ s : Nat) : Int) = ((W / 2 ^ s % 2 * 2 ^ s : Nat) : Int) := by
  have hp : 2 ^ s < 18446744073709551616 := Nat.pow_lt_pow_right (a := 2) (by omega) hs
  rw [bits_and_u64_nat W (2 ^ s) hW hp, nat_and_bit]

theorem or_bit (m s : Nat) (hm : m * 2 ^ (s + 1) + 2 ^ s < 18446744073709551616) : bits .or .u64 ((m * 2 ^ (s + 1) : Nat) : Int) ((2 ^ s : Nat) : Int) = ((m * 2 ^ (s + 1) + 2 ^ s : Nat) : Int) := by
  have hp : 2 ^ s < 2 ^ (s + 1) := Nat.pow_lt_pow_right (by omega) (by omega)
  rw [bits_or_u64_nat (m * 2 ^ (s + 1)) (2 ^ s) (by omega) (by omega), Nat.mul_comm m, Nat.two_pow_add_eq_or_of_lt hp]

/-- One round: the next bit of the dividend goes behind the rest. -/
theorem div_round (X Y i : Nat) (hY : 1 ≤ Y) :
    let r := X / 2 ^ (i + 1) % Y
    let t := 2 * r + X / 2 ^ i % 2
    t < 2 * Y ∧ (t < Y → X / 2 ^ i % Y = t ∧ X / 2 ^ i / Y * 2 ^ i = X / 2 ^ (i + 1) / Y * 2 ^ (i + 1)) ∧
      (Y ≤ t → X / 2 ^ i % Y = t - Y ∧ X / 2 ^ i / Y * 2 ^ i = X / 2 ^ (i + 1) / Y * 2 ^ (i + 1) + 2 ^ i) := by
  intro r t
  have hT : X / 2 ^ (i + 1) = X / 2 ^ i / 2 := by rw [Nat.pow_succ, Nat.div_div_eq_div_mul]
  have hr : r < Y := Nat.mod_lt _ hY
  have hd := Nat.div_add_mod (X / 2 ^ (i + 1)) Y
  have hb : X / 2 ^ i % 2 < 2 := Nat.mod_lt _ (by omega)
  have hx : X / 2 ^ i = Y * (2 * (X / 2 ^ (i + 1) / Y)) + t := by
    have e : X / 2 ^ i = 2 * (X / 2 ^ (i + 1)) + X / 2 ^ i % 2 := by rw [hT]; omega
    have f : Y * (2 * (X / 2 ^ (i + 1) / Y)) = 2 * (Y * (X / 2 ^ (i + 1) / Y)) := by rw [← Nat.mul_assoc, Nat.mul_comm Y 2, Nat.mul_assoc]
    rw [f]; show _ = _ + (2 * (X / 2 ^ (i + 1) % Y) + _); omega
  refine ⟨by show 2 * r + _ < _; omega, fun h => ?_, fun h => ?_⟩
  · constructor
    · rw [hx, Nat.mul_add_mod, Nat.mod_eq_of_lt h]
    · rw [hx, Nat.mul_add_div (by omega), Nat.div_eq_of_lt h, Nat.pow_succ, Nat.add_zero, Nat.mul_comm 2, Nat.mul_assoc, Nat.mul_comm 2]
  · have e : t = Y * 1 + (t - Y) := by omega
    have l : t - Y < Y := by have : t < 2 * Y := by { show 2 * r + _ < _; omega }; omega
    constructor
    · rw [hx, e, Nat.mul_add_mod, Nat.mul_add_mod, Nat.mod_eq_of_lt l]; omega
    · have g : X / 2 ^ i / Y = 2 * (X / 2 ^ (i + 1) / Y) + 1 := by
        rw [hx, Nat.mul_add_div (by omega)]; congr 1
        rw [e, Nat.mul_add_div (by omega), Nat.div_eq_of_lt l]
      rw [g, Nat.add_mul, Nat.pow_succ, Nat.one_mul, Nat.mul_comm 2, Nat.mul_assoc, Nat.mul_comm 2]

/-- The quotient's bits that are there behind the rounds down to k. -/
def qN (p y k : Nat) : Nat := p / 2 ^ k / y * 2 ^ k

theorem qN_le (p y k : Nat) : qN p y k ≤ p := by
  unfold qN
  have h1 : p / 2 ^ k / y * 2 ^ k ≤ p / 2 ^ k * 2 ^ k := Nat.mul_le_mul_right _ (Nat.div_le_self _ _)
  have h2 : p / 2 ^ k * 2 ^ k ≤ p := Nat.div_mul_le_self _ _
  omega

theorem low_word (T i : Nat) (hi : i < 64) :
    (T * 2 ^ (i + 1) + 2 ^ i) / 18446744073709551616 = T * 2 ^ (i + 1) / 18446744073709551616 ∧
    ∃ m, T * 2 ^ (i + 1) % 18446744073709551616 = m * 2 ^ (i + 1) ∧ m * 2 ^ (i + 1) + 2 ^ i < 18446744073709551616 ∧ (T * 2 ^ (i + 1) + 2 ^ i) % 18446744073709551616 = m * 2 ^ (i + 1) + 2 ^ i := by
  have hM : 18446744073709551616 = 2 ^ (63 - i) * 2 ^ (i + 1) := by rw [← Nat.pow_add, show 63 - i + (i + 1) = 64 by omega]
  have e : T * 2 ^ (i + 1) % 18446744073709551616 = T % 2 ^ (63 - i) * 2 ^ (i + 1) := by rw [hM, Nat.mul_mod_mul_right]
  have hT : T % 2 ^ (63 - i) < 2 ^ (63 - i) := Nat.mod_lt _ (Nat.pow_pos (by omega))
  have l : (T % 2 ^ (63 - i) + 1) * 2 ^ (i + 1) ≤ 2 ^ (63 - i) * 2 ^ (i + 1) := Nat.mul_le_mul_right _ hT
  rw [← hM, Nat.add_mul, Nat.one_mul] at l
  have s : 2 ^ i < 2 ^ (i + 1) := Nat.pow_lt_pow_right (by omega) (by omega)
  refine ⟨?_, T % 2 ^ (63 - i), e, by omega, ?_⟩ <;>
  · generalize T % 2 ^ (63 - i) * 2 ^ (i + 1) = m at *
    generalize T * 2 ^ (i + 1) = q at *
    generalize 2 ^ (i + 1) = u at *
    generalize 2 ^ i = v at *
    clear hM hT
    omega

theorem high_word (T s : Nat) :
    (T * 2 ^ (64 + s + 1) + 2 ^ (64 + s)) / 18446744073709551616 = T * 2 ^ (s + 1) + 2 ^ s ∧ (T * 2 ^ (64 + s + 1) + 2 ^ (64 + s)) % 18446744073709551616 = 0 ∧
    T * 2 ^ (64 + s + 1) / 18446744073709551616 = T * 2 ^ (s + 1) ∧ T * 2 ^ (64 + s + 1) % 18446744073709551616 = 0 := by
  have a : 2 ^ (64 + s) = 2 ^ s * 18446744073709551616 := by rw [Nat.pow_add, Nat.mul_comm]
  have b : T * 2 ^ (64 + s + 1) = T * 2 ^ (s + 1) * 18446744073709551616 := by rw [show 64 + s + 1 = (s + 1) + 64 by omega, Nat.pow_add, Nat.mul_assoc]
  rw [a, b]
  generalize T * 2 ^ (s + 1) = u
  generalize 2 ^ s = v
  refine ⟨by omega, by omega, by omega, by omega⟩

theorem low_bit (p i : Nat) (hi : i < 64) : p % 18446744073709551616 / 2 ^ i % 2 = p / 2 ^ i % 2 := by
  have hM : 18446744073709551616 = 2 ^ i * 2 ^ (64 - i) := by rw [← Nat.pow_add, show i + (64 - i) = 64 by omega]
  have h2 : (2 : Nat) ∣ 2 ^ (64 - i) := ⟨2 ^ (63 - i), by rw [Nat.mul_comm, ← Nat.pow_succ, show (63 - i).succ = 64 - i by omega]⟩
  rw [hM, Nat.mod_mul_right_div_self, Nat.mod_mod_of_dvd _ h2]
theorem high_bit (p s : Nat) : p / 18446744073709551616 / 2 ^ s % 2 = p / 2 ^ (64 + s) % 2 := by
  rw [Nat.pow_add, ← Nat.div_div_eq_div_mul]
end Go.Proofs.Ytmlkdfieakihlaa.Ex
