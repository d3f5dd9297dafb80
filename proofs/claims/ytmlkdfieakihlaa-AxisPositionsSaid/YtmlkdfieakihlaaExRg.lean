/-
  The document's own Round.
-/
import Derived.Test.YtmlkdfieakihlaaExRf
namespace Go.Proofs.Ytmlkdfieakihlaa.Ex
open Go.RowKit

theorem round_half (a b : Int) (hb : 0 < b) : (2 * a + b) / (2 * b) = if b - a % b ≤ a % b then a / b + 1 else a / b := by
  have h1 := Int.mul_ediv_add_emod a b
  have h2 := Int.emod_nonneg a (show b ≠ 0 by omega)
  have h3 := Int.emod_lt_of_pos a hb
  split
  · have e : 2 * a + b = (2 * (a % b) - b) + (a / b + 1) * (2 * b) := by
      have : (a / b + 1) * (2 * b) = 2 * (b * (a / b)) + 2 * b := by rw [Int.add_mul, Int.mul_left_comm, Int.mul_comm (a / b)]; omega
      omega
    rw [e, Int.add_mul_ediv_right _ _ (by omega), Int.ediv_eq_zero_of_lt (by omega) (by omega), Int.zero_add]
  · have e : 2 * a + b = (2 * (a % b) + b) + (a / b) * (2 * b) := by
      have : (a / b) * (2 * b) = 2 * (b * (a / b)) := by rw [Int.mul_left_comm, Int.mul_comm (a / b)]
      omega
    rw [e, Int.add_mul_ediv_right _ _ (by omega), Int.ediv_eq_zero_of_lt (by omega) (by omega), Int.zero_add]

set_option maxHeartbeats 1000000 in
theorem round_ref (a b : Int) (ha : -9223372036854775808 ≤ a ∧ a ≤ 9223372036854775807) (hb : -9223372036854775808 ≤ b ∧ b ≤ 9223372036854775807) (w : World) :
    Calls Try.prog 53 #[.int .i64 a, .int .i64 b] w fun e w' => e = .returned (.tuple #[.int .i64 (RoI a b), .bool (RoB a b)]) ∧ Below w.heap.size w w' := by
  rcases Int.lt_or_le b 1 with h | h
  · have r1 : RoI a b = 0 := if_pos h
    have r2 : RoB a b = false := if_pos h
    go_enter Try.func53, Try.ntmps53
    go_wp2
    go_ret2
    exact ⟨by (try rw [r1, r2]); rfl, Below.refl _ _⟩
  · have h1 := Int.mul_ediv_add_emod a b
    have h2 := Int.emod_nonneg a (show b ≠ 0 by omega)
    have h3 := Int.emod_lt_of_pos a (show 0 < b by omega)
    have f0 : floorQ a b = a / b := by unfold floorQ; rw [sgn_pos (by omega), Int.mul_one, Int.mul_one]
    have bq : -9223372036854775808 ≤ a / b ∧ a / b ≤ 9223372036854775807 := by
      constructor
      · have : -9223372036854775808 ≤ a / b := by
          apply Int.le_ediv_of_mul_le (by omega)
          have : -9223372036854775808 * b ≤ -9223372036854775808 * 1 := Int.mul_le_mul_of_nonpos_left (by omega) (by omega)
          omega
        exact this
      · apply Int.le_of_lt_add_one
        apply Int.ediv_lt_of_lt_mul (by omega)
        have : 9223372036854775808 * 1 ≤ 9223372036854775808 * b := Int.mul_le_mul_of_nonneg_left (by omega) (by omega)
        omega
    have fF : fits (a / b) = true := decide_eq_true bq
    have F : FlI a b = a / b ∧ FlB a b = true := by
      unfold FlI FlB outI; rw [if_neg (show ¬ b = 0 by omega), if_neg (show ¬ b = 0 by omega), f0, fF]; exact ⟨rfl, rfl⟩
    have FR : ∀ w, Calls Try.prog 67 #[.int .i64 a, .int .i64 b] w fun e w' => e = .returned (.tuple #[.int .i64 (a / b), .bool true]) ∧ Below w.heap.size w w' := fun w => by
      have := floor_ref a b ha hb w
      rw [F.1, F.2] at this; exact this
    have R0 : RoI a b = outI ((2 * a + b) / (2 * b)) ∧ RoB a b = fits ((2 * a + b) / (2 * b)) := ⟨if_neg (by omega), if_neg (by omega)⟩
    rw [round_half a b (by omega)] at R0
    have wm : wrap64 (a - wrap64 (a / b * b)) = a % b := by
      rw [Int.mul_comm b] at h1
      unfold wrap64; omega
    have wb : wrap64 (b - a % b) = b - a % b := by unfold wrap64; omega
    have FH := Lib.hid FR
    clear FR F fF f0
    generalize hm : a % b = m at *
    generalize hq : a / b = q at *
    have HQ := Lib.hid (And.intro h1 (And.intro hm hq))
    clear h1 hm hq
    rcases Int.lt_or_le m (b - m) with k | k
    · have R : RoI a b = q ∧ RoB a b = true := by
        rw [R0.1, R0.2, if_neg (by omega)]; unfold outI; rw [show fits q = true from decide_eq_true bq]; exact ⟨rfl, rfl⟩
      have RH := Lib.hid R
      clear R R0
      go_enter Try.func53, Try.ntmps53
      go_wp2_with fail
      with_reducible refine (FH.out _).mono ?_
      rintro e w' ⟨rfl, hB⟩
      go_wp2
      go_ret2
      exact ⟨by rw [RH.out.1, RH.out.2]; rfl, hB⟩
    · have bq1 : q + 1 ≤ 9223372036854775807 := by
        rcases Int.lt_or_le b 2 with c | c
        · omega
        · have := HQ.out.1
          rcases Int.lt_or_le q 1 with g | g
          · omega
          · have : 2 * q ≤ b * q := Int.mul_le_mul_of_nonneg_right c (by omega)
            omega
      have R : RoI a b = q + 1 ∧ RoB a b = true := by
        rw [R0.1, R0.2, if_pos k]; unfold outI; rw [show fits (q + 1) = true from decide_eq_true (by omega)]; exact ⟨rfl, rfl⟩
      have RH := Lib.hid R
      have wq : wrap64 (q + 1) = q + 1 := by unfold wrap64; omega
      clear R R0
      go_enter Try.func53, Try.ntmps53
      go_wp2_with fail
      with_reducible refine (FH.out _).mono ?_
      rintro e w' ⟨rfl, hB⟩
      go_wp2
      go_ret2
      exact ⟨by rw [RH.out.1, RH.out.2]; rfl, hB⟩
end Go.Proofs.Ytmlkdfieakihlaa.Ex
