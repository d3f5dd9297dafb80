/-
  The document's own Floor.
-/
import Derived.Test.YtmlkdfieakihlaaExRe
namespace Go.Proofs.Ytmlkdfieakihlaa.Ex
open Go.RowKit

theorem wh_is (neg : Bool) (q : Int) (hq : 0 ≤ q) : WhI neg q = outI (if neg then -q else q) ∧ WhB neg q = fits (if neg then -q else q) := by
  have e : WhB neg q = fits (if neg then -q else q) := by
    unfold WhB fits
    cases neg
    · apply decide_eq_decide.2; simp; omega
    · apply decide_eq_decide.2; simp; omega
  refine ⟨?_, e⟩
  unfold WhI outI
  rw [e]

theorem neg_div (A D : Int) (hD : 0 < D) : (-A) / D = if A % D = 0 then -(A / D) else -(A / D + 1) := by
  have h1 := Int.mul_ediv_add_emod A D
  have h2 := Int.emod_nonneg A (show D ≠ 0 by omega)
  have h3 := Int.emod_lt_of_pos A hD
  split
  · rename_i h
    rw [h] at h1
    have : -A = -(A / D) * D := by rw [Int.neg_mul, Int.mul_comm]; omega
    rw [this, Int.mul_ediv_cancel _ (by omega)]
  · rename_i h
    have : -A = (D - A % D) + -(A / D + 1) * D := by rw [Int.neg_mul, Int.add_mul, Int.mul_comm (A / D)]; omega
    rw [this, Int.add_mul_ediv_right _ _ (by omega), Int.ediv_eq_zero_of_lt (by omega) (by omega), Int.zero_add]

theorem floor_ab (a b : Int) (h0 : b ≠ 0) :
    floorQ a b = if decide (a < 0) != decide (b < 0) then (if ab a % ab b = 0 then -(ab a / ab b) else -(ab a / ab b + 1)) else ab a / ab b := by
  unfold floorQ
  have P : ∀ x : Int, 0 ≤ x → ab x = x := fun x hx => if_neg (by omega)
  have N : ∀ x : Int, x < 0 → ab x = -x := fun x hx => if_pos hx
  rcases Int.lt_or_le b 0 with h | h
  · rw [sgn_neg h, show a * -1 = -a by omega, show b * -1 = -b by omega, N b h, decide_eq_true h]
    rcases Int.lt_or_le a 0 with k | k
    · rw [N a k, decide_eq_true k]; rfl
    · rw [P a k, decide_eq_false (show ¬ a < 0 by omega)]; exact neg_div a (-b) (by omega)
  · rw [sgn_pos (show 0 < b by omega), Int.mul_one, Int.mul_one, P b h, decide_eq_false (show ¬ b < 0 by omega)]
    rcases Int.lt_or_le a 0 with k | k
    · rw [N a k, decide_eq_true k]
      have := neg_div (-a) b (by omega)
      rw [Int.neg_neg] at this
      exact this
    · rw [P a k, decide_eq_false (show ¬ a < 0 by omega)]; rfl

set_option maxHeartbeats 1000000 in
theorem floor_ref (a b : Int) (ha : -9223372036854775808 ≤ a ∧ a ≤ 9223372036854775807) (hb : -9223372036854775808 ≤ b ∧ b ≤ 9223372036854775807) (w : World) :
    Calls Try.prog 67 #[.int .i64 a, .int .i64 b] w fun e w' => e = .returned (.tuple #[.int .i64 (FlI a b), .bool (FlB a b)]) ∧ Below w.heap.size w w' := by
  by_cases h0 : b = 0
  · subst h0
    go_enter Try.func67, Try.ntmps67
    go_wp2
    go_ret2
    exact ⟨rfl, Below.refl _ _⟩
  · have hne : (b == 0) = false := beq_eq_false_iff_ne.2 h0
    have K : Hid (FlI a b = outI (floorQ a b) ∧ FlB a b = fits (floorQ a b)) := Lib.hid ⟨if_neg h0, if_neg h0⟩
    have Q := floor_ab a b h0
    have bd1 : 1 ≤ ab b ∧ ab b ≤ 9223372036854775808 := by unfold ab; split <;> omega
    have ba1 : 0 ≤ ab a ∧ ab a ≤ 9223372036854775808 := by unfold ab; split <;> omega
    have sa : ∀ w, Calls Try.prog 59 #[.int .i64 a] w fun e w' => e = .returned (.int .u64 (ab a)) ∧ w = w' := fun w => size_ref a ha w
    have sb : ∀ w, Calls Try.prog 59 #[.int .i64 b] w fun e w' => e = .returned (.int .u64 (ab b)) ∧ w = w' := fun w => size_ref b hb w
    have q0 := Int.ediv_nonneg ba1.1 (show 0 ≤ ab b by omega)
    have q1 := Int.ediv_le_self (ab b) ba1.1
    have m0 := Int.emod_nonneg (ab a) (show ab b ≠ 0 by omega)
    have W0 : ∀ q : Int, 0 ≤ q → q ≤ 9223372036854775809 → (.agg #[.int .u64 0, .int .u64 q] : Value) = wideV q := fun q g1 g2 => by
      unfold wideV hiW loW; congr 4
      · congr 1; omega
      · congr 3; omega
    have W := Lib.hid W0
    clear W0
    have QQ := Lib.hid Q
    clear Q
    have V : ∀ (neg : Bool) (q : Int), 0 ≤ q → q ≤ 9223372036854775809 → floorQ a b = (if neg then -q else q) → ∀ w, Calls Try.prog 60 #[.bool neg, .agg #[.int .u64 0, .int .u64 q]] w fun e w' => e = .returned (.tuple #[.int .i64 (FlI a b), .bool (FlB a b)]) ∧ Below w.heap.size w w' := fun neg q g1 g2 g3 w => by
      rw [W.out q g1 g2, K.out.1, K.out.2, g3, ← (wh_is neg q g1).1, ← (wh_is neg q g1).2]
      exact whole_ref neg q (by omega) w
    have VV := Lib.hid V
    clear V
    rcases Int.lt_or_le a 0 with h | h <;> rcases Int.lt_or_le b 0 with k | k
    · have WR := Lib.hid (VV.out false (ab a / ab b) q0 (by omega) (by rw [QQ.out, decide_eq_true h, decide_eq_true k]; rfl))
      go_enter Try.func67, Try.ntmps67
      go_wp2_with fail
      refine (sa _).mono ?_
      rintro e w' ⟨rfl, rfl⟩
      go_wp2_with fail
      refine (sb _).mono ?_
      rintro e w' ⟨rfl, rfl⟩
      go_wp2_with fail
      with_reducible refine (WR.out _).mono ?_
      rintro e w' ⟨rfl, hB⟩
      go_wp2
      go_ret2
      exact ⟨rfl, hB⟩
    · by_cases m : ab a % ab b = 0
      · have WR := Lib.hid (VV.out true (ab a / ab b) q0 (by omega) (by rw [QQ.out, decide_eq_true h, decide_eq_false (show ¬ b < 0 by omega), m]; rfl))
        have da : decide (a < 0) = true := decide_eq_true h
        have db : decide (b < 0) = false := decide_eq_false (show ¬ b < 0 by omega)
        have mt : (ab a % ab b == 0) = true := beq_iff_eq.2 m
        go_enter Try.func67, Try.ntmps67
        go_wp2_with fail
        refine (sa _).mono ?_
        rintro e w' ⟨rfl, rfl⟩
        go_wp2_with fail
        refine (sb _).mono ?_
        rintro e w' ⟨rfl, rfl⟩
        go_wp2_with fail
        refine (sa _).mono ?_
        rintro e w' ⟨rfl, rfl⟩
        go_wp2_with fail
        refine (sb _).mono ?_
        rintro e w' ⟨rfl, rfl⟩
        go_wp2_with fail
        with_reducible refine (WR.out _).mono ?_
        rintro e w' ⟨rfl, hB⟩
        go_wp2
        go_ret2
        exact ⟨rfl, hB⟩
      · have WR := Lib.hid (VV.out true (ab a / ab b + 1) (by omega) (by omega) (by rw [QQ.out, decide_eq_true h, decide_eq_false (show ¬ b < 0 by omega), if_neg m]; rfl))
        have da : decide (a < 0) = true := decide_eq_true h
        have db : decide (b < 0) = false := decide_eq_false (show ¬ b < 0 by omega)
        have mt : (ab a % ab b == 0) = false := beq_eq_false_iff_ne.2 m
        go_enter Try.func67, Try.ntmps67
        go_wp2_with fail
        refine (sa _).mono ?_
        rintro e w' ⟨rfl, rfl⟩
        go_wp2_with fail
        refine (sb _).mono ?_
        rintro e w' ⟨rfl, rfl⟩
        go_wp2_with fail
        refine (sa _).mono ?_
        rintro e w' ⟨rfl, rfl⟩
        go_wp2_with fail
        refine (sb _).mono ?_
        rintro e w' ⟨rfl, rfl⟩
        go_wp2_with fail
        with_reducible refine (WR.out _).mono ?_
        rintro e w' ⟨rfl, hB⟩
        go_wp2
        go_ret2
        exact ⟨rfl, hB⟩
    · by_cases m : ab a % ab b = 0
      · have WR := Lib.hid (VV.out true (ab a / ab b) q0 (by omega) (by rw [QQ.out, decide_eq_false (show ¬ a < 0 by omega), decide_eq_true k, m]; rfl))
        have da : decide (a < 0) = false := decide_eq_false (show ¬ a < 0 by omega)
        have db : decide (b < 0) = true := decide_eq_true k
        have mt : (ab a % ab b == 0) = true := beq_iff_eq.2 m
        go_enter Try.func67, Try.ntmps67
        go_wp2_with fail
        refine (sa _).mono ?_
        rintro e w' ⟨rfl, rfl⟩
        go_wp2_with fail
        refine (sb _).mono ?_
        rintro e w' ⟨rfl, rfl⟩
        go_wp2_with fail
        refine (sa _).mono ?_
        rintro e w' ⟨rfl, rfl⟩
        go_wp2_with fail
        refine (sb _).mono ?_
        rintro e w' ⟨rfl, rfl⟩
        go_wp2_with fail
        with_reducible refine (WR.out _).mono ?_
        rintro e w' ⟨rfl, hB⟩
        go_wp2
        go_ret2
        exact ⟨rfl, hB⟩
      · have WR := Lib.hid (VV.out true (ab a / ab b + 1) (by omega) (by omega) (by rw [QQ.out, decide_eq_false (show ¬ a < 0 by omega), decide_eq_true k, if_neg m]; rfl))
        have da : decide (a < 0) = false := decide_eq_false (show ¬ a < 0 by omega)
        have db : decide (b < 0) = true := decide_eq_true k
        have mt : (ab a % ab b == 0) = false := beq_eq_false_iff_ne.2 m
        go_enter Try.func67, Try.ntmps67
        go_wp2_with fail
        refine (sa _).mono ?_
        rintro e w' ⟨rfl, rfl⟩
        go_wp2_with fail
        refine (sb _).mono ?_
        rintro e w' ⟨rfl, rfl⟩
        go_wp2_with fail
        refine (sa _).mono ?_
        rintro e w' ⟨rfl, rfl⟩
        go_wp2_with fail
        refine (sb _).mono ?_
        rintro e w' ⟨rfl, rfl⟩
        go_wp2_with fail
        with_reducible refine (WR.out _).mono ?_
        rintro e w' ⟨rfl, hB⟩
        go_wp2
        go_ret2
        exact ⟨rfl, hB⟩
    · have WR := Lib.hid (VV.out false (ab a / ab b) q0 (by omega) (by rw [QQ.out, decide_eq_false (show ¬ a < 0 by omega), decide_eq_false (show ¬ b < 0 by omega)]; rfl))
      go_enter Try.func67, Try.ntmps67
      go_wp2_with fail
      refine (sa _).mono ?_
      rintro e w' ⟨rfl, rfl⟩
      go_wp2_with fail
      refine (sb _).mono ?_
      rintro e w' ⟨rfl, rfl⟩
      go_wp2_with fail
      with_reducible refine (WR.out _).mono ?_
      rintro e w' ⟨rfl, hB⟩
      go_wp2
      go_ret2
      exact ⟨rfl, hB⟩
end Go.Proofs.Ytmlkdfieakihlaa.Ex
