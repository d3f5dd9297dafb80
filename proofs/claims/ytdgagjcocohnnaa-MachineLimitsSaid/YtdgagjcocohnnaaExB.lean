/-
  The walks of layer 1 (exact): product, plus, minus, sign, fold.
-/
import Derived.Test.YtdgagjcocohnnaaExA
import Derived.Below
namespace Go.Proofs.Ytdgagjcocohnnaa.Ex
open Go.RowKit

/-- An integer as the program's pair of words. -/
def wideV (x : Int) : Value := .agg #[.int .u64 (hiW x), .int .u64 (loW x)]
theorem wide_mk {h l v : Int} (a : h = hiW v) (b : l = loW v) : Ending.returned (.agg #[.int .u64 h, .int .u64 l]) = .returned (wideV v) := by rw [a, b]; rfl

/-- What the four ways through 'product' hand back. -/
def prodHi (a b : Int) : Int :=
  let x := if a < 0 then IntKind.u64.wrap a else a
  let y := if b < 0 then IntKind.u64.wrap b else b
  let h := x * y / 18446744073709551616
  let h1 := if a < 0 then IntKind.u64.wrap (h - y) else h
  if b < 0 then IntKind.u64.wrap (h1 - x) else h1
def prodLo (a b : Int) : Int :=
  let x := if a < 0 then IntKind.u64.wrap a else a
  let y := if b < 0 then IntKind.u64.wrap b else b
  x * y % 18446744073709551616
theorem prod_is (a b : Int) (ha : -9223372036854775808 ≤ a ∧ a ≤ 9223372036854775807) (hb : -9223372036854775808 ≤ b ∧ b ≤ 9223372036854775807) : prodHi a b = hiW (a * b) ∧ prodLo a b = loW (a * b) := by
  have ua : (if a < 0 then IntKind.u64.wrap a else a) = if a < 0 then a + 18446744073709551616 else a := by rw [IntKind.wrap_u64]; split <;> omega
  have ub : (if b < 0 then IntKind.u64.wrap b else b) = if b < 0 then b + 18446744073709551616 else b := by rw [IntKind.wrap_u64]; split <;> omega
  have h := prod_hi a b (if a < 0 then IntKind.u64.wrap a else a) (if b < 0 then IntKind.u64.wrap b else b) _ (by rw [ua]; split <;> simp) (by rw [ub]; split <;> simp) rfl
  refine ⟨?_, h.2⟩
  rw [← h.1]
  unfold prodHi
  simp only []
  rw [ua, ub]
  by_cases h1 : a < 0 <;> by_cases h2 : b < 0
  all_goals simp only [h1, h2, if_true, if_false]
  · generalize (a + 18446744073709551616) * (b + 18446744073709551616) = p
    rw [if_neg (by omega), if_neg (by omega)]
    simp only [IntKind.wrap_u64]; omega
  · generalize (a + 18446744073709551616) * b = p
    rw [if_neg (by omega)]
    simp only [IntKind.wrap_u64]; omega
  · generalize a * (b + 18446744073709551616) = p
    rw [if_neg (by omega)]
    simp only [IntKind.wrap_u64]; omega
  · have hp : 0 ≤ a * b := Int.mul_nonneg (by omega) (by omega)
    have hq : a * b ≤ 9223372036854775807 * 9223372036854775807 := Int.mul_le_mul (by omega) (by omega) (by omega) (by omega)
    generalize a * b = p at *
    omega

set_option maxHeartbeats 1000000 in
theorem product_any (a b : Int) (ha : -9223372036854775808 ≤ a ∧ a ≤ 9223372036854775807) (hb : -9223372036854775808 ≤ b ∧ b ≤ 9223372036854775807) (w : World) :
    Calls Try.prog 73 #[.int .i64 a, .int .i64 b] w fun e w' => e = .returned (wideV (a * b)) ∧ Below w.heap.size w w' := by
  have ra : 0 ≤ IntKind.u64.wrap a ∧ IntKind.u64.wrap a < 18446744073709551616 := by rw [IntKind.wrap_u64]; omega
  have rb : 0 ≤ IntKind.u64.wrap b ∧ IntKind.u64.wrap b < 18446744073709551616 := by rw [IntKind.wrap_u64]; omega
  have HP := Lib.hid (prod_is a b ha hb)
  rcases Int.lt_or_le a 0 with h1 | h1 <;> rcases Int.lt_or_le b 0 with h2 | h2
  all_goals
    go_enter Try.func73, Try.ntmps73
    go_wp2_with fail
    refine (mul64_any _ _ (by first | exact ra | omega) (by first | exact rb | omega) _).mono ?_
    rintro e w' ⟨rfl, rfl⟩
    go_wp2
    go_returns
    refine ⟨wide_mk ?_ ?_, by go_grown⟩
    · rw [← HP.out.1]
      simp only [prodHi, h1, h2, if_true, Int.not_lt.2 h1, Int.not_lt.2 h2, if_false]
    · rw [← HP.out.2]
      simp only [prodLo, h1, h2, if_true, Int.not_lt.2 h1, Int.not_lt.2 h2, if_false]

end Go.Proofs.Ytdgagjcocohnnaa.Ex
