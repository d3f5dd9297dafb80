/-
  The document's own MulDiv.
-/
import Derived.Test.YtmlkdfieakihlaaExRg
namespace Go.Proofs.Ytmlkdfieakihlaa.Ex
open Go.RowKit

theorem ab_mul (a b : Int) : a * b = if decide (a < 0) != decide (b < 0) then -(ab a * ab b) else ab a * ab b := by
  have P : ∀ x : Int, 0 ≤ x → ab x = x := fun x hx => if_neg (by omega)
  have N : ∀ x : Int, x < 0 → ab x = -x := fun x hx => if_pos hx
  rcases Int.lt_or_le a 0 with h | h <;> rcases Int.lt_or_le b 0 with k | k
  · rw [N a h, N b k, decide_eq_true h, decide_eq_true k, Int.neg_mul_neg]; rfl
  · rw [N a h, P b k, decide_eq_true h, decide_eq_false (show ¬ b < 0 by omega), Int.neg_mul, Int.neg_neg]; rfl
  · rw [P a h, N b k, decide_eq_true k, decide_eq_false (show ¬ a < 0 by omega), Int.mul_neg, Int.neg_neg]; rfl
  · rw [P a h, P b k, decide_eq_false (show ¬ b < 0 by omega), decide_eq_false (show ¬ a < 0 by omega)]; rfl

/-- The answer by the quotient and the rest of the sizes. -/
theorem md_is (a b c : Int) (hc : 1 ≤ c) (neg : Bool) (hn : (decide (a < 0) != decide (b < 0)) = neg) (q : Int) (hq : 0 ≤ q)
    (h : q = if neg then (if ab a * ab b % c = 0 then ab a * ab b / c else ab a * ab b / c + 1) else ab a * ab b / c) :
    MdI a b c = WhI neg q ∧ MdB a b c = WhB neg q := by
  have e : a * b / c = if neg then -q else q := by
    rw [ab_mul, hn, h]
    cases neg
    · rfl
    · show -(ab a * ab b) / c = -(if ab a * ab b % c = 0 then _ else _)
      rw [neg_div _ c (by omega)]
      split <;> rfl
  obtain ⟨w1, w2⟩ := wh_is neg q hq
  rw [w1, w2, ← e]
  exact ⟨if_neg (by omega), if_neg (by omega)⟩

end Go.Proofs.Ytmlkdfieakihlaa.Ex
