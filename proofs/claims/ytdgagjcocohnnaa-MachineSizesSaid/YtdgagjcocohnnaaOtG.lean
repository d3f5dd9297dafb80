/-
  Layer 6 (outline): points on curves: isOn, twiceEnd, onCurve, and the document's own.
-/
import Derived.Test.YtdgagjcocohnnaaOtA
namespace Go.Proofs.Ytdgagjcocohnnaa.Ot
open Go.RowKit
theorem w_addl (a b : Int) : wrap64 (wrap64 a + b) = wrap64 (a + b) := by unfold wrap64; omega
theorem w_addr (a b : Int) : wrap64 (a + wrap64 b) = wrap64 (a + b) := by unfold wrap64; omega
theorem w_wrap (a : Int) : wrap64 (wrap64 a) = wrap64 a := by unfold wrap64; omega
theorem w_mod {a b : Int} (h : (a - b) % 18446744073709551616 = 0) : wrap64 a = wrap64 b := by unfold wrap64; omega
theorem w_ex (a : Int) : ∃ k : Int, wrap64 a = a + 18446744073709551616 * k := ⟨-((a + 9223372036854775808) / 18446744073709551616), by unfold wrap64; omega⟩
theorem w_mull (a b : Int) : wrap64 (wrap64 a * b) = wrap64 (a * b) := by
  obtain ⟨k, e⟩ := w_ex a
  rw [e]
  refine w_mod ?_
  rw [Int.add_mul, Int.mul_assoc]
  generalize k * b = z
  generalize a * b = y
  omega
theorem w_mulr (a b : Int) : wrap64 (a * wrap64 b) = wrap64 (a * b) := by
  rw [Int.mul_comm, w_mull, Int.mul_comm]
theorem w_in {a : Int} (h : R64 a) : wrap64 a = a := by unfold R64 at h; unfold wrap64; omega
theorem w_R (a : Int) : R64 (wrap64 a) := by unfold R64 wrap64; omega
theorem ret_int {k : IntKind} {a b : Int} (h : a = b) : Ending.returned (.int k a) = .returned (.int k b) := by rw [h]
/-- Whether a point of a contour is on the curve. -/
def onB (g : Nat → Pt) (k : Nat) : Bool := (g k).o || decide (k = 0)
/-- A coordinate of a point of a curve. -/
def cv (a b c t : Int) : Int := wrap64 (a * (4 - t) * (4 - t) + 4 * b * t * (4 - t) + c * t * t)
/-- Twice an end of a curve. -/
def endP (g : Nat → Pt) (k m : Nat) : Pt := if onB g m then g m else g k
def endX (g : Nat → Pt) (k m : Nat) : Int := wrap64 ((endP g k m).x + (g m).x)
def endY (g : Nat → Pt) (k m : Nat) : Int := wrap64 ((endP g k m).y + (g m).y)
end Go.Proofs.Ytdgagjcocohnnaa.Ot
