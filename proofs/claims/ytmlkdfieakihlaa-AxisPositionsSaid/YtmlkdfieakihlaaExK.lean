/-
  The walks of layer 1 (exact): Cmp.
-/
import Derived.Test.YtmlkdfieakihlaaExI
import Derived.Lib.QuietBelow
namespace Go.Proofs.Ytmlkdfieakihlaa.Ex
open Go.RowKit Go.Sort

theorem valid_is (n d : Int) (b : Bool) (h : decide (1 ≤ d) = b) (w : World) :
    Calls Try.prog 70 #[ratV n d] w fun e w' => e = .returned (.bool b) ∧ Below w.heap.size w w' := by
  have := valid_any n d w
  rw [h] at this
  exact this

end Go.Proofs.Ytmlkdfieakihlaa.Ex
