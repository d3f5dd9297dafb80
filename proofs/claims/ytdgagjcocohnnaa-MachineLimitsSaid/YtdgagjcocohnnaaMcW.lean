/-
  Layer 9 (machine): what the laws are called with, opened: numbers.
-/
import Derived.Test.YtdgagjcocohnnaaMcA
import Derived.Test.YtdgagjcocohnnaaRows
import Derived.ProofKit
import Derived.Carry
import Derived.ChangeMaps5
import Derived.ChangeSlices
namespace Go.Proofs.Ytdgagjcocohnnaa
open Go.ChangeShapes Go.WideShapes Go.ChangeAt Go.RowKit

theorem own : ownKnob Try.prog.godebug = none := by kernel_rfl
theorem laidOut : laidOutB Try.prog = true := by kernel_rfl
end Go.Proofs.Ytdgagjcocohnnaa
