/-
  Layer 9 (machine): what the laws are called with, opened: lists of numbers, small numbers.
-/
import Derived.Test.YtdgagjcocohnnaaOtO
namespace Go.Proofs.Ytdgagjcocohnnaa
open Go.ChangeShapes Go.WideShapes Go.ChangeAt Go.RowKit
theorem i8_wf {n : Int} (h : (Lit.int .i8 n).wf = true) : -128 ≤ n ∧ n ≤ 127 := by
  simpa [Lit.wf, IntKind.min, IntKind.max, IntKind.signed, IntKind.bits] using h
end Go.Proofs.Ytdgagjcocohnnaa
