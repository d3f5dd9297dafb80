/-
  No cell of these rows narrows 'for every input' (looked for: loops, veiled, ifaces, maps, wideKeys, modest, calm, conditions, laid).
  DERIVED. THE GIVEN ROWS OF THIS SEAT. 5 by the template 'for every input the law returns true; each argument reads behind the call as it read before'; 0 by the template 'total and deterministic' (their statements: YtjeiapgniflnaaaTotals.lean).
  GIVEN WITH THE SEED: the statements are not yours to turn. If you find one false, say at which input.
  Laid BY PROGRAM, IN A SANDBOX (cutbox-rows.mjs): the forced cells as the released guide's own fill.sh prints them over the translation 118e2de334cc4205… (all of the seat's roots in one cut). By AI agents, Wed Nov 11 2026. No macro, syntax, notation, axiom, sorry.
-/
import Derived.Test.YtjeiapgniflnaaaChecked
import GoSem.Claim
import GoSem.ClaimJoined
import GoSem.ClaimMapViews
import Derived.JoinedTies
import Derived.KernelRfl
namespace Go.Proofs.Ytjeiapgniflnaaa
/- THE CELL 'sum', in the pinned program and in every row, IS THE sha256 OF THE DUMP (.gsa) THAT YtjeiapgniflnaaaProg.lean LOADS. Nothing in Lean hashes anything: it is a label: what it is worth is what the hold of that sum in a sandbox is worth. -/
noncomputable def Try.pinned : Pinned := { name := "ytjeiapgniflnaaa", sum := "118e2de334cc4205802b665a8fac3537896553f62bbd2c66517f05b2a6c816bb", checked := Try.checked }
namespace Rows
def none {H : Type} : Left H := { results := [], args := [] }

/-- 'indeliblelaw07.RasterWinds': WHATEVER THE INPUT: true; the input reads as it did. -/
def rasterWindsSpec : ChangeSpec := { name := "rasterWinds", fn := fun _ => fun
  | [d1, d2, d3] => { results := [.lit (.bool true)], args := [d1, d2, d3] }
  | _ => none }
def rasterWindsRow : OpenClaim := { program := "ytjeiapgniflnaaa", sum := "118e2de334cc4205802b665a8fac3537896553f62bbd2c66517f05b2a6c816bb", func := "indelible/indeliblelaw07.RasterWinds", spec := "rasterWinds", inPlace := ["internal/abi.NoEscape"], unfollowed := true, recurses := true, apart := false }
def RasterWindsSaid : Prop := rasterWindsRow.holds Try.pinned (OpenSpec.ofChange rasterWindsSpec)

/-- ITS FALSE NEIGHBOUR: 'it returns false'. Refute it at one input. -/
def rasterWindsWrong : ChangeSpec := { name := "rasterWinds", fn := fun _ => fun
  | [d1, d2, d3] => { results := [.lit (.bool false)], args := [d1, d2, d3] }
  | _ => none }
def RasterWindsWrongFalsely : Prop := rasterWindsRow.holds Try.pinned (OpenSpec.ofChange rasterWindsWrong)

/-- 'indeliblelaw07.RasterDraws': WHATEVER THE INPUT: true; the input reads as it did. -/
def rasterDrawsSpec : ChangeSpec := { name := "rasterDraws", fn := fun _ => fun
  | [d1, d2, d3] => { results := [.lit (.bool true)], args := [d1, d2, d3] }
  | _ => none }
def rasterDrawsRow : OpenClaim := { program := "ytjeiapgniflnaaa", sum := "118e2de334cc4205802b665a8fac3537896553f62bbd2c66517f05b2a6c816bb", func := "indelible/indeliblelaw07.RasterDraws", spec := "rasterDraws", inPlace := ["internal/abi.NoEscape"], unfollowed := true, recurses := true, apart := false }
def RasterDrawsSaid : Prop := rasterDrawsRow.holds Try.pinned (OpenSpec.ofChange rasterDrawsSpec)

/-- ITS FALSE NEIGHBOUR: 'it returns false'. Refute it at one input. -/
def rasterDrawsWrong : ChangeSpec := { name := "rasterDraws", fn := fun _ => fun
  | [d1, d2, d3] => { results := [.lit (.bool false)], args := [d1, d2, d3] }
  | _ => none }
def RasterDrawsWrongFalsely : Prop := rasterDrawsRow.holds Try.pinned (OpenSpec.ofChange rasterDrawsWrong)

/-- 'indeliblelaw07.RasterSums': WHATEVER THE INPUT: true; the input reads as it did. -/
def rasterSumsSpec : ChangeSpec := { name := "rasterSums", fn := fun _ => fun
  | [d1, d2, d3] => { results := [.lit (.bool true)], args := [d1, d2, d3] }
  | _ => none }
def rasterSumsRow : OpenClaim := { program := "ytjeiapgniflnaaa", sum := "118e2de334cc4205802b665a8fac3537896553f62bbd2c66517f05b2a6c816bb", func := "indelible/indeliblelaw07.RasterSums", spec := "rasterSums", inPlace := ["internal/abi.NoEscape"], unfollowed := true, recurses := true, apart := false }
def RasterSumsSaid : Prop := rasterSumsRow.holds Try.pinned (OpenSpec.ofChange rasterSumsSpec)

/-- ITS FALSE NEIGHBOUR: 'it returns false'. Refute it at one input. -/
def rasterSumsWrong : ChangeSpec := { name := "rasterSums", fn := fun _ => fun
  | [d1, d2, d3] => { results := [.lit (.bool false)], args := [d1, d2, d3] }
  | _ => none }
def RasterSumsWrongFalsely : Prop := rasterSumsRow.holds Try.pinned (OpenSpec.ofChange rasterSumsWrong)

/-- 'indeliblelaw07.RasterMoves': WHATEVER THE INPUT: true; the input reads as it did. -/
def rasterMovesSpec : ChangeSpec := { name := "rasterMoves", fn := fun _ => fun
  | [d1, d2, d3] => { results := [.lit (.bool true)], args := [d1, d2, d3] }
  | _ => none }
def rasterMovesRow : OpenClaim := { program := "ytjeiapgniflnaaa", sum := "118e2de334cc4205802b665a8fac3537896553f62bbd2c66517f05b2a6c816bb", func := "indelible/indeliblelaw07.RasterMoves", spec := "rasterMoves", inPlace := ["internal/abi.NoEscape"], unfollowed := true, recurses := true, apart := false }
def RasterMovesSaid : Prop := rasterMovesRow.holds Try.pinned (OpenSpec.ofChange rasterMovesSpec)

/-- ITS FALSE NEIGHBOUR: 'it returns false'. Refute it at one input. -/
def rasterMovesWrong : ChangeSpec := { name := "rasterMoves", fn := fun _ => fun
  | [d1, d2, d3] => { results := [.lit (.bool false)], args := [d1, d2, d3] }
  | _ => none }
def RasterMovesWrongFalsely : Prop := rasterMovesRow.holds Try.pinned (OpenSpec.ofChange rasterMovesWrong)

/-- 'indeliblelaw07.RasterBoxes': WHATEVER THE INPUT: true; the input reads as it did. -/
def rasterBoxesSpec : ChangeSpec := { name := "rasterBoxes", fn := fun _ => fun
  | [d1, d2, d3] => { results := [.lit (.bool true)], args := [d1, d2, d3] }
  | _ => none }
def rasterBoxesRow : OpenClaim := { program := "ytjeiapgniflnaaa", sum := "118e2de334cc4205802b665a8fac3537896553f62bbd2c66517f05b2a6c816bb", func := "indelible/indeliblelaw07.RasterBoxes", spec := "rasterBoxes", inPlace := ["internal/abi.NoEscape"], unfollowed := true, recurses := true, apart := false }
def RasterBoxesSaid : Prop := rasterBoxesRow.holds Try.pinned (OpenSpec.ofChange rasterBoxesSpec)

/-- ITS FALSE NEIGHBOUR: 'it returns false'. Refute it at one input. -/
def rasterBoxesWrong : ChangeSpec := { name := "rasterBoxes", fn := fun _ => fun
  | [d1, d2, d3] => { results := [.lit (.bool false)], args := [d1, d2, d3] }
  | _ => none }
def RasterBoxesWrongFalsely : Prop := rasterBoxesRow.holds Try.pinned (OpenSpec.ofChange rasterBoxesWrong)

/- THE SECOND FORM. 'bulk': how many values and letters a reading holds, each counted each time it is reached (what is shared counts as often as it is met; a slice's spare places count too). A statement '..UptoSaid' is the law's where the arguments, and the package variables that the reading takes, are together of bulk at most 1048576: NARROWER than '..Said'. Prove '..Said' where nothing that the law and all that it calls make is longer than what came in: it says more and counts as full. Else prove '..UptoSaid'. A law counts once. -/
mutual
def uptoBulk {H : Type} : DataW H → Nat
  | .lit (.string bytes) => bytes.length + 1
  | .lit _ => 1
  | .nil => 1
  | .ptr d => uptoBulk d + 1
  | .slice elems spare => uptoBulkAll elems + uptoBulkAll spare + 1
  | .agg parts => uptoBulkAll parts + 1
  | .iface _ d => uptoBulk d + 1
  | .map entries => uptoBulkEntries entries + 1
  | .held _ => 1
def uptoBulkAll {H : Type} : List (DataW H) → Nat
  | [] => 0
  | d :: r => uptoBulk d + uptoBulkAll r
def uptoBulkEntries {H : Type} : List (Lit × DataW H) → Nat
  | [] => 0
  | x :: r => uptoBulkEntry x + uptoBulkEntries r
def uptoBulkEntry {H : Type} : Lit × DataW H → Nat
  | (.string bytes, d) => bytes.length + uptoBulk d + 1
  | (_, d) => uptoBulk d + 1
 end
def uptoSmall : (H : Type) → List (DataW H) → Bool := fun _ ds => decide (uptoBulkAll ds ≤ 1048576)
def OpenSpec.upto (s : _root_.Go.ChangeSpec) : _root_.Go.OpenSpec := { _root_.Go.OpenSpec.ofChange s with cond := some uptoSmall }

/-- 'indeliblelaw07.RasterWinds', WHERE WHAT IT READS IS OF BULK AT MOST 1048576: true; the input reads as it did. -/
def rasterWindsUptoRow : OpenClaim := { program := "ytjeiapgniflnaaa", sum := "118e2de334cc4205802b665a8fac3537896553f62bbd2c66517f05b2a6c816bb", func := "indelible/indeliblelaw07.RasterWinds", spec := "rasterWinds", inPlace := ["internal/abi.NoEscape"], unfollowed := true, recurses := true, apart := false, narrowed := true }
def RasterWindsUptoSaid : Prop := rasterWindsUptoRow.holds Try.pinned (OpenSpec.upto rasterWindsSpec)

/-- 'indeliblelaw07.RasterDraws', WHERE WHAT IT READS IS OF BULK AT MOST 1048576: true; the input reads as it did. -/
def rasterDrawsUptoRow : OpenClaim := { program := "ytjeiapgniflnaaa", sum := "118e2de334cc4205802b665a8fac3537896553f62bbd2c66517f05b2a6c816bb", func := "indelible/indeliblelaw07.RasterDraws", spec := "rasterDraws", inPlace := ["internal/abi.NoEscape"], unfollowed := true, recurses := true, apart := false, narrowed := true }
def RasterDrawsUptoSaid : Prop := rasterDrawsUptoRow.holds Try.pinned (OpenSpec.upto rasterDrawsSpec)

/-- 'indeliblelaw07.RasterSums', WHERE WHAT IT READS IS OF BULK AT MOST 1048576: true; the input reads as it did. -/
def rasterSumsUptoRow : OpenClaim := { program := "ytjeiapgniflnaaa", sum := "118e2de334cc4205802b665a8fac3537896553f62bbd2c66517f05b2a6c816bb", func := "indelible/indeliblelaw07.RasterSums", spec := "rasterSums", inPlace := ["internal/abi.NoEscape"], unfollowed := true, recurses := true, apart := false, narrowed := true }
def RasterSumsUptoSaid : Prop := rasterSumsUptoRow.holds Try.pinned (OpenSpec.upto rasterSumsSpec)

/-- 'indeliblelaw07.RasterMoves', WHERE WHAT IT READS IS OF BULK AT MOST 1048576: true; the input reads as it did. -/
def rasterMovesUptoRow : OpenClaim := { program := "ytjeiapgniflnaaa", sum := "118e2de334cc4205802b665a8fac3537896553f62bbd2c66517f05b2a6c816bb", func := "indelible/indeliblelaw07.RasterMoves", spec := "rasterMoves", inPlace := ["internal/abi.NoEscape"], unfollowed := true, recurses := true, apart := false, narrowed := true }
def RasterMovesUptoSaid : Prop := rasterMovesUptoRow.holds Try.pinned (OpenSpec.upto rasterMovesSpec)

/-- 'indeliblelaw07.RasterBoxes', WHERE WHAT IT READS IS OF BULK AT MOST 1048576: true; the input reads as it did. -/
def rasterBoxesUptoRow : OpenClaim := { program := "ytjeiapgniflnaaa", sum := "118e2de334cc4205802b665a8fac3537896553f62bbd2c66517f05b2a6c816bb", func := "indelible/indeliblelaw07.RasterBoxes", spec := "rasterBoxes", inPlace := ["internal/abi.NoEscape"], unfollowed := true, recurses := true, apart := false, narrowed := true }
def RasterBoxesUptoSaid : Prop := rasterBoxesUptoRow.holds Try.pinned (OpenSpec.upto rasterBoxesSpec)

end Rows
end Go.Proofs.Ytjeiapgniflnaaa
