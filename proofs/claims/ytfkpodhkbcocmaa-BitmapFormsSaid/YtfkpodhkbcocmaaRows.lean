/-
  No cell of these rows narrows 'for every input' (looked for: loops, veiled, ifaces, maps, wideKeys, modest, calm, conditions, laid).
  DERIVED. THE GIVEN ROWS OF THIS SEAT. 5 by the template 'for every input the law returns true; each argument reads behind the call as it read before'; 0 by the template 'total and deterministic' (their statements: YtfkpodhkbcocmaaTotals.lean).
  GIVEN WITH THE SEED: the statements are not yours to turn. If you find one false, say at which input.
  Laid BY PROGRAM, IN A SANDBOX (cutbox-rows.mjs): the forced cells as the released guide's own fill.sh prints them over the translation 03b29d722f74588b… (all of the seat's roots in one cut). By AI agents, Wed Nov 11 2026. No macro, syntax, notation, axiom, sorry.
-/
import Derived.Test.YtfkpodhkbcocmaaChecked
import GoSem.Claim
import GoSem.ClaimJoined
import GoSem.ClaimMapViews
import Derived.JoinedTies
import Derived.KernelRfl
namespace Go.Proofs.Ytfkpodhkbcocmaa
/- THE CELL 'sum', in the pinned program and in every row, IS THE sha256 OF THE DUMP (.gsa) THAT YtfkpodhkbcocmaaProg.lean LOADS. Nothing in Lean hashes anything: it is a label: what it is worth is what the hold of that sum in a sandbox is worth. -/
noncomputable def Try.pinned : Pinned := { name := "ytfkpodhkbcocmaa", sum := "03b29d722f74588bdd3648951c5b480a1ff74c9cc644211512988a14cddb3b4b", checked := Try.checked }
namespace Rows
def none {H : Type} : Left H := { results := [], args := [] }

/-- 'indeliblelaw04.BitmapForms': WHATEVER THE INPUT: true; the input reads as it did. -/
def bitmapFormsSpec : ChangeSpec := { name := "bitmapForms", fn := fun _ => fun
  | [d1, d2, d3] => { results := [.lit (.bool true)], args := [d1, d2, d3] }
  | _ => none }
def bitmapFormsRow : OpenClaim := { program := "ytfkpodhkbcocmaa", sum := "03b29d722f74588bdd3648951c5b480a1ff74c9cc644211512988a14cddb3b4b", func := "indelible/indeliblelaw04.BitmapForms", spec := "bitmapForms", inPlace := ["internal/abi.NoEscape", "internal/bytealg.IndexByteString"], unfollowed := true, recurses := true, apart := false }
def BitmapFormsSaid : Prop := bitmapFormsRow.holds Try.pinned (OpenSpec.ofChange bitmapFormsSpec)

/-- ITS FALSE NEIGHBOUR: 'it returns false'. Refute it at one input. -/
def bitmapFormsWrong : ChangeSpec := { name := "bitmapForms", fn := fun _ => fun
  | [d1, d2, d3] => { results := [.lit (.bool false)], args := [d1, d2, d3] }
  | _ => none }
def BitmapFormsWrongFalsely : Prop := bitmapFormsRow.holds Try.pinned (OpenSpec.ofChange bitmapFormsWrong)

/-- 'indeliblelaw04.BitmapParts': WHATEVER THE INPUT: true; the input reads as it did. -/
def bitmapPartsSpec : ChangeSpec := { name := "bitmapParts", fn := fun _ => fun
  | [d1, d2, d3] => { results := [.lit (.bool true)], args := [d1, d2, d3] }
  | _ => none }
def bitmapPartsRow : OpenClaim := { program := "ytfkpodhkbcocmaa", sum := "03b29d722f74588bdd3648951c5b480a1ff74c9cc644211512988a14cddb3b4b", func := "indelible/indeliblelaw04.BitmapParts", spec := "bitmapParts", inPlace := ["internal/abi.NoEscape", "internal/bytealg.IndexByteString"], unfollowed := true, recurses := true, apart := false }
def BitmapPartsSaid : Prop := bitmapPartsRow.holds Try.pinned (OpenSpec.ofChange bitmapPartsSpec)

/-- ITS FALSE NEIGHBOUR: 'it returns false'. Refute it at one input. -/
def bitmapPartsWrong : ChangeSpec := { name := "bitmapParts", fn := fun _ => fun
  | [d1, d2, d3] => { results := [.lit (.bool false)], args := [d1, d2, d3] }
  | _ => none }
def BitmapPartsWrongFalsely : Prop := bitmapPartsRow.holds Try.pinned (OpenSpec.ofChange bitmapPartsWrong)

/-- 'indeliblelaw04.BitmapDots': WHATEVER THE INPUT: true; the input reads as it did. -/
def bitmapDotsSpec : ChangeSpec := { name := "bitmapDots", fn := fun _ => fun
  | [d] => { results := [.lit (.bool true)], args := [d] }
  | _ => none }
def bitmapDotsRow : OpenClaim := { program := "ytfkpodhkbcocmaa", sum := "03b29d722f74588bdd3648951c5b480a1ff74c9cc644211512988a14cddb3b4b", func := "indelible/indeliblelaw04.BitmapDots", spec := "bitmapDots", inPlace := ["internal/abi.NoEscape", "internal/bytealg.IndexByteString"], unfollowed := true, recurses := true, apart := false }
def BitmapDotsSaid : Prop := bitmapDotsRow.holds Try.pinned (OpenSpec.ofChange bitmapDotsSpec)

/-- ITS FALSE NEIGHBOUR: 'it returns false'. Refute it at one input. -/
def bitmapDotsWrong : ChangeSpec := { name := "bitmapDots", fn := fun _ => fun
  | [d] => { results := [.lit (.bool false)], args := [d] }
  | _ => none }
def BitmapDotsWrongFalsely : Prop := bitmapDotsRow.holds Try.pinned (OpenSpec.ofChange bitmapDotsWrong)

/-- 'indeliblelaw04.BitmapTexts': WHATEVER THE INPUT: true; the input reads as it did. -/
def bitmapTextsSpec : ChangeSpec := { name := "bitmapTexts", fn := fun _ => fun
  | [d1, d2] => { results := [.lit (.bool true)], args := [d1, d2] }
  | _ => none }
def bitmapTextsRow : OpenClaim := { program := "ytfkpodhkbcocmaa", sum := "03b29d722f74588bdd3648951c5b480a1ff74c9cc644211512988a14cddb3b4b", func := "indelible/indeliblelaw04.BitmapTexts", spec := "bitmapTexts", inPlace := ["internal/abi.NoEscape", "internal/bytealg.IndexByteString"], unfollowed := true, recurses := true, apart := false }
def BitmapTextsSaid : Prop := bitmapTextsRow.holds Try.pinned (OpenSpec.ofChange bitmapTextsSpec)

/-- ITS FALSE NEIGHBOUR: 'it returns false'. Refute it at one input. -/
def bitmapTextsWrong : ChangeSpec := { name := "bitmapTexts", fn := fun _ => fun
  | [d1, d2] => { results := [.lit (.bool false)], args := [d1, d2] }
  | _ => none }
def BitmapTextsWrongFalsely : Prop := bitmapTextsRow.holds Try.pinned (OpenSpec.ofChange bitmapTextsWrong)

/-- 'indeliblelaw04.BitmapCounts': WHATEVER THE INPUT: true; the input reads as it did. -/
def bitmapCountsSpec : ChangeSpec := { name := "bitmapCounts", fn := fun _ => fun
  | [d1, d2, d3] => { results := [.lit (.bool true)], args := [d1, d2, d3] }
  | _ => none }
def bitmapCountsRow : OpenClaim := { program := "ytfkpodhkbcocmaa", sum := "03b29d722f74588bdd3648951c5b480a1ff74c9cc644211512988a14cddb3b4b", func := "indelible/indeliblelaw04.BitmapCounts", spec := "bitmapCounts", inPlace := ["internal/abi.NoEscape", "internal/bytealg.IndexByteString"], unfollowed := true, recurses := true, apart := false }
def BitmapCountsSaid : Prop := bitmapCountsRow.holds Try.pinned (OpenSpec.ofChange bitmapCountsSpec)

/-- ITS FALSE NEIGHBOUR: 'it returns false'. Refute it at one input. -/
def bitmapCountsWrong : ChangeSpec := { name := "bitmapCounts", fn := fun _ => fun
  | [d1, d2, d3] => { results := [.lit (.bool false)], args := [d1, d2, d3] }
  | _ => none }
def BitmapCountsWrongFalsely : Prop := bitmapCountsRow.holds Try.pinned (OpenSpec.ofChange bitmapCountsWrong)

/- THE SECOND FORM. 'bulk': how many values and letters a reading holds, each counted each time it is reached (what is shared counts as often as it is met; a slice's spare places count too). A statement '..UptoSaid' is the law's where the arguments, and the package variables that the reading takes, are together of bulk at most 1048576: NARROWER than '..Said'. Prove '..Said' where nothing that the law and all that it calls make is longer than what came in: it says more and counts as full. Else prove '..UptoSaid'. A law counts once. -/
mutual
def uptoBulk {H : Type} : DataW H → Nat
  | .lit (.string bytes) => bytes.length + 1
  | .lit _ => 1
  | .nil => 1
  | .ptr d => uptoBulk d + 1
  | .slice elems spare => uptoBulkAll elems + uptoBulkAll spare + 1
  | .agg parts => uptoBulkAll parts + 1
  | .iface _ d => uptoBulk d + 1
  | .map entries => uptoBulkEntries entries + 1
  | .held _ => 1
def uptoBulkAll {H : Type} : List (DataW H) → Nat
  | [] => 0
  | d :: r => uptoBulk d + uptoBulkAll r
def uptoBulkEntries {H : Type} : List (Lit × DataW H) → Nat
  | [] => 0
  | x :: r => uptoBulkEntry x + uptoBulkEntries r
def uptoBulkEntry {H : Type} : Lit × DataW H → Nat
  | (.string bytes, d) => bytes.length + uptoBulk d + 1
  | (_, d) => uptoBulk d + 1
 end
def uptoSmall : (H : Type) → List (DataW H) → Bool := fun _ ds => decide (uptoBulkAll ds ≤ 1048576)
def OpenSpec.upto (s : _root_.Go.ChangeSpec) : _root_.Go.OpenSpec := { _root_.Go.OpenSpec.ofChange s with cond := some uptoSmall }

/-- 'indeliblelaw04.BitmapForms', WHERE WHAT IT READS IS OF BULK AT MOST 1048576: true; the input reads as it did. -/
def bitmapFormsUptoRow : OpenClaim := { program := "ytfkpodhkbcocmaa", sum := "03b29d722f74588bdd3648951c5b480a1ff74c9cc644211512988a14cddb3b4b", func := "indelible/indeliblelaw04.BitmapForms", spec := "bitmapForms", inPlace := ["internal/abi.NoEscape", "internal/bytealg.IndexByteString"], unfollowed := true, recurses := true, apart := false, narrowed := true }
def BitmapFormsUptoSaid : Prop := bitmapFormsUptoRow.holds Try.pinned (OpenSpec.upto bitmapFormsSpec)

/-- 'indeliblelaw04.BitmapParts', WHERE WHAT IT READS IS OF BULK AT MOST 1048576: true; the input reads as it did. -/
def bitmapPartsUptoRow : OpenClaim := { program := "ytfkpodhkbcocmaa", sum := "03b29d722f74588bdd3648951c5b480a1ff74c9cc644211512988a14cddb3b4b", func := "indelible/indeliblelaw04.BitmapParts", spec := "bitmapParts", inPlace := ["internal/abi.NoEscape", "internal/bytealg.IndexByteString"], unfollowed := true, recurses := true, apart := false, narrowed := true }
def BitmapPartsUptoSaid : Prop := bitmapPartsUptoRow.holds Try.pinned (OpenSpec.upto bitmapPartsSpec)

/-- 'indeliblelaw04.BitmapDots', WHERE WHAT IT READS IS OF BULK AT MOST 1048576: true; the input reads as it did. -/
def bitmapDotsUptoRow : OpenClaim := { program := "ytfkpodhkbcocmaa", sum := "03b29d722f74588bdd3648951c5b480a1ff74c9cc644211512988a14cddb3b4b", func := "indelible/indeliblelaw04.BitmapDots", spec := "bitmapDots", inPlace := ["internal/abi.NoEscape", "internal/bytealg.IndexByteString"], unfollowed := true, recurses := true, apart := false, narrowed := true }
def BitmapDotsUptoSaid : Prop := bitmapDotsUptoRow.holds Try.pinned (OpenSpec.upto bitmapDotsSpec)

/-- 'indeliblelaw04.BitmapTexts', WHERE WHAT IT READS IS OF BULK AT MOST 1048576: true; the input reads as it did. -/
def bitmapTextsUptoRow : OpenClaim := { program := "ytfkpodhkbcocmaa", sum := "03b29d722f74588bdd3648951c5b480a1ff74c9cc644211512988a14cddb3b4b", func := "indelible/indeliblelaw04.BitmapTexts", spec := "bitmapTexts", inPlace := ["internal/abi.NoEscape", "internal/bytealg.IndexByteString"], unfollowed := true, recurses := true, apart := false, narrowed := true }
def BitmapTextsUptoSaid : Prop := bitmapTextsUptoRow.holds Try.pinned (OpenSpec.upto bitmapTextsSpec)

/-- 'indeliblelaw04.BitmapCounts', WHERE WHAT IT READS IS OF BULK AT MOST 1048576: true; the input reads as it did. -/
def bitmapCountsUptoRow : OpenClaim := { program := "ytfkpodhkbcocmaa", sum := "03b29d722f74588bdd3648951c5b480a1ff74c9cc644211512988a14cddb3b4b", func := "indelible/indeliblelaw04.BitmapCounts", spec := "bitmapCounts", inPlace := ["internal/abi.NoEscape", "internal/bytealg.IndexByteString"], unfollowed := true, recurses := true, apart := false, narrowed := true }
def BitmapCountsUptoSaid : Prop := bitmapCountsUptoRow.holds Try.pinned (OpenSpec.upto bitmapCountsSpec)

end Rows
end Go.Proofs.Ytfkpodhkbcocmaa
