/-
  Layer 2 (wire): what the document's own reader answers for lists.
-/
import Derived.Test.YtadnkofbgifliaaWrNc
namespace Go.Proofs.Ytadnkofbgifliaa.Wr
open Go.RowKit

/-- What reading a list answers and leaves. -/
def ZList {α : Type} (f : α → List UInt8) (p : α → Prop) (E : TypeId) (val : α → Value) (s : ByteArray) (bad : Bool) (b : Nat) (w : World) (e : Ending) (w' : World) : Prop :=
  (∃ (l : List α) (t : List UInt8) (v : Value), (∀ x ∈ l, p x) ∧ s.data.toList = (encI l.length ++ l.flatMap f) ++ t ∧ e = .returned v ∧ w'.ownsRow w.heap.size E 1 v l.length (l.map val) ∧ RZ w' b ⟨t.toArray⟩ bad ∧ w.grownBy w' (some b)) ∨
    (NoL f p s ∧ e = .returned (.slice none 0 0) ∧ RZ w' b empty true ∧ w.grownBy w' (some b))
/-- Where the reading stands behind some elements. -/
def ZSt {α : Type} (f : α → List UInt8) (p : α → Prop) (val : α → Value) (s : ByteArray) (b : Nat) (n k : Nat) (vs : List Value) (wr : World) : Prop :=
  (∃ (l : List α) (t : List UInt8), (∀ x ∈ l, p x) ∧ s.data.toList = encI n ++ (l.flatMap f ++ t) ∧ vs = l.map val ∧ l.length = k ∧ RZ wr b ⟨t.toArray⟩ false) ∨ (NoL f p s ∧ RZ wr b empty true)
/-- The state at the head of a round. -/
def ZRel {α : Type} (f : α → List UInt8) (p : α → Prop) (E : TypeId) (val : α → Value) (s : ByteArray) (b : Nat) (w : World) (n : Nat) (sv sk : Value) (wr : World) : Prop :=
  ∃ (k : Nat) (vs : List Value), k ≤ n ∧ sk = .int .i64 k ∧ wr.ownsRow w.heap.size E 1 sv k vs ∧ w.grownBy wr (some b) ∧ Hid (ZSt f p val s b n k vs wr)
theorem zst_kept {α : Type} {f : α → List UInt8} {p : α → Prop} {val : α → Value} {s : ByteArray} {b n k : Nat} {vs : List Value} {wr w' : World} {row : Option Nat} (h : ZSt f p val s b n k vs wr) (hg : wr.grownBy w' row) (hne : row ≠ some b) : ZSt f p val s b n k vs w' := by
  rcases h with ⟨l, t, h1, h2, h3, h4, h5⟩ | ⟨h1, h2⟩
  · exact Or.inl ⟨l, t, h1, h2, h3, h4, rz_kept h5 hg hne⟩
  · exact Or.inr ⟨h1, rz_kept h2 hg hne⟩
end Go.Proofs.Ytadnkofbgifliaa.Wr
