/-
  Layer 6 (outline): Same of the program and of the document's own.
-/
import Derived.Test.YtjeiapgniflnaaaOtOne
namespace Go.Proofs.Ytjeiapgniflnaaa.Ot
open Go.RowKit
def EqC (n : Nat) (g : Nat → Pt) (n' : Nat) (g' : Nat → Pt) : Prop := n = n' ∧ ∀ i, i < n → g i = g' i
def EqO (N : Nat) (ns : Nat → Nat) (g : Nat → Nat → Pt) (N' : Nat) (ns' : Nat → Nat) (g' : Nat → Nat → Pt) : Prop := N = N' ∧ ∀ k, k < N → EqC (ns k) (g k) (ns' k) (g' k)
def EqcRel (w : World) (g g' : Nat → Pt) (n : Nat) (v : Value) (V : World) : Prop := ∃ k : Nat, v = .int .i64 k ∧ k ≤ n ∧ (∀ i, i < k → g i = g' i) ∧ Below w.heap.size w V
theorem pt_cases (p q : Pt) : p = q ∨ (p ≠ q ∧ ((p.x == q.x) = false ∨ (p.x = q.x ∧ (p.y == q.y) = false) ∨ (p.x = q.x ∧ p.y = q.y ∧ (p.o == q.o) = false))) := by
  by_cases h1 : p.x = q.x
  · by_cases h2 : p.y = q.y
    · by_cases h3 : p.o = q.o
      · exact .inl (pt_ext h1 h2 h3)
      · exact .inr ⟨fun e => h3 (by rw [e]), .inr (.inr ⟨h1, h2, beq_eq_false_iff_ne.2 h3⟩)⟩
    · exact .inr ⟨fun e => h2 (by rw [e]), .inr (.inl ⟨h1, beq_eq_false_iff_ne.2 h2⟩)⟩
  · exact .inr ⟨fun e => h1 (by rw [e]), .inl (beq_eq_false_iff_ne.2 h1)⟩
def EqoRel (w : World) (N : Nat) (ns : Nat → Nat) (g : Nat → Nat → Pt) (ns' : Nat → Nat) (g' : Nat → Nat → Pt) (v : Value) (V : World) : Prop := ∃ k : Nat, v = .int .i64 k ∧ k ≤ N ∧ (∀ i, i < k → EqC (ns i) (g i) (ns' i) (g' i)) ∧ Below w.heap.size w V
theorem ex_bool (P : Prop) : ∃ r : Bool, r = true ↔ P := by
  by_cases h : P
  · exact ⟨true, by simp [h]⟩
  · exact ⟨false, by simp [h]⟩
def RsRel (w : World) (g g' : Nat → Pt) (n : Nat) (v : Value) (V : World) : Prop := ∃ k : Nat, v = .int .i64 k ∧ k ≤ n ∧ (∀ i, i < k → g i = g' i) ∧ Below w.heap.size w V
end Go.Proofs.Ytjeiapgniflnaaa.Ot
