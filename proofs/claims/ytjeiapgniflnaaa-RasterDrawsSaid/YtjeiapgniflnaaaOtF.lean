/-
  Layer 6 (outline): Check and Box of the document's own.
-/
import Derived.Test.YtjeiapgniflnaaaOtOne
import Derived.Test.YtjeiapgniflnaaaOtB
namespace Go.Proofs.Ytjeiapgniflnaaa.Ot
open Go.RowKit
def RcIn (w : World) (g : Nat → Pt) (n : Nat) (v : Value) (V : World) : Prop := ∃ i : Nat, v = .int .i64 i ∧ i ≤ n ∧ allP g i = true ∧ Below w.heap.size w V
theorem okP_at (p : Pt) : okP p = true ∧ decide (p.x < -512) = false ∧ decide (p.x > 512) = false ∧ decide (p.y < -512) = false ∧ decide (p.y > 512) = false ∨
    okP p = false ∧ (decide (p.x < -512) = true ∨ decide (p.x < -512) = false ∧ (decide (p.x > 512) = true ∨ decide (p.x > 512) = false ∧ (decide (p.y < -512) = true ∨ decide (p.y < -512) = false ∧ decide (p.y > 512) = true))) := by
  unfold okP inC
  simp only [Bool.and_eq_true, decide_eq_true_eq, decide_eq_false_iff_not, Bool.and_eq_false_iff]
  omega
theorem rc_up4 {V : World} {b : Nat} {r : Rc} (p : Pt) (h : RcAt V b r) : RcAt ((((V.setCell ⟨b, 0, none⟩ (.int .i64 (min r.a p.x))).setCell ⟨b, 1, none⟩ (.int .i64 (min r.b p.y))).setCell ⟨b, 2, none⟩ (.int .i64 (max r.c p.x))).setCell ⟨b, 3, none⟩ (.int .i64 (max r.d p.y))) b (rcUp r p) := by
  obtain ⟨⟨h1, h2, h3, h4⟩, f1, f2, f3, f4⟩ := h
  exact ⟨⟨by show _ = some (Value.int IntKind.i64 (min r.a p.x)); go_cell, by show _ = some (Value.int IntKind.i64 (min r.b p.y)); go_cell, by show _ = some (Value.int IntKind.i64 (max r.c p.x)); go_cell, by show _ = some (Value.int IntKind.i64 (max r.d p.y)); go_cell⟩, by go_cell, by go_cell, by go_cell, by go_cell⟩
theorem rc_keep4 {V : World} {b s : Nat} {r : Rc} (h : RcAt V s r) (hn : s ≠ b) (v0 v1 v2 v3 : Value) : RcAt ((((V.setCell ⟨b, 0, none⟩ v0).setCell ⟨b, 1, none⟩ v1).setCell ⟨b, 2, none⟩ v2).setCell ⟨b, 3, none⟩ v3) s r := by
  obtain ⟨⟨h1, h2, h3, h4⟩, f1, f2, f3, f4⟩ := h
  have hn' : ¬ b = s := fun e => hn e.symm
  exact ⟨⟨by go_cell, by go_cell, by go_cell, by go_cell⟩, by go_cell, by go_cell, by go_cell, by go_cell⟩
/-- What the document's own Box holds. -/
structure RB (w V : World) (p : Nat → Pt) (j : Nat) : Prop where
  r : RcAt V (w.heap.size + 1) (bxN p j)
  z : RcAt V w.heap.size rc0
  be : Below w.heap.size w V
theorem rb_below {w V V' : World} {p : Nat → Pt} {j : Nat} (h : RB w V p j) (hB : Below V.heap.size V V') : RB w V' p j :=
  ⟨rcat_below h.r hB, rcat_below h.z hB, bt h.be hB⟩
def RbOut (w : World) (N : Nat) (ns : Nat → Nat) (g : Nat → Nat → Pt) (s4 s5 : Value) (V : World) : Prop := ∃ k : Nat, s5 = .int .i64 k ∧ k ≤ N ∧ s4 = .bool (decide (0 < pre ns k)) ∧ RB w V (fl N ns g) (pre ns k)
def RbIn (w : World) (N : Nat) (ns : Nat → Nat) (g : Nat → Nat → Pt) (k : Nat) (s4 s6 : Value) (V : World) : Prop := ∃ i : Nat, s6 = .int .i64 i ∧ i ≤ ns k ∧ s4 = .bool (decide (0 < pre ns k + i)) ∧ RB w V (fl N ns g) (pre ns k + i)
theorem fl_at {N : Nat} {ns : Nat → Nat} {g : Nat → Nat → Pt} {k i : Nat} (hk : k < N) (hi : i < ns k) : fl N ns g (pre ns k + i) = g k i := by
  unfold fl; rw [loc_at ns hi hk]
end Go.Proofs.Ytjeiapgniflnaaa.Ot
