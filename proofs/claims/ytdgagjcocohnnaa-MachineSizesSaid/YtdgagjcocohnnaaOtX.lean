/-
  Layer 6 (outline): polygon and Flat of the document's own.
-/
import Derived.Test.YtdgagjcocohnnaaOtV
import Derived.Test.YtdgagjcocohnnaaOtH
namespace Go.Proofs.Ytdgagjcocohnnaa.Ot
open Go.RowKit
theorem grO (w : World) (r : Option Nat) : w.grownBy w r := ⟨rfl, rfl, rfl, Nat.le_refl _, fun _ _ _ => rfl⟩
theorem gaO {a w : World} {r : Option Nat} (h : a.grownBy w r) (o : Obj) : a.grownBy (w.alloc o) r := gt h (ba (Below.refl _ _) o)
theorem gdO {a w : World} {r : Option Nat} (h : a.grownBy w.drew r) : a.grownBy w r := ⟨h.os, h.tape, h.output, h.size, h.block⟩
theorem far {V V' : World} {row : Option Nat} {b o : Nat} {v : Value} (h : V.grownBy V' row) (hb : row ≠ some b) (hc : V.cell? ⟨b, o, none⟩ = some v) : V'.cell? ⟨b, o, none⟩ = some v :=
  (h.cell_far ⟨b, o, none⟩ (block_lt_of_cell hc) (fun e => hb e.symm)).trans hc
theorem own_drew {w : World} {S n e sz : Nat} {v : Value} {xs : List Value} (h : w.ownsRow S e sz v n xs) : w.drew.ownsRow S e sz v n xs := h
/-- The first points of a curve. -/
def crvL (g : Nat → Pt) (n k j : Nat) : List Pt := (List.range j).map fun i => crvP g n k (i + 1)
theorem crvL_all (g : Nat → Pt) (n k : Nat) : crvL g n k (crvN g n k) = crv g n k := rfl
theorem crvL_next (g : Nat → Pt) (n k j : Nat) : crvL g n k (j + 1) = crvL g n k j ++ [crvP g n k (j + 1)] := by unfold crvL; rw [List.range_succ, List.map_append]; rfl
theorem crvL_len (g : Nat → Pt) (n k j : Nat) : (crvL g n k j).length = j := by unfold crvL; simp
def RpRel (w : World) (g : Nat → Pt) (n : Nat) (s3 s4 : Value) (V : World) : Prop :=
  ∃ k : Nat, s4 = .int .i64 k ∧ k ≤ n ∧ V.ownsRow w.heap.size 53 3 s3 (plK g n k).length (vals (plK g n k)) ∧ Below w.heap.size w V
def RqRel (w W0 : World) (row0 : Option Nat) (l : List Pt) (g : Nat → Pt) (n k N : Nat) (s3 s9 : Value) (V : World) : Prop :=
  ∃ j : Nat, s9 = .int .i64 ((j : Int) + 1) ∧ j ≤ N ∧ V.ownsRow w.heap.size 53 3 s3 (l.length + j) (vals (l ++ crvL g n k j)) ∧ W0.grownBy V row0 ∧ (s3.ownBlock = row0 ∨ ∃ q, s3.ownBlock = some q ∧ W0.heap.size ≤ q)
end Go.Proofs.Ytdgagjcocohnnaa.Ot
