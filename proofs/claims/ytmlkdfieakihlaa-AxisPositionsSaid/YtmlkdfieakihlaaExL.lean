/-
  The walks of layer 1 (exact): Sum.
-/
import Derived.Test.YtmlkdfieakihlaaExJ
import Derived.Test.YtmlkdfieakihlaaExRed
import Derived.Deep.RegionHeld3
import Derived.Deep.DeepCutAuto
namespace Go.Proofs.Ytmlkdfieakihlaa.Ex
open Go.RowKit

/-- Beside one row that may be written: nothing that was there has turned. -/
theorem gr (w : World) (r : Nat) : w.grownBy w (some r) := ⟨rfl, rfl, rfl, Nat.le_refl _, fun _ _ _ => rfl⟩
theorem gd1 {a w : World} {r : Option Nat} (h : a.grownBy w r) : a.grownBy w.drew r := ⟨h.os, h.tape, h.output, h.size, h.block⟩
theorem gt {a w v : World} {r : Option Nat} (h : a.grownBy w r) (hb : Below w.heap.size w v) : a.grownBy v r :=
  ⟨hb.os.trans h.os, hb.tape.trans h.tape, hb.output.trans h.output, Nat.le_trans h.size hb.size, fun i hi hn => (hb.block i (Nat.lt_of_lt_of_le hi h.size)).trans (h.block i hi hn)⟩
theorem gs {a w : World} {r o : Nat} (h : a.grownBy w (some r)) (u : Value) : a.grownBy (w.setCell ⟨r, o, none⟩ u) (some r) :=
  ⟨h.os, h.tape, h.output, by simpa [World.setCell] using h.size, fun i hi hne => (Below.heap_setCell w _ u i (by rintro rfl; exact hne rfl)).trans (h.block i hi hne)⟩
theorem gc {a w : World} {r b o : Nat} {v : Value} (h : a.grownBy w (some r)) (hc : a.cell? ⟨b, o, none⟩ = some v) (hn : b ≠ r) : w.cell? ⟨b, o, none⟩ = some v :=
  h.cell hc (by simpa using hn)
theorem gB {w a v : World} {r : Nat} (h : Below w.heap.size w a) (g : a.grownBy v (some r)) (hr : w.heap.size ≤ r) : Below w.heap.size w v :=
  ⟨g.os.trans h.os, g.tape.trans h.tape, g.output.trans h.output, Nat.le_trans h.size g.size, fun i hi => (g.block i (Nat.lt_of_lt_of_le hi h.size) (fun e => by injection e; omega)).trans (h.block i hi)⟩

theorem quo_wrap (a b : Int) (ha : 0 ≤ a) (hb : 1 ≤ b) (ha1 : a ≤ 9223372036854775807) : IntKind.i64.wrap (a.tdiv b) = a / b := by
  have := Int.ediv_nonneg ha (show 0 ≤ b by omega)
  have := Int.ediv_le_self b ha
  rw [Int.tdiv_eq_ediv_of_nonneg ha]; exact IntWalk.i64_in _ (by omega)

end Go.Proofs.Ytmlkdfieakihlaa.Ex
