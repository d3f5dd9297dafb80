/-
  Layer 4 (bitmap): any bitmap that a law is called with, opened.
-/
import Derived.Test.YtfkpodhkbcocmaaBmW
import Derived.Deep.Grids
namespace Go.Proofs.Ytfkpodhkbcocmaa
open Go.ChangeShapes Go.WideShapes Go.ChangeAt Go.RowKit
theorem cellsBm : Try.prog.cellsOf 28 = 3 := by kernel_rfl
theorem read_bools {H : Type} {enc : TypeId × Value → H} {W : World} {fuel : Nat} {cs : List Value} {x : DataW H × List MemPlace}
    (hf : DataW.trod enc Try.prog W 0 (fun _ => true) true fuel 26 cs = some x) :
    ∃ (a : Option Addr) (n c : Nat) (f : Nat → Bool), cs = [.slice a n c] ∧ n ≤ c ∧ c ≤ maxLen ∧ Bm.DA W a n f := by
  rcases Go.Deep.open_bools Try.underlying26 Try.underlying4 cellsBo hf with ⟨hcs, hx⟩ | ⟨a, len, cap, B, hcs, _, hl, hm, hx, hcell⟩
  · exact ⟨none, 0, 0, fun _ => false, hcs, Nat.le_refl _, Nat.zero_le _, fun i h => absurd h (by omega)⟩
  · refine ⟨some a, len, cap, B, hcs, hl, hm, fun i hi => ?_⟩
    obtain ⟨b, off, spot⟩ := a
    have hspot : spot = none := by simpa [Addr.add] using World.cell?_spot (hcell 0 (by omega))
    subst hspot
    refine ⟨b, off, rfl, ?_⟩
    have := hcell i (by omega)
    rw [add_plain] at this
    exact this
/-- Any bitmap. -/
theorem open_bitmap {H : Type} {enc : TypeId × Value → H} {W : World} {base : Nat} {v : Value} {d : DataW H} {p : List MemPlace}
    (hv : Value.okWide Try.prog W .any base 28 v) (h : DataW.Trod enc Try.prog W 0 (fun _ => true) true 28 v d p) :
    ∃ (w h : Int) (a : Option Addr) (n c : Nat) (f : Nat → Bool), v = Bm.bv w h a n c ∧ n ≤ c ∧ c ≤ 9223372036854775807 ∧ Bm.R64 w ∧ Bm.R64 h ∧ Bm.DA W a n f := by
  obtain ⟨cs, rfl, _⟩ := okWide_struct Try.underlying28 hv
  obtain ⟨fuel, hf⟩ := h
  obtain ⟨xs, n, _, _, hl, hlen, hg⟩ := DataW.trod_struct Try.underlying28 hf
  rw [cellsBm] at hl
  obtain ⟨cl⟩ := cs
  simp only [Value.cells] at hl hg
  match cl, hl with
  | [e0, e1, e2], _ =>
    match xs, hlen with
    | [y0, y1, y2], _ =>
      have g0 := hg 0 _ rfl
      have g1 := hg 1 _ rfl
      have g2 := hg 2 _ rfl
      simp only [List.getElem?_cons_zero, List.getElem?_cons_succ] at g0 g1 g2
      obtain ⟨w0, h0, _, u0⟩ := DataW.trod_int Try.underlying3 g0
      obtain ⟨w1, h1, _, u1⟩ := DataW.trod_int Try.underlying3 g1
      obtain ⟨a, n', c, f, h2, r1, r2, r3⟩ := read_bools g2
      cases h0; cases h1; cases h2
      unfold maxLen at r2
      exact ⟨w0, w1, a, n', c, f, rfl, r1, by omega, i64_wf u0, i64_wf u1, r3⟩
end Go.Proofs.Ytfkpodhkbcocmaa
