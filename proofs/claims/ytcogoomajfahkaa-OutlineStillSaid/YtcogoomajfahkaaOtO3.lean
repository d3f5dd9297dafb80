/-
  Layer 6 (outline): cases and deltas that the laws are called with, opened.
-/
import Derived.Test.YtcogoomajfahkaaOtO
import Derived.Test.YtcogoomajfahkaaOtL
namespace Go.Proofs.Ytcogoomajfahkaa
open Go.ChangeShapes Go.WideShapes Go.ChangeAt Go.RowKit
theorem cellsLs : Try.prog.cellsOf 23 = 1 := by kernel_rfl
theorem cellsCa : Try.prog.cellsOf 46 = 3 := by kernel_rfl
set_option maxRecDepth 100000 in
/-- A case. -/
theorem open_case {H : Type} {enc : TypeId × Value → H} {W : World} {base : Nat} {v : Value} {d : DataW H} {p : List MemPlace}
    (hv : Value.okWide Try.prog W .any base 46 v) (h : DataW.Trod enc Try.prog W 0 (fun _ => true) true 46 v d p) :
    ∃ (oa : Option Addr) (oN oc : Nat) (oL : Nat → Nat) (ol : Nat → Nat → Int) (da : Option Addr) (dN dc : Nat) (dL : Nat → Nat) (dl : Nat → Nat → Int) (ta : Option Addr) (tn tc : Nat) (tl : Nat → Int),
      v = .agg #[.slice oa oN oc, .slice da dN dc, .slice ta tn tc] ∧ Ot.LX W oa oN oL ol ∧ Ot.LX W da dN dL dl ∧ tn ≤ tc ∧ tc ≤ 9223372036854775807 ∧ Ax.LA W ta tn tl ∧ ∀ i, i < tn → Ot.R64 (tl i) := by
  obtain ⟨cs, rfl, hsz, _⟩ : ∃ cs, v = .agg cs ∧ cs.size = Try.prog.cellsOf 46 ∧ Row.okWide Try.prog W .any base 46 cs := by
    simpa [Value.okWide, Try.underlying46] using hv
  obtain ⟨fuel, hf⟩ := h
  obtain ⟨l⟩ := cs
  obtain ⟨xs, n, _, _, hl, hlen, hg⟩ := DataW.trod_struct Try.underlying46 hf
  rw [cellsCa] at hl
  simp only [Value.cells] at hl hg
  match l, hl with
  | [e0, e1, e2], _ =>
    match xs, hlen with
    | [y0, y1, y2], _ =>
      have g0 := hg 0 _ rfl
      have g1 := hg 1 _ rfl
      have g2 := hg 2 _ rfl
      simp only [List.getElem?_cons_zero, List.getElem?_cons_succ] at g0 g1 g2
      obtain ⟨oa, oN, oc, oL, ol, h0, _, _, h1⟩ := read_lists g0
      obtain ⟨da, dN, dc, dL, dl, h2, _, _, h3⟩ := read_lists g1
      obtain ⟨ta, tn, tc, tl, h4, h5, h6, h7, h8⟩ := read_ints g2
      cases h0; cases h2; cases h4
      unfold maxLen at h6
      exact ⟨oa, oN, oc, oL, ol, da, dN, dc, dL, dl, ta, tn, tc, tl, rfl, h1, h3, h5, by omega, h7, h8⟩
end Go.Proofs.Ytcogoomajfahkaa
