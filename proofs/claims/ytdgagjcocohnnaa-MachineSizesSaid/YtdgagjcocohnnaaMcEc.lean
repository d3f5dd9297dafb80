/-
  Layer 9 (machine): cases that the laws are called with, opened.
-/
import Derived.Test.YtdgagjcocohnnaaOtO
import Derived.Laws.IdiomArrays
namespace Go.Proofs.Ytdgagjcocohnnaa
open Go.ChangeShapes Go.WideShapes Go.ChangeAt Go.RowKit
theorem cellsC9 : Try.prog.cellsOf 26 = 5 := by kernel_rfl
set_option maxRecDepth 100000 in
theorem read_three {H : Type} {enc : TypeId × Value → H} {W : World} {fuel : Nat} {c0 c1 c2 : Value} {x : DataW H × List MemPlace}
    (hf : DataW.trod enc Try.prog W 0 (fun _ => true) true fuel 24 [c0, c1, c2] = some x) :
    ∃ a b c : Int, c0 = .int .i64 a ∧ c1 = .int .i64 b ∧ c2 = .int .i64 c ∧ Ax.R64 a ∧ Ax.R64 b ∧ Ax.R64 c := by
  obtain ⟨y0, y1, y2, n, _, g0, g1, g2⟩ := trod_array3 Try.underlying24 cellsI hf
  obtain ⟨l, h1, _, w1⟩ := DataW.trod_int Try.underlying3 g0
  obtain ⟨u, h2, _, w2⟩ := DataW.trod_int Try.underlying3 g1
  obtain ⟨h, h3, _, w3⟩ := DataW.trod_int Try.underlying3 g2
  cases h1; cases h2; cases h3
  exact ⟨l, u, h, rfl, rfl, rfl, i64_wf w1, i64_wf w2, i64_wf w3⟩
set_option maxRecDepth 100000 in
/-- A case. -/
theorem open_case9 {H : Type} {enc : TypeId × Value → H} {W : World} {base : Nat} {v : Value} {d : DataW H} {p : List MemPlace}
    (hv : Value.okWide Try.prog W .any base 26 v) (h : DataW.Trod enc Try.prog W 0 (fun _ => true) true 26 v d p) :
    ∃ (oa : Option Addr) (oN oc : Nat) (oL : Nat → Nat) (ol : Nat → Nat → Int) (ta : Option Addr) (tn tc : Nat) (tl : Nat → Int) (x y z : Int),
      v = .agg #[.slice oa oN oc, .slice ta tn tc, .int .i64 x, .int .i64 y, .int .i64 z] ∧ Ot.LX W oa oN oL ol ∧ tn ≤ tc ∧ tc ≤ 9223372036854775807 ∧ Ax.LA W ta tn tl ∧ (∀ i, i < tn → Ax.R64 (tl i)) ∧ Ax.R64 x ∧ Ax.R64 y ∧ Ax.R64 z := by
  obtain ⟨cs, rfl, hsz, _⟩ : ∃ cs, v = .agg cs ∧ cs.size = Try.prog.cellsOf 26 ∧ Row.okWide Try.prog W .any base 26 cs := by
    simpa [Value.okWide, Try.underlying26] using hv
  obtain ⟨fuel, hf⟩ := h
  obtain ⟨l⟩ := cs
  obtain ⟨xs, n, _, _, hl, hlen, hg⟩ := DataW.trod_struct Try.underlying26 hf
  rw [cellsC9] at hl
  simp only [Value.cells] at hl hg
  match l, hl with
  | [e0, e1, e2, e3, e4], _ =>
    match xs, hlen with
    | [y0, y1, y2], _ =>
      have g0 := hg 0 _ rfl
      have g1 := hg 1 _ rfl
      have g2 := hg 2 _ rfl
      simp only [List.getElem?_cons_zero, List.getElem?_cons_succ] at g0 g1 g2
      obtain ⟨oa, oN, oc, oL, ol, h0, _, _, h1⟩ := read_lists g0
      obtain ⟨ta, tn, tc, tl, h4, h5, h6, h7, h8⟩ := read_ints g1
      obtain ⟨x, y, z, i1, i2, i3, i4, i5, i6⟩ := read_three (c0 := e2) (c1 := e3) (c2 := e4) g2
      cases h0; cases h4
      subst i1 i2 i3
      unfold maxLen at h6
      exact ⟨oa, oN, oc, oL, ol, ta, tn, tc, tl, x, y, z, rfl, h1, h5, by omega, h7, h8, i4, i5, i6⟩
end Go.Proofs.Ytdgagjcocohnnaa
