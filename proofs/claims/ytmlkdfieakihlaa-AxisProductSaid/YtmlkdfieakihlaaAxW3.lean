/-
  Layer 5 (axis): arrays of three numbers, opened.
-/
import Derived.Test.YtmlkdfieakihlaaAxW
namespace Go.Proofs.Ytmlkdfieakihlaa
open Go.ChangeShapes Go.WideShapes Go.ChangeAt Go.RowKit
theorem cells16 : Try.prog.cellsOf 49 = 1 := by kernel_rfl
theorem cells316 : Try.prog.cellsOf 54 = 3 := by kernel_rfl
theorem list3 {α : Type} : ∀ (l : List α), l.toArray.size = 3 → ∃ a b c, l = [a, b, c]
  | [a, b, c], _ => ⟨a, b, c, rfl⟩
/-- Three small numbers. -/
theorem open_three16 {H : Type} {enc : TypeId × Value → H} {W : World} {base : Nat} {v : Value} {d : DataW H} {p : List MemPlace} (hv : Value.okWide Try.prog W .any base 54 v) (h : DataW.Trod enc Try.prog W 0 (fun _ => true) true 54 v d p) :
    ∃ a b c : Int, v = .agg #[.int .i16 a, .int .i16 b, .int .i16 c] ∧ (-32768 ≤ a ∧ a ≤ 32767) ∧ (-32768 ≤ b ∧ b ≤ 32767) ∧ (-32768 ≤ c ∧ c ≤ 32767) := by
  obtain ⟨cs, rfl, hsz, _⟩ : ∃ cs, v = .agg cs ∧ cs.size = Try.prog.cellsOf 54 ∧ Row.okWide Try.prog W .any base 54 cs := by
    simpa [Value.okWide, Try.underlying54] using hv
  rw [cells316] at hsz
  obtain ⟨l⟩ := cs
  obtain ⟨c0, c1, c2, rfl⟩ := list3 l hsz
  obtain ⟨fuel, hf⟩ := h
  obtain ⟨xs, m, _, hx, _, hl, hel⟩ := DataW.trod_array Try.underlying54 hf
  match xs, hl with
  | [y0, y1, y2], _ =>
    have hy0 := hel 0 (by omega)
    have hy1 := hel 1 (by omega)
    have hy2 := hel 2 (by omega)
    simp [cells16, Value.cells] at hy0 hy1 hy2
    obtain ⟨a, h0, _, w0⟩ := DataW.trod_int Try.underlying49 hy0
    obtain ⟨b, h1, _, w1⟩ := DataW.trod_int Try.underlying49 hy1
    obtain ⟨c, h2, _, w2⟩ := DataW.trod_int Try.underlying49 hy2
    simp at h0 h1 h2
    subst h0 h1 h2
    exact ⟨a, b, c, rfl, i16_wf w0, i16_wf w1, i16_wf w2⟩
end Go.Proofs.Ytmlkdfieakihlaa
