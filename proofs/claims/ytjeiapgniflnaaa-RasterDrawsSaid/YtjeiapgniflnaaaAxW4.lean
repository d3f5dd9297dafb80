/-
  Layer 5 (axis): three numbers, opened.
-/
import Derived.Test.YtjeiapgniflnaaaAxW
namespace Go.Proofs.Ytjeiapgniflnaaa
open Go.ChangeShapes Go.WideShapes Go.ChangeAt Go.RowKit
theorem cells3i : Try.prog.cellsOf 24 = 3 := by kernel_rfl
theorem list3i {α : Type} : ∀ (l : List α), l.toArray.size = 3 → ∃ a b c, l = [a, b, c]
  | [a, b, c], _ => ⟨a, b, c, rfl⟩
/-- Three numbers. -/
theorem open_three {H : Type} {enc : TypeId × Value → H} {W : World} {base : Nat} {v : Value} {d : DataW H} {p : List MemPlace} (hv : Value.okWide Try.prog W .any base 24 v) (h : DataW.Trod enc Try.prog W 0 (fun _ => true) true 24 v d p) :
    ∃ a b c : Int, v = .agg #[.int .i64 a, .int .i64 b, .int .i64 c] ∧ Ax.R64 a ∧ Ax.R64 b ∧ Ax.R64 c := by
  obtain ⟨cs, rfl, hsz, _⟩ : ∃ cs, v = .agg cs ∧ cs.size = Try.prog.cellsOf 24 ∧ Row.okWide Try.prog W .any base 24 cs := by
    simpa [Value.okWide, Try.underlying24] using hv
  rw [cells3i] at hsz
  obtain ⟨l⟩ := cs
  obtain ⟨c0, c1, c2, rfl⟩ := list3i l hsz
  obtain ⟨fuel, hf⟩ := h
  obtain ⟨xs, m, _, hx, _, hl, hel⟩ := DataW.trod_array Try.underlying24 hf
  match xs, hl with
  | [y0, y1, y2], _ =>
    have hy0 := hel 0 (by omega)
    have hy1 := hel 1 (by omega)
    have hy2 := hel 2 (by omega)
    simp [cellsI, Value.cells] at hy0 hy1 hy2
    obtain ⟨a, h0, _, w0⟩ := DataW.trod_int Try.underlying3 hy0
    obtain ⟨b, h1, _, w1⟩ := DataW.trod_int Try.underlying3 hy1
    obtain ⟨c, h2, _, w2⟩ := DataW.trod_int Try.underlying3 hy2
    simp at h0 h1 h2
    subst h0 h1 h2
    exact ⟨a, b, c, rfl, i64_wf w0, i64_wf w1, i64_wf w2⟩
end Go.Proofs.Ytjeiapgniflnaaa
