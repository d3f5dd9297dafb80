/-
  Layer 7 (raster): two numbers and four, opened.
-/
import Derived.Test.YtjeiapgniflnaaaAxW
namespace Go.Proofs.Ytjeiapgniflnaaa
open Go.ChangeShapes Go.WideShapes Go.ChangeAt Go.RowKit
theorem cells2i : Try.prog.cellsOf 46 = 2 := by kernel_rfl
theorem list2i {α : Type} : ∀ (l : List α), l.toArray.size = 2 → ∃ a b, l = [a, b]
  | [a, b], _ => ⟨a, b, rfl⟩
/-- Two numbers. -/
theorem open_two {H : Type} {enc : TypeId × Value → H} {W : World} {base : Nat} {v : Value} {d : DataW H} {p : List MemPlace} (hv : Value.okWide Try.prog W .any base 46 v) (h : DataW.Trod enc Try.prog W 0 (fun _ => true) true 46 v d p) :
    ∃ a b : Int, v = .agg #[.int .i64 a, .int .i64 b] ∧ Ax.R64 a ∧ Ax.R64 b := by
  obtain ⟨cs, rfl, hsz, _⟩ : ∃ cs, v = .agg cs ∧ cs.size = Try.prog.cellsOf 46 ∧ Row.okWide Try.prog W .any base 46 cs := by
    simpa [Value.okWide, Try.underlying46] using hv
  rw [cells2i] at hsz
  obtain ⟨l⟩ := cs
  obtain ⟨c0, c1, rfl⟩ := list2i l hsz
  obtain ⟨fuel, hf⟩ := h
  obtain ⟨xs, m, _, hx, _, hl, hel⟩ := DataW.trod_array Try.underlying46 hf
  match xs, hl with
  | [y0, y1], _ =>
    have hy0 := hel 0 (by omega)
    have hy1 := hel 1 (by omega)
    simp [cellsI, Value.cells] at hy0 hy1
    obtain ⟨a, h0, _, w0⟩ := DataW.trod_int Try.underlying3 hy0
    obtain ⟨b, h1, _, w1⟩ := DataW.trod_int Try.underlying3 hy1
    simp at h0 h1
    subst h0 h1
    exact ⟨a, b, rfl, i64_wf w0, i64_wf w1⟩
theorem cells4i : Try.prog.cellsOf 53 = 4 := by kernel_rfl
theorem list4i {α : Type} : ∀ (l : List α), l.toArray.size = 4 → ∃ a b c d, l = [a, b, c, d]
  | [a, b, c, d], _ => ⟨a, b, c, d, rfl⟩
/-- Four numbers. -/
theorem open_four {H : Type} {enc : TypeId × Value → H} {W : World} {base : Nat} {v : Value} {d : DataW H} {p : List MemPlace} (hv : Value.okWide Try.prog W .any base 53 v) (h : DataW.Trod enc Try.prog W 0 (fun _ => true) true 53 v d p) :
    ∃ a b c d : Int, v = .agg #[.int .i64 a, .int .i64 b, .int .i64 c, .int .i64 d] ∧ Ax.R64 a ∧ Ax.R64 b ∧ Ax.R64 c ∧ Ax.R64 d := by
  obtain ⟨cs, rfl, hsz, _⟩ : ∃ cs, v = .agg cs ∧ cs.size = Try.prog.cellsOf 53 ∧ Row.okWide Try.prog W .any base 53 cs := by
    simpa [Value.okWide, Try.underlying53] using hv
  rw [cells4i] at hsz
  obtain ⟨l⟩ := cs
  obtain ⟨c0, c1, c2, c3, rfl⟩ := list4i l hsz
  obtain ⟨fuel, hf⟩ := h
  obtain ⟨xs, m, _, hx, _, hl, hel⟩ := DataW.trod_array Try.underlying53 hf
  match xs, hl with
  | [y0, y1, y2, y3], _ =>
    have hy0 := hel 0 (by omega)
    have hy1 := hel 1 (by omega)
    have hy2 := hel 2 (by omega)
    have hy3 := hel 3 (by omega)
    simp [cellsI, Value.cells] at hy0 hy1 hy2 hy3
    obtain ⟨a, h0, _, w0⟩ := DataW.trod_int Try.underlying3 hy0
    obtain ⟨b, h1, _, w1⟩ := DataW.trod_int Try.underlying3 hy1
    obtain ⟨c, h2, _, w2⟩ := DataW.trod_int Try.underlying3 hy2
    obtain ⟨d, h3, _, w3⟩ := DataW.trod_int Try.underlying3 hy3
    simp at h0 h1 h2 h3
    subst h0 h1 h2 h3
    exact ⟨a, b, c, d, rfl, i64_wf w0, i64_wf w1, i64_wf w2, i64_wf w3⟩
end Go.Proofs.Ytjeiapgniflnaaa
