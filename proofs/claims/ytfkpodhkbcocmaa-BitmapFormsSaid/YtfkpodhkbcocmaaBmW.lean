/-
  Layer 4 (bitmap): what the laws are called with, opened.
-/
import Derived.Test.YtfkpodhkbcocmaaBmU
import Derived.Test.YtfkpodhkbcocmaaRows
import Derived.ProofKit
import Derived.Carry
import Derived.ChangeMaps5
import Derived.ChangeSlices
namespace Go.Proofs.Ytfkpodhkbcocmaa
open Go.ChangeShapes Go.WideShapes Go.ChangeAt Go.RowKit

theorem own : ownKnob Try.prog.godebug = none := by kernel_rfl
theorem laidOut : laidOutB Try.prog = true := by kernel_rfl
theorem cellsI : Try.prog.cellsOf 3 = 1 := by kernel_rfl
theorem cellsBo : Try.prog.cellsOf 4 = 1 := by kernel_rfl
theorem cellsCase : Try.prog.cellsOf 25 = 7 := by kernel_rfl
theorem cellsFour : Try.prog.cellsOf 23 = 4 := by kernel_rfl
theorem cellsTwo : Try.prog.cellsOf 48 = 2 := by kernel_rfl
theorem i64_wf {n : Int} (h : (Lit.int .i64 n).wf = true) : Bm.R64 n := by
  unfold Bm.R64
  simpa [Lit.wf, IntKind.min, IntKind.max, IntKind.signed, IntKind.bits] using h
theorem read_ints {H : Type} {enc : TypeId × Value → H} {W : World} {fuel : Nat} {cs : List Value} {x : DataW H × List MemPlace}
    (hf : DataW.trod enc Try.prog W 0 (fun _ => true) true fuel 22 cs = some x) :
    ∃ (a : Option Addr) (n c : Nat) (l : Nat → Int), cs = [.slice a n c] ∧ n ≤ maxLen ∧ Bm.LA W a n l ∧ ∀ i, i < n → Bm.R64 (l i) := by
  rcases open_ints Try.underlying22 Try.underlying3 cellsI hf with ⟨hcs, hx⟩ | ⟨a, len', cap', zs, hcs, _, hl, hm, hz, hx, hcell, hwz⟩
  · exact ⟨none, 0, 0, fun _ => 0, hcs, Nat.zero_le _, fun i h => absurd h (by omega), fun i h => absurd h (by omega)⟩
  · simp only [if_true] at hz
    refine ⟨some a, len', cap', fun i => zs.getD i 0, hcs, by omega, fun i hi => ?_, fun i hi => ?_⟩
    · obtain ⟨b, off, spot⟩ := a
      have hspot : spot = none := by simpa [Addr.add] using World.cell?_spot (hcell 0 (by omega))
      subst hspot
      refine ⟨b, off, rfl, ?_⟩
      have := hcell i (by omega)
      rw [add_plain] at this
      exact this
    · refine i64_wf (hwz _ ?_)
      show zs.getD i 0 ∈ zs
      rw [List.getD_eq_getElem?_getD, List.getElem?_eq_getElem (by omega)]
      exact List.getElem_mem _
theorem read_four {H : Type} {enc : TypeId × Value → H} {W : World} {fuel : Nat} {a b c e : Value} {x : DataW H × List MemPlace}
    (hf : DataW.trod enc Try.prog W 0 (fun _ => true) true fuel 23 [a, b, c, e] = some x) :
    ∃ i j k l : Int, a = .int .i64 i ∧ b = .int .i64 j ∧ c = .int .i64 k ∧ e = .int .i64 l ∧ Bm.R64 i ∧ Bm.R64 j ∧ Bm.R64 k ∧ Bm.R64 l := by
  obtain ⟨xs, m, _, hx, _, hl, hel⟩ := DataW.trod_array Try.underlying23 hf
  match xs, hl with
  | [y0, y1, y2, y3], _ =>
    have hy0 := hel 0 (by omega)
    have hy1 := hel 1 (by omega)
    have hy2 := hel 2 (by omega)
    have hy3 := hel 3 (by omega)
    simp [cellsI] at hy0 hy1 hy2 hy3
    obtain ⟨i, h0, _, w0⟩ := DataW.trod_int Try.underlying3 hy0
    obtain ⟨j, h1, _, w1⟩ := DataW.trod_int Try.underlying3 hy1
    obtain ⟨k, h2, _, w2⟩ := DataW.trod_int Try.underlying3 hy2
    obtain ⟨l, h3, _, w3⟩ := DataW.trod_int Try.underlying3 hy3
    simp at h0 h1 h2 h3
    exact ⟨i, j, k, l, h0, h1, h2, h3, i64_wf w0, i64_wf w1, i64_wf w2, i64_wf w3⟩
/-- A case. -/
theorem open_case {H : Type} {enc : TypeId × Value → H} {W : World} {base : Nat} {v : Value} {d : DataW H} {p : List MemPlace}
    (hv : Value.okWide Try.prog W .any base 25 v) (h : DataW.Trod enc Try.prog W 0 (fun _ => true) true 25 v d p) :
    ∃ (aA : Option Addr) (nA cA : Nat) (la : Nat → Int) (aB : Option Addr) (nB cB : Nat) (lb : Nat → Int) (q l0 l1 l2 l3 : Int), v = Bm.caseV aA nA cA aB nB cB q l0 l1 l2 l3 ∧ nA ≤ 9223372036854775807 ∧ nB ≤ 9223372036854775807 ∧ Bm.R64 q ∧
      Bm.LA W aA nA la ∧ (∀ i, i < nA → Bm.R64 (la i)) ∧ Bm.LA W aB nB lb ∧ (∀ i, i < nB → Bm.R64 (lb i)) ∧ Bm.R64 l0 ∧ Bm.R64 l1 ∧ Bm.R64 l2 ∧ Bm.R64 l3 := by
  obtain ⟨cs, rfl, _⟩ := okWide_struct Try.underlying25 hv
  obtain ⟨fuel, hf⟩ := h
  obtain ⟨xs, n, _, _, hl, hlen, hg⟩ := DataW.trod_struct Try.underlying25 hf
  rw [cellsCase] at hl
  obtain ⟨cl⟩ := cs
  simp only [Value.cells] at hl hg
  match cl, hl with
  | [e0, e1, e2, e3, e4, e5, e6], _ =>
    match xs, hlen with
    | [y0, y1, y2, y3], _ =>
      have g0 := hg 0 _ rfl
      have g1 := hg 1 _ rfl
      have g2 := hg 2 _ rfl
      have g3 := hg 3 _ rfl
      simp only [List.getElem?_cons_zero, List.getElem?_cons_succ] at g0 g1 g2 g3
      obtain ⟨aA, nA, cA, la, h0, r1, r2, r3⟩ := read_ints g0
      obtain ⟨aB, nB, cB, lb, h1, s1, s2, s3⟩ := read_ints g1
      obtain ⟨q, h2, _, w2⟩ := DataW.trod_int Try.underlying3 g2
      obtain ⟨l0, l1, l2, l3, h3, h4, h5, h6, t0, t1, t2, t3⟩ := read_four g3
      cases h0; cases h1; cases h2
      subst h3 h4 h5 h6
      unfold maxLen at r1 s1
      exact ⟨aA, nA, cA, la, aB, nB, cB, lb, q, l0, l1, l2, l3, rfl, by omega, by omega, i64_wf w2, r2, r3, s2, s3, t0, t1, t2, t3⟩
theorem list2 {α : Type} : ∀ (l : List α), l.toArray.size = 2 → ∃ a b, l = [a, b]
  | [a, b], _ => ⟨a, b, rfl⟩
/-- Two numbers. -/
theorem open_two {H : Type} {enc : TypeId × Value → H} {W : World} {base : Nat} {v : Value} {d : DataW H} {p : List MemPlace} (hv : Value.okWide Try.prog W .any base 48 v) (h : DataW.Trod enc Try.prog W 0 (fun _ => true) true 48 v d p) :
    ∃ a b : Int, v = .agg #[.int .i64 a, .int .i64 b] ∧ Bm.R64 a ∧ Bm.R64 b := by
  obtain ⟨cs, rfl, hsz, _⟩ : ∃ cs, v = .agg cs ∧ cs.size = Try.prog.cellsOf 48 ∧ Row.okWide Try.prog W .any base 48 cs := by
    simpa [Value.okWide, Try.underlying48] using hv
  rw [cellsTwo] at hsz
  obtain ⟨l⟩ := cs
  obtain ⟨c0, c1, rfl⟩ := list2 l hsz
  obtain ⟨fuel, hf⟩ := h
  obtain ⟨xs, m, _, hx, _, hl, hel⟩ := DataW.trod_array Try.underlying48 hf
  match xs, hl with
  | [y0, y1], _ =>
    have hy0 := hel 0 (by omega)
    have hy1 := hel 1 (by omega)
    simp [cellsI, Value.cells] at hy0 hy1
    obtain ⟨a, h0, _, w0⟩ := DataW.trod_int Try.underlying3 hy0
    obtain ⟨b, h1, _, w1⟩ := DataW.trod_int Try.underlying3 hy1
    simp at h0 h1
    subst h0 h1
    exact ⟨a, b, rfl, i64_wf w0, i64_wf w1⟩
/-- A list of numbers. -/
theorem open_list {H : Type} {enc : TypeId × Value → H} {W : World} {base : Nat} {v : Value} {d : DataW H} {p : List MemPlace}
    (hv : Value.okWide Try.prog W .any base 22 v) (h : DataW.Trod enc Try.prog W 0 (fun _ => true) true 22 v d p) :
    ∃ (a : Option Addr) (n c : Nat) (l : Nat → Int), v = .slice a n c ∧ n ≤ 9223372036854775807 ∧ Bm.LA W a n l ∧ ∀ i, i < n → Bm.R64 (l i) := by
  obtain ⟨a0, len, cap, rfl⟩ := okWide_slice Try.underlying22 hv
  obtain ⟨fuel, hf⟩ := h
  obtain ⟨a, n, c, l, hcs, r1, r2, r3⟩ := read_ints hf
  simp [Value.cells] at hcs
  obtain ⟨rfl, rfl, rfl⟩ := hcs
  unfold maxLen at r1
  exact ⟨a0, len, cap, l, rfl, by omega, r2, r3⟩
end Go.Proofs.Ytfkpodhkbcocmaa
