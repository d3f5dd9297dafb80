/-
  Layer 5 (axis): lists of axes and of tents, opened.
-/
import Derived.Test.YtmlkdfieakihlaaAxW
import Derived.Test.YtmlkdfieakihlaaAxH
import Derived.Deep.Slices
namespace Go.Proofs.Ytmlkdfieakihlaa
open Go.ChangeShapes Go.WideShapes Go.ChangeAt Go.RowKit
theorem cellsAx : Try.prog.cellsOf 29 = 4 := by kernel_rfl
theorem cellsTn : Try.prog.cellsOf 52 = 3 := by kernel_rfl
theorem cellsStr : Try.prog.cellsOf 9 = 1 := by kernel_rfl
set_option maxRecDepth 100000 in
theorem read_axis {H : Type} {enc : TypeId × Value → H} {W : World} {fuel : Nat} {cs : List Value} {x : DataW H × List MemPlace}
    (hf : DataW.trod enc Try.prog W 0 (fun _ => true) true fuel 29 cs = some x) :
    ∃ y : Ax.Axs, cs = [.string y.t, .int .i64 y.l, .int .i64 y.u, .int .i64 y.h] ∧ y.t.size ≤ 9223372036854775807 ∧ Ax.R64 y.l ∧ Ax.R64 y.u ∧ Ax.R64 y.h := by
  obtain ⟨xs, n, _, _, hl, hlen, hg⟩ := DataW.trod_struct Try.underlying29 hf
  rw [cellsAx] at hl
  match cs, hl with
  | [e0, e1, e2, e3], _ =>
    match xs, hlen with
    | [y0, y1, y2, y3], _ =>
      have g0 := hg 0 _ rfl
      have g1 := hg 1 _ rfl
      have g2 := hg 2 _ rfl
      have g3 := hg 3 _ rfl
      simp only [cellsI, cellsStr, List.drop_zero, List.drop_succ_cons, List.take_succ_cons, List.take_zero, List.getElem?_cons_zero, List.getElem?_cons_succ] at g0 g1 g2 g3
      obtain ⟨s, h0, _, w0⟩ := DataW.trod_string Try.underlying9 g0
      obtain ⟨l, h1, _, w1⟩ := DataW.trod_int Try.underlying3 g1
      obtain ⟨u, h2, _, w2⟩ := DataW.trod_int Try.underlying3 g2
      obtain ⟨h, h3, _, w3⟩ := DataW.trod_int Try.underlying3 g3
      cases h0; cases h1; cases h2; cases h3
      unfold maxLen at w0
      exact ⟨⟨s, l, u, h⟩, rfl, by simp only; omega, i64_wf w1, i64_wf w2, i64_wf w3⟩
set_option maxRecDepth 100000 in
theorem read_tent {H : Type} {enc : TypeId × Value → H} {W : World} {fuel : Nat} {cs : List Value} {x : DataW H × List MemPlace}
    (hf : DataW.trod enc Try.prog W 0 (fun _ => true) true fuel 52 cs = some x) :
    ∃ y : Ax.Tns, cs = [.int .i64 y.l, .int .i64 y.p, .int .i64 y.h] := by
  obtain ⟨xs, n, _, _, hl, hlen, hg⟩ := DataW.trod_struct Try.underlying52 hf
  rw [cellsTn] at hl
  match cs, hl with
  | [e0, e1, e2], _ =>
    match xs, hlen with
    | [y0, y1, y2], _ =>
      have g0 := hg 0 _ rfl
      have g1 := hg 1 _ rfl
      have g2 := hg 2 _ rfl
      simp only [cellsI, List.drop_zero, List.drop_succ_cons, List.take_succ_cons, List.take_zero, List.getElem?_cons_zero, List.getElem?_cons_succ] at g0 g1 g2
      obtain ⟨l, h1, _, w1⟩ := DataW.trod_int Try.underlying3 g0
      obtain ⟨u, h2, _, w2⟩ := DataW.trod_int Try.underlying3 g1
      obtain ⟨h, h3, _, w3⟩ := DataW.trod_int Try.underlying3 g2
      cases h1; cases h2; cases h3
      exact ⟨⟨l, u, h⟩, rfl⟩
set_option maxRecDepth 100000 in
theorem open_axes {H : Type} {enc : TypeId × Value → H} {W : World} {base : Nat} {v : Value} {d : DataW H} {p : List MemPlace}
    (hv : Value.okWide Try.prog W .any base 23 v) (h : DataW.Trod enc Try.prog W 0 (fun _ => true) true 23 v d p) :
    ∃ (a : Option Addr) (n c : Nat) (g : Nat → Ax.Axs), v = .slice a n c ∧ n ≤ c ∧ c ≤ 9223372036854775807 ∧ Ax.AA W a n g ∧ (∀ i, i < n → (g i).t.size ≤ 9223372036854775807 ∧ Ax.R64 (g i).l ∧ Ax.R64 (g i).u ∧ Ax.R64 (g i).h) := by
  obtain ⟨a0, len, cap, rfl⟩ := okWide_slice Try.underlying23 hv
  obtain ⟨fuel, hf⟩ := h
  rcases Go.Deep.open_slice Try.underlying23 hf with ⟨hcs, hx⟩ | ⟨a, len', cap', m, n, D, Pl, hcs, _, hl, hm, hmm, hx, hcell⟩
  · simp [Value.cells] at hcs
    obtain ⟨rfl, rfl, rfl⟩ := hcs
    exact ⟨none, 0, 0, fun _ => ⟨⟨#[]⟩, 0, 0, 0⟩, rfl, Nat.le_refl _, by omega, fun i h => absurd h (by omega), fun i h => absurd h (by omega)⟩
  · simp [Value.cells] at hcs
    obtain ⟨rfl, rfl, rfl⟩ := hcs
    simp only [if_true] at hmm
    subst hmm
    have hall : ∀ i : Nat, ∃ x : Ax.Axs, i < len → (∃ b off, a = ⟨b, off, none⟩ ∧ Ax.AxAt W b (off + i * 4) x) ∧ x.t.size ≤ 9223372036854775807 ∧ Ax.R64 x.l ∧ Ax.R64 x.u ∧ Ax.R64 x.h := by
      intro i
      by_cases hi : i < len
      rotate_left
      · exact ⟨⟨⟨#[]⟩, 0, 0, 0⟩, fun h => absurd h hi⟩
      obtain ⟨cs', hc, ht⟩ := hcell i (by omega)
      rw [cellsAx] at hc
      obtain ⟨x, hcs, y1, y2, y3, y4⟩ := read_axis ht
      obtain ⟨_, hcl, hat⟩ := World.cells?_some hc
      subst hcs
      refine ⟨x, fun _ => ⟨?_, y1, y2, y3, y4⟩⟩
      have q0 := hat 0 (by omega)
      have q1 := hat 1 (by omega)
      have q2 := hat 2 (by omega)
      have q3 := hat 3 (by omega)
      have hspot : a.spot = none := by
        obtain ⟨cs0, hc0, _⟩ := hcell 0 (by omega)
        rw [cellsAx] at hc0
        obtain ⟨_, hcl0, hat0⟩ := World.cells?_some hc0
        have := hat0 0 (by omega)
        rw [List.getElem?_eq_getElem (by omega)] at this
        simpa [Addr.add] using World.cell?_spot this
      obtain ⟨b, off, spot⟩ := a
      simp only at hspot
      subst hspot
      refine ⟨b, off, rfl, ?_⟩
      rw [add_plain, add_plain] at q0 q1 q2 q3
      exact ⟨q0, q1, q2, q3⟩
    unfold maxLen at hm
    refine ⟨some a, len, m, fun i => Classical.choose (hall i), rfl, hl, by omega, fun i hi => ?_, fun i hi => ?_⟩
    · obtain ⟨b, off, e, h1⟩ := (Classical.choose_spec (hall i) hi).1
      exact ⟨b, off, by rw [e], h1⟩
    · exact (Classical.choose_spec (hall i) hi).2
set_option maxRecDepth 100000 in
theorem open_tents {H : Type} {enc : TypeId × Value → H} {W : World} {base : Nat} {v : Value} {d : DataW H} {p : List MemPlace}
    (hv : Value.okWide Try.prog W .any base 40 v) (h : DataW.Trod enc Try.prog W 0 (fun _ => true) true 40 v d p) :
    ∃ (a : Option Addr) (n c : Nat) (g : Nat → Ax.Tns), v = .slice a n c ∧ n ≤ c ∧ c ≤ 9223372036854775807 ∧ Ax.TA W a n g  := by
  obtain ⟨a0, len, cap, rfl⟩ := okWide_slice Try.underlying40 hv
  obtain ⟨fuel, hf⟩ := h
  rcases Go.Deep.open_slice Try.underlying40 hf with ⟨hcs, hx⟩ | ⟨a, len', cap', m, n, D, Pl, hcs, _, hl, hm, hmm, hx, hcell⟩
  · simp [Value.cells] at hcs
    obtain ⟨rfl, rfl, rfl⟩ := hcs
    exact ⟨none, 0, 0, fun _ => ⟨0, 0, 0⟩, rfl, Nat.le_refl _, by omega, fun i h => absurd h (by omega)⟩
  · simp [Value.cells] at hcs
    obtain ⟨rfl, rfl, rfl⟩ := hcs
    simp only [if_true] at hmm
    subst hmm
    have hall : ∀ i : Nat, ∃ x : Ax.Tns, i < len → (∃ b off, a = ⟨b, off, none⟩ ∧ Ax.TnAt W b (off + i * 3) x) := by
      intro i
      by_cases hi : i < len
      rotate_left
      · exact ⟨⟨0, 0, 0⟩, fun h => absurd h hi⟩
      obtain ⟨cs', hc, ht⟩ := hcell i (by omega)
      rw [cellsTn] at hc
      obtain ⟨x, hcs⟩ := read_tent ht
      obtain ⟨_, hcl, hat⟩ := World.cells?_some hc
      subst hcs
      refine ⟨x, fun _ => ?_⟩
      have q0 := hat 0 (by omega)
      have q1 := hat 1 (by omega)
      have q2 := hat 2 (by omega)
      have hspot : a.spot = none := by
        obtain ⟨cs0, hc0, _⟩ := hcell 0 (by omega)
        rw [cellsTn] at hc0
        obtain ⟨_, hcl0, hat0⟩ := World.cells?_some hc0
        have := hat0 0 (by omega)
        rw [List.getElem?_eq_getElem (by omega)] at this
        simpa [Addr.add] using World.cell?_spot this
      obtain ⟨b, off, spot⟩ := a
      simp only at hspot
      subst hspot
      refine ⟨b, off, rfl, ?_⟩
      rw [add_plain, add_plain] at q0 q1 q2
      exact ⟨q0, q1, q2⟩
    unfold maxLen at hm
    refine ⟨some a, len, m, fun i => Classical.choose (hall i), rfl, hl, by omega, fun i hi => ?_⟩
    · obtain ⟨b, off, e, h1⟩ := Classical.choose_spec (hall i) hi
      exact ⟨b, off, by rw [e], h1⟩
end Go.Proofs.Ytmlkdfieakihlaa
