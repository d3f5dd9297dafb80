/-
  Layer 9 (machine): programs that the laws are called with, opened.
-/
import Derived.Test.YtdgagjcocohnnaaMcEc
import Derived.Test.YtdgagjcocohnnaaMcOc
namespace Go.Proofs.Ytdgagjcocohnnaa
open Go.ChangeShapes Go.WideShapes Go.ChangeAt Go.RowKit
theorem cellsOp : Try.prog.cellsOf 45 = 3 := by kernel_rfl
def OpAt (W : World) (b o : Nat) (x : Mc.Opn) : Prop := W.cell? ⟨b, o, none⟩ = some (.int .i64 x.c) ∧ W.cell? ⟨b, o + 1, none⟩ = some (.int .i64 x.n) ∧ W.cell? ⟨b, o + 2, none⟩ = some (.int .i64 x.m)
set_option maxRecDepth 100000 in
theorem read_op {H : Type} {enc : TypeId × Value → H} {W : World} {fuel : Nat} {cs : List Value} {x : DataW H × List MemPlace}
    (hf : DataW.trod enc Try.prog W 0 (fun _ => true) true fuel 45 cs = some x) :
    ∃ y : Mc.Opn, cs = [.int .i64 y.c, .int .i64 y.n, .int .i64 y.m] := by
  obtain ⟨xs, n, _, _, hl, hlen, hg⟩ := DataW.trod_struct Try.underlying45 hf
  rw [cellsOp] at hl
  match cs, hl with
  | [e0, e1, e2], _ =>
    match xs, hlen with
    | [y0, y1, y2], _ =>
      have g0 := hg 0 _ rfl
      have g1 := hg 1 _ rfl
      have g2 := hg 2 _ rfl
      simp only [List.getElem?_cons_zero, List.getElem?_cons_succ] at g0 g1 g2
      obtain ⟨l, h1, _, w1⟩ := DataW.trod_int Try.underlying3 g0
      obtain ⟨u, h2, _, w2⟩ := DataW.trod_int Try.underlying3 g1
      obtain ⟨h, h3, _, w3⟩ := DataW.trod_int Try.underlying3 g2
      cases h1; cases h2; cases h3
      exact ⟨⟨l, u, h⟩, rfl⟩
set_option maxRecDepth 100000 in
theorem read_ops {H : Type} {enc : TypeId × Value → H} {W : World} {fuel : Nat} {cs : List Value} {x : DataW H × List MemPlace}
    (hf : DataW.trod enc Try.prog W 0 (fun _ => true) true fuel 27 cs = some x) :
    ∃ (a : Option Addr) (n c : Nat) (g : Nat → Mc.Opn), cs = [.slice a n c] ∧ n ≤ c ∧ c ≤ 9223372036854775807 ∧ ∀ i, i < n → ∃ b off, a = some ⟨b, off, none⟩ ∧ OpAt W b (off + i * 3) (g i) := by
  rcases Go.Deep.open_slice Try.underlying27 hf with ⟨hcs, hx⟩ | ⟨a, len', cap', m, n, D, Pl, hcs, _, hl, hm, hmm, hx, hcell⟩
  · exact ⟨none, 0, 0, fun _ => ⟨0, 0, 0⟩, hcs, Nat.le_refl _, by omega, fun i h => absurd h (by omega)⟩
  · simp only [if_true] at hmm
    subst hmm
    unfold maxLen at hm
    have hall : ∀ i : Nat, ∃ x : Mc.Opn, i < len' → (∃ b off, a = ⟨b, off, none⟩ ∧ OpAt W b (off + i * 3) x) := by
      intro i
      by_cases hi : i < len'
      rotate_left
      · exact ⟨⟨0, 0, 0⟩, fun h => absurd h hi⟩
      obtain ⟨cs', hc, ht⟩ := hcell i (by omega)
      rw [cellsOp] at hc
      obtain ⟨x, hcs'⟩ := read_op ht
      obtain ⟨_, hcl, hat⟩ := World.cells?_some hc
      subst hcs'
      refine ⟨x, fun _ => ?_⟩
      have q0 := hat 0 (by omega)
      have q1 := hat 1 (by omega)
      have q2 := hat 2 (by omega)
      have hspot : a.spot = none := by
        obtain ⟨cs0, hc0, _⟩ := hcell 0 (by omega)
        rw [cellsOp] at hc0
        obtain ⟨_, hcl0, hat0⟩ := World.cells?_some hc0
        have := hat0 0 (by omega)
        rw [List.getElem?_eq_getElem (by omega)] at this
        simpa [Addr.add] using World.cell?_spot this
      obtain ⟨b, off, spot⟩ := a
      simp only at hspot
      subst hspot
      refine ⟨b, off, rfl, ?_⟩
      rw [add_plain, add_plain] at q0 q1 q2
      exact ⟨q0, q1, q2⟩
    refine ⟨some a, len', m, fun i => Classical.choose (hall i), hcs, hl, by omega, fun i hi => ?_⟩
    obtain ⟨b, off, e, h1⟩ := Classical.choose_spec (hall i) hi
    exact ⟨b, off, by rw [e], h1⟩
set_option maxRecDepth 100000 in
/-- A program. -/
theorem open_ops {H : Type} {enc : TypeId × Value → H} {W : World} {base : Nat} {v : Value} {d : DataW H} {p : List MemPlace}
    (hv : Value.okWide Try.prog W .any base 27 v) (h : DataW.Trod enc Try.prog W 0 (fun _ => true) true 27 v d p) :
    ∃ (a : Option Addr) (n c : Nat) (lr : List Mc.Opn), v = .slice a n c ∧ lr.length = n ∧ (n ≤ c ∧ c ≤ 9223372036854775807) ∧ Mc.PrA W.heap.size W a lr := by
  obtain ⟨a0, len, cap, rfl⟩ := okWide_slice Try.underlying27 hv
  obtain ⟨fuel, hf⟩ := h
  obtain ⟨a, n, c, g, hcs, r1, r2, r3⟩ := read_ops hf
  simp [Value.cells] at hcs
  obtain ⟨rfl, rfl, rfl⟩ := hcs
  refine ⟨a0, len, cap, (List.range len).map g, rfl, by simp, ⟨r1, r2⟩, fun i q hq => ?_⟩
  rw [List.getElem?_map] at hq
  obtain ⟨j, hj, rfl⟩ := Option.map_eq_some_iff.1 hq
  obtain ⟨hlt, hj⟩ := List.getElem?_eq_some_iff.1 hj
  rw [List.getElem_range] at hj
  subst hj
  rw [List.length_range] at hlt
  obtain ⟨b, off, e, k0, k1, k2⟩ := r3 i hlt
  exact ⟨b, off, e, block_lt_of_cell k0, k0, k1, k2⟩
end Go.Proofs.Ytdgagjcocohnnaa
