/-
  Layer 6 (outline): what the laws are called with, opened.
-/
import Derived.Test.YtdgagjcocohnnaaAxW
import Derived.Test.YtdgagjcocohnnaaOtMd
import Derived.Deep.Slices
namespace Go.Proofs.Ytdgagjcocohnnaa
open Go.ChangeShapes Go.WideShapes Go.ChangeAt Go.RowKit
theorem cellsPt : Try.prog.cellsOf 53 = 3 := by kernel_rfl
theorem cellsB : Try.prog.cellsOf 4 = 1 := by kernel_rfl
theorem cellsPs : Try.prog.cellsOf 32 = 1 := by kernel_rfl
theorem cellsIs : Try.prog.cellsOf 23 = 1 := by kernel_rfl
set_option maxRecDepth 100000 in
theorem read_point {H : Type} {enc : TypeId × Value → H} {W : World} {fuel : Nat} {cs : List Value} {x : DataW H × List MemPlace}
    (hf : DataW.trod enc Try.prog W 0 (fun _ => true) true fuel 53 cs = some x) :
    ∃ y : Ot.Pt, cs = [.int .i64 y.x, .int .i64 y.y, .bool y.o] := by
  obtain ⟨xs, n, _, _, hl, hlen, hg⟩ := DataW.trod_struct Try.underlying53 hf
  rw [cellsPt] at hl
  match cs, hl with
  | [e0, e1, e2], _ =>
    match xs, hlen with
    | [y0, y1, y2], _ =>
      have g0 := hg 0 _ rfl
      have g1 := hg 1 _ rfl
      have g2 := hg 2 _ rfl
      simp only [List.getElem?_cons_zero, List.getElem?_cons_succ] at g0 g1 g2
      obtain ⟨l, h1, _, w1⟩ := DataW.trod_int Try.underlying3 g0
      obtain ⟨u, h2, _, w2⟩ := DataW.trod_int Try.underlying3 g1
      obtain ⟨h, h3, _⟩ := DataW.trod_bool Try.underlying4 g2
      cases h1; cases h2; cases h3
      exact ⟨⟨l, u, h⟩, rfl⟩
set_option maxRecDepth 100000 in
theorem read_points {H : Type} {enc : TypeId × Value → H} {W : World} {fuel : Nat} {cs : List Value} {x : DataW H × List MemPlace}
    (hf : DataW.trod enc Try.prog W 0 (fun _ => true) true fuel 32 cs = some x) :
    ∃ (a : Option Addr) (n c : Nat) (g : Nat → Ot.Pt), cs = [.slice a n c] ∧ n ≤ c ∧ c ≤ 9223372036854775807 ∧ Ot.PA W a n g := by
  rcases Go.Deep.open_slice Try.underlying32 hf with ⟨hcs, hx⟩ | ⟨a, len', cap', m, n, D, Pl, hcs, _, hl, hm, hmm, hx, hcell⟩
  · exact ⟨none, 0, 0, fun _ => Ot.p0, hcs, Nat.le_refl _, by omega, fun i h => absurd h (by omega)⟩
  · simp only [if_true] at hmm
    subst hmm
    unfold maxLen at hm
    have hall : ∀ i : Nat, ∃ x : Ot.Pt, i < len' → (∃ b off, a = ⟨b, off, none⟩ ∧ Ot.PtAt W b (off + i * 3) x) := by
      intro i
      by_cases hi : i < len'
      rotate_left
      · exact ⟨Ot.p0, fun h => absurd h hi⟩
      obtain ⟨cs', hc, ht⟩ := hcell i (by omega)
      rw [cellsPt] at hc
      obtain ⟨x, hcs'⟩ := read_point ht
      obtain ⟨_, hcl, hat⟩ := World.cells?_some hc
      subst hcs'
      refine ⟨x, fun _ => ?_⟩
      have q0 := hat 0 (by omega)
      have q1 := hat 1 (by omega)
      have q2 := hat 2 (by omega)
      have hspot : a.spot = none := by
        obtain ⟨cs0, hc0, _⟩ := hcell 0 (by omega)
        rw [cellsPt] at hc0
        obtain ⟨_, hcl0, hat0⟩ := World.cells?_some hc0
        have := hat0 0 (by omega)
        rw [List.getElem?_eq_getElem (by omega)] at this
        simpa [Addr.add] using World.cell?_spot this
      obtain ⟨b, off, spot⟩ := a
      simp only at hspot
      subst hspot
      refine ⟨b, off, rfl, ?_⟩
      rw [add_plain, add_plain] at q0 q1 q2
      exact ⟨q0, q1, q2⟩
    refine ⟨some a, len', m, fun i => Classical.choose (hall i), hcs, hl, by omega, fun i hi => ?_⟩
    obtain ⟨b, off, e, h1⟩ := Classical.choose_spec (hall i) hi
    exact ⟨b, off, by rw [e], h1⟩
set_option maxRecDepth 100000 in
/-- An outline that was handed in, at some fuel. -/
theorem read_outline {H : Type} {enc : TypeId × Value → H} {W : World} {fuel : Nat} {cs : List Value} {x : DataW H × List MemPlace}
    (hf : DataW.trod enc Try.prog W 0 (fun _ => true) true fuel 28 cs = some x) :
    ∃ (a : Option Addr) (N c : Nat) (ns : Nat → Nat) (g : Nat → Nat → Ot.Pt), cs = [.slice a N c] ∧ N ≤ c ∧ c ≤ 9223372036854775807 ∧ Ot.OT W a N ns g := by
  rcases Go.Deep.open_slice Try.underlying28 hf with ⟨hcs, hx⟩ | ⟨a, len', cap', m, n, D, Pl, hcs, _, hl, hm, hmm, hx, hcell⟩
  · exact ⟨none, 0, 0, fun _ => 0, fun _ _ => Ot.p0, hcs, Nat.le_refl _, by omega, fun i h => absurd h (by omega)⟩
  · simp only [if_true] at hmm
    subst hmm
    unfold maxLen at hm
    have hall : ∀ i : Nat, ∃ y : Nat × (Nat → Ot.Pt), i < len' → (∃ b off a' c', a = ⟨b, off, none⟩ ∧ W.cell? ⟨b, off + i, none⟩ = some (.slice a' y.1 c') ∧ y.1 ≤ c' ∧ c' ≤ 9223372036854775807 ∧ Ot.PA W a' y.1 y.2) := by
      intro i
      by_cases hi : i < len'
      rotate_left
      · exact ⟨(0, fun _ => Ot.p0), fun h => absurd h hi⟩
      obtain ⟨cs', hc, ht⟩ := hcell i (by omega)
      rw [cellsPs] at hc
      obtain ⟨a', n', c', g', hcs', r1, r2, r3⟩ := read_points ht
      obtain ⟨_, hcl, hat⟩ := World.cells?_some hc
      subst hcs'
      refine ⟨(n', g'), fun _ => ?_⟩
      have q0 := hat 0 (by omega)
      have hspot : a.spot = none := by
        obtain ⟨cs0, hc0, _⟩ := hcell 0 (by omega)
        rw [cellsPs] at hc0
        obtain ⟨_, hcl0, hat0⟩ := World.cells?_some hc0
        have := hat0 0 (by omega)
        rw [List.getElem?_eq_getElem (by omega)] at this
        simpa [Addr.add] using World.cell?_spot this
      obtain ⟨b, off, spot⟩ := a
      simp only at hspot
      subst hspot
      rw [add_plain, add_plain, Nat.mul_one] at q0
      exact ⟨b, off, a', c', rfl, q0, r1, r2, r3⟩
    refine ⟨some a, len', m, fun i => (Classical.choose (hall i)).1, fun i => (Classical.choose (hall i)).2, hcs, hl, by omega, fun i hi => ?_⟩
    obtain ⟨b, off, a', c', e, h1, h2, h3, h4⟩ := Classical.choose_spec (hall i) hi
    exact ⟨b, off, a', c', by rw [e], h1, h2, h3, h4⟩
set_option maxRecDepth 100000 in
theorem read_lists {H : Type} {enc : TypeId × Value → H} {W : World} {fuel : Nat} {cs : List Value} {x : DataW H × List MemPlace}
    (hf : DataW.trod enc Try.prog W 0 (fun _ => true) true fuel 22 cs = some x) :
    ∃ (a : Option Addr) (N c : Nat) (L : Nat → Nat) (l : Nat → Nat → Int), cs = [.slice a N c] ∧ N ≤ c ∧ c ≤ 9223372036854775807 ∧ Ot.LX W a N L l := by
  rcases Go.Deep.open_slice Try.underlying22 hf with ⟨hcs, hx⟩ | ⟨a, len', cap', m, n, D, Pl, hcs, _, hl, hm, hmm, hx, hcell⟩
  · exact ⟨none, 0, 0, fun _ => 0, fun _ _ => 0, hcs, Nat.le_refl _, by omega, fun i h => absurd h (by omega)⟩
  · simp only [if_true] at hmm
    subst hmm
    unfold maxLen at hm
    have hall : ∀ i : Nat, ∃ y : Nat × (Nat → Int), i < len' → (∃ b off a' c', a = ⟨b, off, none⟩ ∧ W.cell? ⟨b, off + i, none⟩ = some (.slice a' y.1 c') ∧ y.1 ≤ c' ∧ c' ≤ 9223372036854775807 ∧ Ax.LA W a' y.1 y.2 ∧ ∀ j, j < y.1 → Ot.R64 (y.2 j)) := by
      intro i
      by_cases hi : i < len'
      rotate_left
      · exact ⟨(0, fun _ => 0), fun h => absurd h hi⟩
      obtain ⟨cs', hc, ht⟩ := hcell i (by omega)
      rw [cellsIs] at hc
      obtain ⟨a', n', c', l', hcs', r1, r2, r3, r4⟩ := read_ints ht
      obtain ⟨_, hcl, hat⟩ := World.cells?_some hc
      subst hcs'
      unfold maxLen at r2
      refine ⟨(n', l'), fun _ => ?_⟩
      have q0 := hat 0 (by omega)
      have hspot : a.spot = none := by
        obtain ⟨cs0, hc0, _⟩ := hcell 0 (by omega)
        rw [cellsIs] at hc0
        obtain ⟨_, hcl0, hat0⟩ := World.cells?_some hc0
        have := hat0 0 (by omega)
        rw [List.getElem?_eq_getElem (by omega)] at this
        simpa [Addr.add] using World.cell?_spot this
      obtain ⟨b, off, spot⟩ := a
      simp only at hspot
      subst hspot
      rw [add_plain, add_plain, Nat.mul_one] at q0
      exact ⟨b, off, a', c', rfl, q0, r1, by omega, r3, r4⟩
    refine ⟨some a, len', m, fun i => (Classical.choose (hall i)).1, fun i => (Classical.choose (hall i)).2, hcs, hl, by omega, fun i hi => ?_⟩
    obtain ⟨b, off, a', c', e, h1, h2, h3, h4, h5⟩ := Classical.choose_spec (hall i) hi
    exact ⟨b, off, a', c', by rw [e], h1, h2, h3, h4, h5⟩
set_option maxRecDepth 100000 in
theorem open_outline {H : Type} {enc : TypeId × Value → H} {W : World} {base : Nat} {v : Value} {d : DataW H} {p : List MemPlace}
    (hv : Value.okWide Try.prog W .any base 28 v) (h : DataW.Trod enc Try.prog W 0 (fun _ => true) true 28 v d p) :
    ∃ (a : Option Addr) (N c : Nat) (ns : Nat → Nat) (g : Nat → Nat → Ot.Pt), v = .slice a N c ∧ N ≤ c ∧ c ≤ 9223372036854775807 ∧ Ot.OT W a N ns g := by
  obtain ⟨a0, len, cap, rfl⟩ := okWide_slice Try.underlying28 hv
  obtain ⟨fuel, hf⟩ := h
  obtain ⟨a, N, c, ns, g, hcs, r⟩ := read_outline hf
  simp [Value.cells] at hcs
  obtain ⟨rfl, rfl, rfl⟩ := hcs
  exact ⟨a0, len, cap, ns, g, rfl, r⟩
set_option maxRecDepth 100000 in
theorem open_lists {H : Type} {enc : TypeId × Value → H} {W : World} {base : Nat} {v : Value} {d : DataW H} {p : List MemPlace}
    (hv : Value.okWide Try.prog W .any base 22 v) (h : DataW.Trod enc Try.prog W 0 (fun _ => true) true 22 v d p) :
    ∃ (a : Option Addr) (N c : Nat) (L : Nat → Nat) (l : Nat → Nat → Int), v = .slice a N c ∧ N ≤ c ∧ c ≤ 9223372036854775807 ∧ Ot.LX W a N L l := by
  obtain ⟨a0, len, cap, rfl⟩ := okWide_slice Try.underlying22 hv
  obtain ⟨fuel, hf⟩ := h
  obtain ⟨a, N, c, L, l, hcs, r⟩ := read_lists hf
  simp [Value.cells] at hcs
  obtain ⟨rfl, rfl, rfl⟩ := hcs
  exact ⟨a0, len, cap, L, l, rfl, r⟩
end Go.Proofs.Ytdgagjcocohnnaa
