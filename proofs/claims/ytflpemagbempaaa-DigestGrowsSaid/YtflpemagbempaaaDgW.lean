/-
  Layer 3 (digest): what the laws are called with, opened.
-/
import Derived.Test.YtflpemagbempaaaDgU
import Derived.Test.YtflpemagbempaaaRows
import Derived.ProofKit
import Derived.Carry
import Derived.ChangeMaps5
import Derived.Deep.Strs
namespace Go.Proofs.Ytflpemagbempaaa
open Go.ChangeShapes Go.WideShapes Go.ChangeAt Go.RowKit

theorem own : ownKnob Try.prog.godebug = none := by kernel_rfl
theorem laidOut : laidOutB Try.prog = true := by kernel_rfl
theorem cellsI : Try.prog.cellsOf 3 = 1 := by kernel_rfl
theorem cellsS : Try.prog.cellsOf 9 = 1 := by kernel_rfl
theorem cellsU8 : Try.prog.cellsOf 5 = 1 := by kernel_rfl
theorem cellsLS : Try.prog.cellsOf 28 = 1 := by kernel_rfl
theorem cellsOther : Try.prog.cellsOf 27 = 3 := by kernel_rfl
theorem cellsProof : Try.prog.cellsOf 43 = 2 := by kernel_rfl
theorem cellsTwo : Try.prog.cellsOf 41 = 2 := by kernel_rfl
theorem open_texts {H : Type} {enc : TypeId × Value → H} {W : World} {base : Nat} {v : Value} {d : DataW H} {p : List MemPlace}
    (hv : Value.okWide Try.prog W .any base 28 v) (h : DataW.Trod enc Try.prog W 0 (fun _ => true) true 28 v d p) :
    ∃ (a : Option Addr) (n c : Nat) (l : List ByteArray), v = .slice a n c ∧ l.length = n ∧ n ≤ c ∧ c ≤ maxLen ∧ Dg.StrsAt W a l ∧ ∀ x ∈ l, x.size ≤ maxLen := by
  obtain ⟨a0, len, cap, rfl⟩ := okWide_slice Try.underlying28 hv
  obtain ⟨fuel, hf⟩ := h
  rcases Go.Deep.open_strs Try.underlying28 Try.underlying9 cellsS hf with ⟨hcs, hx⟩ | ⟨a, len', cap', m, Sx, hcs, _, hl, hm, hmm, hx, hcell⟩
  · simp [Value.cells] at hcs
    obtain ⟨rfl, rfl, rfl⟩ := hcs
    exact ⟨none, 0, 0, [], rfl, rfl, Nat.le_refl _, Nat.zero_le _, fun i x h => by simp at h, fun x h => by simp at h⟩
  · simp [Value.cells] at hcs
    obtain ⟨rfl, rfl, rfl⟩ := hcs
    simp only [if_true] at hmm
    subst hmm
    refine ⟨some a, len, m, (List.range len).map Sx, rfl, by simp, hl, hm, fun i x h => ?_, fun x h => ?_⟩
    · rw [List.getElem?_map] at h
      cases hq : (List.range len)[i]? with
      | none => rw [hq] at h; cases h
      | some j =>
        rw [hq] at h
        have hi : i < len := by
          rcases Nat.lt_or_ge i len with q | q
          · exact q
          · rw [List.getElem?_eq_none (by simpa using q)] at hq; cases hq
        have hj : j = i := by rw [List.getElem?_range hi] at hq; injection hq with hq; exact hq.symm
        subst hj
        simp at h
        obtain ⟨b, off, spot⟩ := a
        have hspot : spot = none := by simpa [Addr.add] using World.cell?_spot (hcell 0 (by omega)).1
        subst hspot
        refine ⟨b, off, rfl, ?_⟩
        have := (hcell j (by omega)).1
        rw [add_plain] at this
        rw [this, h]
    · simp at h
      obtain ⟨i, hi, rfl⟩ := h
      exact (hcell i (by omega)).2

theorem read_texts {H : Type} {enc : TypeId × Value → H} {W : World} {fuel : Nat} {cs : List Value} {x : DataW H × List MemPlace}
    (hf : DataW.trod enc Try.prog W 0 (fun _ => true) true fuel 28 cs = some x) :
    ∃ (a : Option Addr) (n c : Nat) (l : List ByteArray), cs = [.slice a n c] ∧ l.length = n ∧ n ≤ c ∧ c ≤ maxLen ∧ Dg.StrsAt W a l ∧ ∀ x ∈ l, x.size ≤ maxLen := by
  rcases Go.Deep.open_strs Try.underlying28 Try.underlying9 cellsS hf with ⟨hcs, hx⟩ | ⟨a, len', cap', m, Sx, hcs, _, hl, hm, hmm, hx, hcell⟩
  · exact ⟨none, 0, 0, [], hcs, rfl, Nat.le_refl _, Nat.zero_le _, fun i x h => by simp at h, fun x h => by simp at h⟩
  · simp only [if_true] at hmm
    subst hmm
    refine ⟨some a, len', m, (List.range len').map Sx, hcs, by simp, hl, hm, fun i x h => ?_, fun x h => ?_⟩
    · rw [List.getElem?_map] at h
      cases hq : (List.range len')[i]? with
      | none => rw [hq] at h; cases h
      | some j =>
        rw [hq] at h
        have hi : i < len' := by
          rcases Nat.lt_or_ge i len' with q | q
          · exact q
          · rw [List.getElem?_eq_none (by simpa using q)] at hq; cases hq
        have hj : j = i := by rw [List.getElem?_range hi] at hq; injection hq with hq; exact hq.symm
        subst hj
        simp at h
        obtain ⟨b, off, spot⟩ := a
        have hspot : spot = none := by simpa [Addr.add] using World.cell?_spot (hcell 0 (by omega)).1
        subst hspot
        refine ⟨b, off, rfl, ?_⟩
        have := (hcell j (by omega)).1
        rw [add_plain] at this
        rw [this, h]
    · simp at h
      obtain ⟨i, hi, rfl⟩ := h
      exact (hcell i (by omega)).2

theorem u8_wf {x : Int} (h : (Lit.int .u8 x).wf = true) : 0 ≤ x ∧ x < 256 := by
  have : IntKind.u8.min ≤ x ∧ x ≤ IntKind.u8.max := by simpa [Lit.wf] using h
  simp [IntKind.min, IntKind.max, IntKind.signed, IntKind.bits] at this
  omega
theorem i64_wf {n : Int} (h : (Lit.int .i64 n).wf = true) : -9223372036854775808 ≤ n ∧ n ≤ 9223372036854775807 := by
  simpa [Lit.wf, IntKind.min, IntKind.max, IntKind.signed, IntKind.bits] using h
theorem u16_wf {x : Int} (h : (Lit.int .u16 x).wf = true) : 0 ≤ x ∧ x < 65536 := by
  have : IntKind.u16.min ≤ x ∧ x ≤ IntKind.u16.max := by simpa [Lit.wf] using h
  simp [IntKind.min, IntKind.max, IntKind.signed, IntKind.bits] at this
  omega
/-- A string with a place and a byte. -/
theorem open_other {H : Type} {enc : TypeId × Value → H} {W : World} {base : Nat} {v : Value} {d : DataW H} {p : List MemPlace}
    (hv : Value.okWide Try.prog W .any base 27 v) (h : DataW.Trod enc Try.prog W 0 (fun _ => true) true 27 v d p) :
    ∃ (s : ByteArray) (a x : Nat), v = .agg #[.string s, .int .u8 a, .int .u8 x] ∧ s.size ≤ maxLen ∧ a < 256 ∧ x < 256 := by
  obtain ⟨cs, rfl, _⟩ := okWide_struct Try.underlying27 hv
  obtain ⟨fuel, hf⟩ := h
  obtain ⟨xs, n, _, _, hl, hlen, hg⟩ := DataW.trod_struct Try.underlying27 hf
  rw [cellsOther] at hl
  obtain ⟨cl⟩ := cs
  simp only [Value.cells] at hl hg
  match cl, hl with
  | [e0, e1, e2], _ =>
    match xs, hlen with
    | [y0, y1, y2], _ =>
      have g0 := hg 0 _ rfl
      have g1 := hg 1 _ rfl
      have g2 := hg 2 _ rfl
      simp only [List.getElem?_cons_zero, List.getElem?_cons_succ] at g0 g1 g2
      obtain ⟨s, h0, _, w0⟩ := DataW.trod_string Try.underlying9 g0
      obtain ⟨a, h1, _, w1⟩ := DataW.trod_int Try.underlying5 g1
      obtain ⟨x, h2, _, w2⟩ := DataW.trod_int Try.underlying5 g2
      cases h0; cases h1; cases h2
      have u1 := u8_wf w1
      have u2 := u8_wf w2
      exact ⟨s, a.toNat, x.toNat, by rw [show ((a.toNat : Nat) : Int) = a by omega, show ((x.toNat : Nat) : Int) = x by omega], w0, by omega, by omega⟩
/-- A proof with an index. -/
theorem open_proof {H : Type} {enc : TypeId × Value → H} {W : World} {base : Nat} {v : Value} {d : DataW H} {p : List MemPlace}
    (hv : Value.okWide Try.prog W .any base 43 v) (h : DataW.Trod enc Try.prog W 0 (fun _ => true) true 43 v d p) :
    ∃ (a : Option Addr) (n c : Nat) (l : List ByteArray) (i : Int), v = .agg #[.slice a n c, .int .i64 i] ∧ l.length = n ∧ n ≤ c ∧ c ≤ maxLen ∧ Dg.StrsAt W a l ∧ (∀ x ∈ l, x.size ≤ maxLen) ∧ -9223372036854775808 ≤ i ∧ i ≤ 9223372036854775807 := by
  obtain ⟨cs, rfl, _⟩ := okWide_struct Try.underlying43 hv
  obtain ⟨fuel, hf⟩ := h
  obtain ⟨xs, n, _, _, hl, hlen, hg⟩ := DataW.trod_struct Try.underlying43 hf
  rw [cellsProof] at hl
  obtain ⟨cl⟩ := cs
  simp only [Value.cells] at hl hg
  match cl, hl with
  | [e0, e1], _ =>
    match xs, hlen with
    | [y0, y1], _ =>
      have g0 := hg 0 _ rfl
      have g1 := hg 1 _ rfl
      simp only [List.getElem?_cons_zero, List.getElem?_cons_succ] at g0 g1
      obtain ⟨a, n', c, l, h0, r1, r2, r3, r4, r5⟩ := read_texts g0
      obtain ⟨i, h1, _, w1⟩ := DataW.trod_int Try.underlying3 g1
      cases h0; cases h1
      exact ⟨a, n', c, l, i, rfl, r1, r2, r3, r4, r5, (i64_wf w1).1, (i64_wf w1).2⟩
theorem list2 {α : Type} : ∀ (l : List α), l.toArray.size = 2 → ∃ a b, l = [a, b]
  | [a, b], _ => ⟨a, b, rfl⟩
/-- Two small numbers. -/
theorem open_two8 {H : Type} {enc : TypeId × Value → H} {W : World} {base : Nat} {v : Value} {d : DataW H} {p : List MemPlace} (hv : Value.okWide Try.prog W .any base 41 v) (h : DataW.Trod enc Try.prog W 0 (fun _ => true) true 41 v d p) :
    ∃ a b : Nat, v = .agg #[.int .u8 a, .int .u8 b] ∧ a < 256 ∧ b < 256 := by
  obtain ⟨cs, rfl, hsz, _⟩ : ∃ cs, v = .agg cs ∧ cs.size = Try.prog.cellsOf 41 ∧ Row.okWide Try.prog W .any base 41 cs := by
    simpa [Value.okWide, Try.underlying41] using hv
  rw [cellsTwo] at hsz
  obtain ⟨l⟩ := cs
  obtain ⟨c0, c1, rfl⟩ := list2 l hsz
  obtain ⟨fuel, hf⟩ := h
  obtain ⟨xs, m, _, hx, _, hl, hel⟩ := DataW.trod_array Try.underlying41 hf
  match xs, hl with
  | [y0, y1], _ =>
    have hy0 := hel 0 (by omega)
    have hy1 := hel 1 (by omega)
    simp [cellsU8, Value.cells] at hy0 hy1
    obtain ⟨a, h0, _, w0⟩ := DataW.trod_int Try.underlying5 hy0
    obtain ⟨b, h1, _, w1⟩ := DataW.trod_int Try.underlying5 hy1
    simp at h0 h1
    subst h0 h1
    have u1 := u8_wf w0
    have u2 := u8_wf w1
    exact ⟨a.toNat, b.toNat, by rw [show ((a.toNat : Nat) : Int) = a by omega, show ((b.toNat : Nat) : Int) = b by omega], by omega, by omega⟩
end Go.Proofs.Ytflpemagbempaaa
