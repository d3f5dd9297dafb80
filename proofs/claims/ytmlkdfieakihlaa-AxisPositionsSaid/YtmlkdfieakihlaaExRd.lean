/-
  The document's own long division.
-/
import Derived.Test.YtmlkdfieakihlaaExRc
namespace Go.Proofs.Ytmlkdfieakihlaa.Ex
open Go.RowKit

/-- What the loop holds ahead of the round for bit k - 1. -/
structure DivOk (p y k : Nat) (qh ql r : Int) : Prop where
  rest : r = ((p / 2 ^ k % y : Nat) : Int)
  high : qh = ((qN p y k / 18446744073709551616 : Nat) : Int)
  low : ql = ((qN p y k % 18446744073709551616 : Nat) : Int)

theorem step_bit (p y i : Nat) (hy : 1 ≤ y ∧ y ≤ 9223372036854775808) (W s : Nat) (hW : W < 18446744073709551616) (hs : s < 64) (hb : W / 2 ^ s % 2 = p / 2 ^ i % 2) (r : Int) (hr : r = ((p / 2 ^ (i + 1) % y : Nat) : Int)) :
    (bits .and .u64 (W : Int) ((2 ^ s : Nat) : Int) = 0 ∧ IntKind.u64.wrap (2 * r) = 2 * r ∧ 2 * r = ((2 * (p / 2 ^ (i + 1) % y) + p / 2 ^ i % 2 : Nat) : Int)) ∨ (bits .and .u64 (W : Int) ((2 ^ s : Nat) : Int) ≠ 0 ∧ IntKind.u64.wrap (2 * r) = 2 * r ∧ IntKind.u64.wrap (2 * r + 1) = 2 * r + 1 ∧ 2 * r + 1 = ((2 * (p / 2 ^ (i + 1) % y) + p / 2 ^ i % 2 : Nat) : Int)) := by
  have l : p / 2 ^ (i + 1) % y < y := Nat.mod_lt _ hy.1
  have p0 : 0 < 2 ^ s := Nat.pow_pos (by omega)
  rw [and_bit W s hW hs, hb]
  have c : p / 2 ^ i % 2 < 2 := Nat.mod_lt _ (by omega)
  generalize p / 2 ^ (i + 1) % y = t at *
  generalize p / 2 ^ i % 2 = b at *
  generalize 2 ^ s = u at *
  simp only [IntKind.wrap_u64]
  rcases Nat.lt_or_ge b 1 with h | h
  · have : b = 0 := by omega
    subst this
    exact .inl ⟨by simp, by omega, by omega⟩
  · have : b = 1 := by omega
    subst this
    exact .inr ⟨by simp; omega, by omega, by omega, by omega⟩

theorem step_low (p y i : Nat) (hi : i < 64) (hy : 1 ≤ y) (qh ql r : Int) (h : DivOk p y (i + 1) qh ql r) :
    let t : Int := ((2 * (p / 2 ^ (i + 1) % y) + p / 2 ^ i % 2 : Nat) : Int)
    (t < y → DivOk p y i qh ql t) ∧ ((y : Int) ≤ t → DivOk p y i qh (bits .or .u64 ql ((2 ^ i : Nat) : Int)) (t - y)) := by
  intro t
  obtain ⟨a0, a1, a2⟩ := div_round p y i hy
  obtain ⟨b0, m, b1, b2, b3⟩ := low_word (p / 2 ^ (i + 1) / y) i hi
  refine ⟨fun k => ?_, fun k => ?_⟩
  · obtain ⟨e1, e2⟩ := a1 (by show _ < y; omega)
    refine ⟨by rw [e1], ?_, ?_⟩
    · rw [h.high]; unfold qN; rw [e2]
    · rw [h.low]; unfold qN; rw [e2]
  · obtain ⟨e1, e2⟩ := a2 (by show y ≤ _; omega)
    refine ⟨by rw [e1]; show _ - _ = _; omega, ?_, ?_⟩
    · rw [h.high]; unfold qN; rw [e2, b0]
    · rw [h.low]; unfold qN; rw [e2, b3, b1, or_bit m i b2]

theorem step_high (p y s : Nat) (_hs : s < 64) (hp : p < 340282366920938463463374607431768211456) (hy : 1 ≤ y) (qh ql r : Int) (h : DivOk p y (64 + s + 1) qh ql r) :
    let t : Int := ((2 * (p / 2 ^ (64 + s + 1) % y) + p / 2 ^ (64 + s) % 2 : Nat) : Int)
    (t < y → DivOk p y (64 + s) qh ql t) ∧ ((y : Int) ≤ t → DivOk p y (64 + s) (bits .or .u64 qh ((2 ^ s : Nat) : Int)) ql (t - y)) := by
  intro t
  obtain ⟨a0, a1, a2⟩ := div_round p y (64 + s) hy
  obtain ⟨b0, b1, b2, b3⟩ := high_word (p / 2 ^ (64 + s + 1) / y) s
  refine ⟨fun k => ?_, fun k => ?_⟩
  · obtain ⟨e1, e2⟩ := a1 (by show _ < y; omega)
    refine ⟨by rw [e1], ?_, ?_⟩
    · rw [h.high]; unfold qN; rw [e2]
    · rw [h.low]; unfold qN; rw [e2]
  · obtain ⟨e1, e2⟩ := a2 (by show y ≤ _; omega)
    have le := qN_le p y (64 + s)
    unfold qN at le
    rw [e2] at le
    refine ⟨by rw [e1]; show _ - _ = _; omega, ?_, ?_⟩
    · rw [h.high]; unfold qN; rw [e2, b0, b2, or_bit _ s (by omega)]
    · rw [h.low]; unfold qN; rw [e2, b1, b3]
end Go.Proofs.Ytmlkdfieakihlaa.Ex
