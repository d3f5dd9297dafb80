/-
  The document's own small functions of layer 1: size, plus, minus, less, whole.
-/
import Derived.Test.YtmlkdfieakihlaaExC
namespace Go.Proofs.Ytmlkdfieakihlaa.Ex
open Go.RowKit

def ab (n : Int) : Int := if n < 0 then -n else n
theorem size_ref (n : Int) (hn : -9223372036854775808 ≤ n ∧ n ≤ 9223372036854775807) (w : World) :
    Calls Try.prog 59 #[.int .i64 n] w fun e w' => e = .returned (.int .u64 (ab n)) ∧ w = w' := by
  have h1 : n < 0 → IntKind.u64.wrap (-(IntKind.u64.wrap n)) = ab n := fun h => by unfold ab; rw [IntKind.wrap_u64, IntKind.wrap_u64]; rw [if_pos h]; omega
  have h2 : ¬ n < 0 → IntKind.u64.wrap n = ab n := fun h => by unfold ab; rw [IntKind.wrap_u64]; rw [if_neg h]; omega
  go_enter Try.func59, Try.ntmps59
  rcases Int.lt_or_le n 0 with h | h
  · go_wp2; go_ret; exact ⟨rfl, rfl⟩
  · go_wp2; go_ret; exact ⟨rfl, rfl⟩

def WhB (neg : Bool) (x : Int) : Bool := if neg then decide (x ≤ 9223372036854775808) else decide (x ≤ 9223372036854775807)
def WhI (neg : Bool) (x : Int) : Int := if WhB neg x then (if neg then -x else x) else 0
theorem whole_ref (neg : Bool) (x : Int) (hx : 0 ≤ x ∧ x < 340282366920938463463374607431768211456) (w : World) :
    Calls Try.prog 60 #[.bool neg, wideV x] w fun e w' => e = .returned (.tuple #[.int .i64 (WhI neg x), .bool (WhB neg x)]) ∧ Below w.heap.size w w' := by
  have H := Lib.hid hx
  clear hx
  obtain ⟨hx0, hx1⟩ := hiW_bd x
  obtain ⟨lx0, lx1⟩ := loW_bd x
  unfold wideV
  generalize hx : hiW x = a at *
  generalize lx : loW x = f at *
  have K := Lib.hid (And.intro hx lx)
  clear hx lx
  have Z : a = 0 → f = x := fun h => by obtain ⟨k1, k2⟩ := K.out; have := H.out; rw [← k1] at h; rw [← k2]; unfold hiW at h; unfold loW; omega
  have B : 0 < a → 18446744073709551616 ≤ x := fun h => by obtain ⟨k1, k2⟩ := K.out; have := H.out; rw [← k1] at h; unfold hiW at h; omega
  rcases Int.lt_or_eq_of_le hx0 with h0 | h0
  · have nB : WhB neg x = false := by unfold WhB; have := B h0; split <;> exact decide_eq_false (by omega)
    have nI : WhI neg x = 0 := by unfold WhI; rw [nB]; rfl
    rw [nB, nI]
    have hne : (a == 0) = false := beq_eq_false_iff_ne.2 (by omega)
    clear Z B K H nB nI
    cases neg <;>
    (go_enter Try.func60, Try.ntmps60
     go_wp2
     go_ret2
     exact ⟨rfl, by go_grown⟩)
  · subst h0
    have e := Z rfl
    subst e
    clear Z B K H
    cases neg
    · rcases Int.lt_or_le 9223372036854775807 f with h1 | h1
      · have nB : WhB false f = false := by unfold WhB; exact decide_eq_false (by omega)
        have nI : WhI false f = 0 := by unfold WhI; rw [nB]; rfl
        rw [nB, nI]
        go_enter Try.func60, Try.ntmps60
        go_wp2
        go_ret2
        exact ⟨rfl, by go_grown⟩
      · have nB : WhB false f = true := by unfold WhB; exact decide_eq_true (by omega)
        have nI : WhI false f = f := by unfold WhI; rw [nB]; rfl
        rw [nB, nI]
        have hw : IntKind.i64.wrap f = f := by rw [IntKind.wrap_i64]; omega
        go_enter Try.func60, Try.ntmps60
        go_wp2
        go_ret2
        exact ⟨rfl, by go_grown⟩
    · rcases Int.lt_or_le 9223372036854775808 f with h1 | h1
      · have nB : WhB true f = false := by unfold WhB; exact decide_eq_false (by omega)
        have nI : WhI true f = 0 := by unfold WhI; rw [nB]; rfl
        rw [nB, nI]
        go_enter Try.func60, Try.ntmps60
        go_wp2
        go_ret2
        exact ⟨rfl, by go_grown⟩
      · have nB : WhB true f = true := by unfold WhB; exact decide_eq_true (by omega)
        have nI : WhI true f = -f := by unfold WhI; rw [nB]; rfl
        rw [nB, nI]
        have hw : IntKind.i64.wrap (IntKind.u64.wrap (-f)) = -f := by rw [IntKind.wrap_i64, IntKind.wrap_u64]; omega
        go_enter Try.func60, Try.ntmps60
        go_wp2
        go_ret2
        exact ⟨rfl, by go_grown⟩
end Go.Proofs.Ytmlkdfieakihlaa.Ex
