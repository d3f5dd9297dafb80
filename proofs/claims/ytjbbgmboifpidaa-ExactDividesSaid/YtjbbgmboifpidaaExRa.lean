/-
  The document's own small functions of layer 1: size, plus, minus, less, whole.
-/
import Derived.Test.YtjbbgmboifpidaaExC
namespace Go.Proofs.Ytjbbgmboifpidaa.Ex
open Go.RowKit

def ab (n : Int) : Int := if n < 0 then -n else n
theorem size_ref (n : Int) (hn : -9223372036854775808 ≤ n ∧ n ≤ 9223372036854775807) (w : World) :
    Calls Try.prog 34 #[.int .i64 n] w fun e w' => e = .returned (.int .u64 (ab n)) ∧ w = w' := by
  have h1 : n < 0 → IntKind.u64.wrap (-(IntKind.u64.wrap n)) = ab n := fun h => by unfold ab; rw [IntKind.wrap_u64, IntKind.wrap_u64]; rw [if_pos h]; omega
  have h2 : ¬ n < 0 → IntKind.u64.wrap n = ab n := fun h => by unfold ab; rw [IntKind.wrap_u64]; rw [if_neg h]; omega
  go_enter Try.func34, Try.ntmps34
  rcases Int.lt_or_le n 0 with h | h
  · go_wp2; go_ret; exact ⟨rfl, rfl⟩
  · go_wp2; go_ret; exact ⟨rfl, rfl⟩

theorem plus_ref (x y : Int) (w : World) :
    Calls Try.prog 39 #[wideV x, wideV y] w fun e w' => e = .returned (wideV (x + y)) ∧ Below w.heap.size w w' := by
  obtain ⟨hx0, hx1⟩ := hiW_bd x
  obtain ⟨hy0, hy1⟩ := hiW_bd y
  obtain ⟨lx0, lx1⟩ := loW_bd x
  obtain ⟨ly0, ly1⟩ := loW_bd y
  unfold wideV
  generalize hx : hiW x = a at *
  generalize hy : hiW y = b at *
  generalize lx : loW x = f at *
  generalize ly : loW y = g at *
  have K := Lib.hid (And.intro hx (And.intro hy (And.intro lx ly)))
  clear hx hy lx ly
  rcases Int.lt_or_le (IntKind.u64.wrap (f + g)) f with hc | hc
  all_goals
    go_enter Try.func39, Try.ntmps39
    go_wp2
    go_returns
    refine ⟨wide_mk ?_ ?_, by go_grown⟩
    · obtain ⟨k1, k2, k3, k4⟩ := K.out
      try simp only [IntKind.wrap_u64] at hc
      try simp only [IntKind.wrap_u64]
      unfold hiW at k1 k2
      unfold loW at k3 k4
      unfold hiW; omega
    · obtain ⟨k1, k2, k3, k4⟩ := K.out
      try simp only [IntKind.wrap_u64]
      unfold loW at k3 k4
      unfold loW; omega

theorem minus_ref (x y : Int) (w : World) :
    Calls Try.prog 50 #[wideV x, wideV y] w fun e w' => e = .returned (wideV (x - y)) ∧ Below w.heap.size w w' := by
  obtain ⟨hx0, hx1⟩ := hiW_bd x
  obtain ⟨hy0, hy1⟩ := hiW_bd y
  obtain ⟨lx0, lx1⟩ := loW_bd x
  obtain ⟨ly0, ly1⟩ := loW_bd y
  unfold wideV
  generalize hx : hiW x = a at *
  generalize hy : hiW y = b at *
  generalize lx : loW x = f at *
  generalize ly : loW y = g at *
  have K := Lib.hid (And.intro hx (And.intro hy (And.intro lx ly)))
  clear hx hy lx ly
  rcases Int.lt_or_le (f) g with hc | hc
  all_goals
    go_enter Try.func50, Try.ntmps50
    go_wp2
    go_returns
    refine ⟨wide_mk ?_ ?_, by go_grown⟩
    · obtain ⟨k1, k2, k3, k4⟩ := K.out
      try simp only [IntKind.wrap_u64] at hc
      try simp only [IntKind.wrap_u64]
      unfold hiW at k1 k2
      unfold loW at k3 k4
      unfold hiW; omega
    · obtain ⟨k1, k2, k3, k4⟩ := K.out
      try simp only [IntKind.wrap_u64]
      unfold loW at k3 k4
      unfold loW; omega

theorem less_ref (x y : Int) (hx : 0 ≤ x ∧ x < 340282366920938463463374607431768211456) (hy : 0 ≤ y ∧ y < 340282366920938463463374607431768211456) (w : World) :
    Calls Try.prog 49 #[wideV x, wideV y] w fun e w' => e = .returned (.bool (decide (x < y))) ∧ Below w.heap.size w w' := by
  have H := Lib.hid (And.intro hx hy)
  clear hx hy
  obtain ⟨hx0, hx1⟩ := hiW_bd x
  obtain ⟨hy0, hy1⟩ := hiW_bd y
  obtain ⟨lx0, lx1⟩ := loW_bd x
  obtain ⟨ly0, ly1⟩ := loW_bd y
  unfold wideV
  generalize hx : hiW x = a at *
  generalize hy : hiW y = b at *
  generalize lx : loW x = f at *
  generalize ly : loW y = g at *
  have K := Lib.hid (And.intro hx (And.intro hy (And.intro lx ly)))
  clear hx hy lx ly
  have LT : a < b → x < y := fun h => by obtain ⟨k1, k2, k3, k4⟩ := K.out; have := H.out; rw [← k1, ← k2] at h; unfold hiW at h; omega
  have GT : b < a → ¬ x < y := fun h => by obtain ⟨k1, k2, k3, k4⟩ := K.out; have := H.out; rw [← k1, ← k2] at h; unfold hiW at h; omega
  have EQ : a = b → decide (f < g) = decide (x < y) := fun h => by obtain ⟨k1, k2, k3, k4⟩ := K.out; have := H.out; rw [← k1, ← k2] at h; rw [← k3, ← k4]; unfold hiW at h; unfold loW; apply decide_eq_decide.2; omega
  have LT := Lib.hid LT
  have GT := Lib.hid GT
  have EQ := Lib.hid EQ
  rcases Int.lt_trichotomy a b with h | h | h
  all_goals
    go_enter Try.func49, Try.ntmps49
    go_wp2
    go_ret
    try refine ⟨?_, by go_grown⟩
  · first | rfl | (rw [decide_eq_true (LT.out h)]; rfl)
  · rw [← EQ.out h]; rfl
  · first | rfl | (rw [decide_eq_false (by have := GT.out h; omega : ¬ x < y)]; have e : decide (a < b) = false := decide_eq_false (by omega); rw [e]; rfl)

def WhB (neg : Bool) (x : Int) : Bool := if neg then decide (x ≤ 9223372036854775808) else decide (x ≤ 9223372036854775807)
def WhI (neg : Bool) (x : Int) : Int := if WhB neg x then (if neg then -x else x) else 0
theorem whole_ref (neg : Bool) (x : Int) (hx : 0 ≤ x ∧ x < 340282366920938463463374607431768211456) (w : World) :
    Calls Try.prog 35 #[.bool neg, wideV x] w fun e w' => e = .returned (.tuple #[.int .i64 (WhI neg x), .bool (WhB neg x)]) ∧ Below w.heap.size w w' := by
  have H := Lib.hid hx
  clear hx
  obtain ⟨hx0, hx1⟩ := hiW_bd x
  obtain ⟨lx0, lx1⟩ := loW_bd x
  unfold wideV
  generalize hx : hiW x = a at *
  generalize lx : loW x = f at *
  have K := Lib.hid (And.intro hx lx)
  clear hx lx
  have Z : a = 0 → f = x := fun h => by obtain ⟨k1, k2⟩ := K.out; have := H.out; rw [← k1] at h; rw [← k2]; unfold hiW at h; unfold loW; omega
  have B : 0 < a → 18446744073709551616 ≤ x := fun h => by obtain ⟨k1, k2⟩ := K.out; have := H.out; rw [← k1] at h; unfold hiW at h; omega
  rcases Int.lt_or_eq_of_le hx0 with h0 | h0
  · have nB : WhB neg x = false := by unfold WhB; have := B h0; split <;> exact decide_eq_false (by omega)
    have nI : WhI neg x = 0 := by unfold WhI; rw [nB]; rfl
    rw [nB, nI]
    have hne : (a == 0) = false := beq_eq_false_iff_ne.2 (by omega)
    clear Z B K H nB nI
    cases neg <;>
    (go_enter Try.func35, Try.ntmps35
     go_wp2
     go_ret2
     exact ⟨rfl, by go_grown⟩)
  · subst h0
    have e := Z rfl
    subst e
    clear Z B K H
    cases neg
    · rcases Int.lt_or_le 9223372036854775807 f with h1 | h1
      · have nB : WhB false f = false := by unfold WhB; exact decide_eq_false (by omega)
        have nI : WhI false f = 0 := by unfold WhI; rw [nB]; rfl
        rw [nB, nI]
        go_enter Try.func35, Try.ntmps35
        go_wp2
        go_ret2
        exact ⟨rfl, by go_grown⟩
      · have nB : WhB false f = true := by unfold WhB; exact decide_eq_true (by omega)
        have nI : WhI false f = f := by unfold WhI; rw [nB]; rfl
        rw [nB, nI]
        have hw : IntKind.i64.wrap f = f := by rw [IntKind.wrap_i64]; omega
        go_enter Try.func35, Try.ntmps35
        go_wp2
        go_ret2
        exact ⟨rfl, by go_grown⟩
    · rcases Int.lt_or_le 9223372036854775808 f with h1 | h1
      · have nB : WhB true f = false := by unfold WhB; exact decide_eq_false (by omega)
        have nI : WhI true f = 0 := by unfold WhI; rw [nB]; rfl
        rw [nB, nI]
        go_enter Try.func35, Try.ntmps35
        go_wp2
        go_ret2
        exact ⟨rfl, by go_grown⟩
      · have nB : WhB true f = true := by unfold WhB; exact decide_eq_true (by omega)
        have nI : WhI true f = -f := by unfold WhI; rw [nB]; rfl
        rw [nB, nI]
        have hw : IntKind.i64.wrap (IntKind.u64.wrap (-f)) = -f := by rw [IntKind.wrap_i64, IntKind.wrap_u64]; omega
        go_enter Try.func35, Try.ntmps35
        go_wp2
        go_ret2
        exact ⟨rfl, by go_grown⟩
end Go.Proofs.Ytjbbgmboifpidaa.Ex
