/-
  Layer 5 (axis): numbers: limits, comparisons, sides of axes and of tents.
-/
import Derived.Test.YtmlkdfieakihlaaExH
import Derived.Test.YtmlkdfieakihlaaExRg
import Derived.Laws.BitsLemmas
import Derived.IntWalk
import Derived.Deep.QuietTactic
import Derived.BigQuiet
import Derived.WalkLawsBesides
import Derived.WalkSpells
import Derived.ChangeAlike
import Derived.Handy
import Derived.OpenShut
import Derived.Deep.DeepCutAuto
import Derived.Outline
import Derived.RegionTactic
import Derived.BigRegion
import Derived.Lib.Hide
import Derived.Lib.QuietBelow
import Derived.Lib.MinMax
namespace Go.Proofs.Ytmlkdfieakihlaa.Ax
open Go.RowKit
open Go.Proofs.Ytmlkdfieakihlaa.Ex (RoI RoB outI fits round_go round_ref)

theorem kc {B : Nat} {w a : World} (h : Below B w a) {b o : Nat} {v : Value} (hb : b < B) (hc : w.cell? ⟨b, o, none⟩ = some v) : a.cell? ⟨b, o, none⟩ = some v := by
  rw [h.cell (p := ⟨b, o, none⟩) hb]; exact hc
theorem kf {B : Nat} {w a : World} (h : Below B w a) {b o : Nat} {v : Bool} (hb : b < B) (hc : w.frozen? ⟨b, o, none⟩ = v) : a.frozen? ⟨b, o, none⟩ = v := by
  rw [h.frozen (p := ⟨b, o, none⟩) hb]; exact hc
theorem bt {w u v : World} (h1 : Below w.heap.size w u) (h2 : Below u.heap.size u v) : Below w.heap.size w v := h1.trans (h2.mono h1.size)
theorem ba {w u : World} (h : Below w.heap.size w u) (o : Obj) : Below w.heap.size w (u.alloc o) := h.alloc h.size o
theorem bs {w u : World} (h : Below w.heap.size w u) {p : Addr} (hp : w.heap.size ≤ p.block) (v : Value) : Below w.heap.size w (u.setCell p v) := h.setCell hp v
theorem bd1 {w u : World} (h : Below w.heap.size w u) : Below w.heap.size w u.drew := ⟨h.os, h.tape, h.output, h.size, h.block⟩
theorem bd {w u : World} (h : Below w.heap.size w u) (n : Nat) : Below w.heap.size w (u.drewN n) := ⟨h.os, h.tape, h.output, h.size, h.block⟩
def R64 (x : Int) : Prop := -9223372036854775808 ≤ x ∧ x ≤ 9223372036854775807

/-- The number of a range that is nearest. -/
def lim (n lo hi : Int) : Int := min (max n lo) hi
def cmpI (a b : Int) : Int := if a < b then -1 else if b < a then 1 else 0

theorem limited_any (n lo hi : Int) (w : World) :
    Calls Try.prog 43 #[.int .i64 n, .int .i64 lo, .int .i64 hi] w fun e w' => e = .returned (.int .i64 (lim n lo hi)) ∧ Below w.heap.size w w' := by
  go_enter Try.func43, Try.ntmps43
  go_wp2
  go_ret
  exact ⟨rfl, Below.refl _ _⟩
theorem limNormal_any (n : Int) (w : World) :
    Calls Try.prog 29 #[.int .i64 n] w fun e w' => e = .returned (.int .i64 (lim n (-64) 64)) ∧ Below w.heap.size w w' := by
  go_enter Try.func29, Try.ntmps29
  go_wp2_with fail
  refine (limited_any n (-64) 64 _).mono ?_
  rintro e w' ⟨rfl, hB⟩
  go_wp2
  go_ret
  exact ⟨rfl, hB⟩
theorem isNaN_any (n : Int) (w : World) :
    Calls Try.prog 48 #[.int .i64 n] w fun e w' => e = .returned (.bool false) ∧ Below w.heap.size w w' := by
  go_enter Try.func48, Try.ntmps48
  go_wp2
  go_ret
  exact ⟨by simp, Below.refl _ _⟩
theorem compare_any (a b : Int) (w : World) :
    Calls Try.prog 30 #[.int .i64 a, .int .i64 b] w fun e w' => e = .returned (.int .i64 (cmpI a b)) ∧ Below w.heap.size w w' := by
  unfold cmpI
  by_cases h1 : a < b
  · rw [if_pos h1]
    go_enter Try.func30, Try.ntmps30
    go_wp2_with fail
    refine (isNaN_any a _).mono ?_
    rintro e w1 ⟨rfl, hB⟩
    go_wp2_with fail
    refine (isNaN_any b _).mono ?_
    rintro e w2 ⟨rfl, hB2⟩
    go_wp2
    go_ret
    exact ⟨rfl, bt hB hB2⟩
  · rw [if_neg h1]
    by_cases h2 : b < a
    · rw [if_pos h2]
      go_enter Try.func30, Try.ntmps30
      go_wp2_with fail
      refine (isNaN_any a _).mono ?_
      rintro e w1 ⟨rfl, hB⟩
      go_wp2_with fail
      refine (isNaN_any b _).mono ?_
      rintro e w2 ⟨rfl, hB2⟩
      go_wp2
      go_ret
      exact ⟨rfl, bt hB hB2⟩
    · rw [if_neg h2]
      go_enter Try.func30, Try.ntmps30
      go_wp2_with fail
      refine (isNaN_any a _).mono ?_
      rintro e w1 ⟨rfl, hB⟩
      go_wp2_with fail
      refine (isNaN_any b _).mono ?_
      rintro e w2 ⟨rfl, hB2⟩
      go_wp2
      go_ret
      exact ⟨rfl, bt hB hB2⟩
def inU (x : Int) : Bool := decide (-1000 ≤ x) && decide (x ≤ 1000)
theorem inU_iff (x : Int) : inU x = true ↔ -1000 ≤ x ∧ x ≤ 1000 := by unfold inU; simp
theorem isUser_any (x : Int) (w : World) :
    Calls Try.prog 47 #[.int .i64 x] w fun e w' => e = .returned (.bool (inU x)) ∧ Below w.heap.size w w' := by
  unfold inU
  go_enter Try.func47, Try.ntmps47
  by_cases h1 : -1000 ≤ x <;> by_cases h2 : x ≤ 1000 <;> simp only [h1, h2, decide_true, decide_false, Bool.and_true, Bool.and_false]
  all_goals
    go_wp2
    go_ret
    exact ⟨rfl, by go_grown⟩
theorem within_any (x : Int) (w : World) :
    Calls Try.prog 28 #[.int .i64 x, .int .i64 1000] w fun e w' => e = .returned (.bool (inU x)) ∧ Below w.heap.size w w' := by
  unfold inU
  go_enter Try.func28, Try.ntmps28
  by_cases h1 : -1000 ≤ x <;> by_cases h2 : x ≤ 1000 <;> simp only [h1, h2, decide_true, decide_false, Bool.and_true, Bool.and_false]
  all_goals
    go_wp2
    go_ret
    exact ⟨rfl, by go_grown⟩
theorem rlimited_any (n : Int) (w : World) :
    Calls Try.prog 33 #[.int .i64 n] w fun e w' => e = .returned (.int .i64 (lim n (-64) 64)) ∧ Below w.heap.size w w' := by
  go_enter Try.func33, Try.ntmps33
  go_wp2
  go_ret
  exact ⟨congrArg (fun n : Int => Ending.returned (Value.int .i64 n)) (by unfold lim; omega), Below.refl _ _⟩
theorem rround_any (a b : Int) (ha : -9223372036854775808 ≤ a ∧ a ≤ 9223372036854775807) (hb : -9223372036854775808 ≤ b ∧ b ≤ 9223372036854775807) (w : World) :
    Calls Try.prog 34 #[.int .i64 a, .int .i64 b] w fun e w' => e = .returned (.int .i64 (RoI a b)) ∧ Below w.heap.size w w' := by
  go_enter Try.func34, Try.ntmps34
  go_wp2_with fail
  refine (round_ref a b ha hb _).mono ?_
  rintro e w' ⟨rfl, hB⟩
  go_wp2
  go_ret
  exact ⟨rfl, hB⟩
/-- The closure that measures the sides. -/
def sdV (H L M : Nat) : Value := .func (.func 49) #[] #[.pointer (some ⟨H, 0, none⟩), .pointer (some ⟨L, 0, none⟩), .pointer (some ⟨M, 0, none⟩)]
theorem sides_any (lo mi hi : Int) (w : World) :
    Calls Try.prog 31 #[.int .i64 lo, .int .i64 mi, .int .i64 hi] w fun e w' => ∃ H L M, e = .returned (sdV H L M) ∧ w'.cell? ⟨H, 0, none⟩ = some (.int .i64 hi) ∧ w'.cell? ⟨L, 0, none⟩ = some (.int .i64 lo) ∧ w'.cell? ⟨M, 0, none⟩ = some (.int .i64 mi) ∧ Below w.heap.size w w' := by
  unfold sdV
  go_enter Try.func31, Try.ntmps31
  go_wp2
  go_ret
  exact ⟨_, _, _, rfl, by go_cell, by go_cell, by go_cell, ba (ba (ba (Below.refl _ _) _) _) _⟩
theorem sides1_any (s at_ lo mi hi : Int) (H L M : Nat) (w : World) (hH : w.cell? ⟨H, 0, none⟩ = some (.int .i64 hi)) (hL : w.cell? ⟨L, 0, none⟩ = some (.int .i64 lo)) (hM : w.cell? ⟨M, 0, none⟩ = some (.int .i64 mi)) :
    Calls Try.prog 49 #[.int .i64 s, .int .i64 at_, .pointer (some ⟨H, 0, none⟩), .pointer (some ⟨L, 0, none⟩), .pointer (some ⟨M, 0, none⟩)] w fun e w' => e = .returned (.tuple #[.int .i64 (wrap64 (s * wrap64 (at_ - mi))), .int .i64 (wrap64 (s * wrap64 ((if s < 0 then lo else hi) - mi)))]) ∧ Below w.heap.size w w' := by
  by_cases h : s < 0
  · rw [if_pos h]
    go_enter Try.func49, Try.ntmps49
    go_wp2
    go_quiet (fail)
    go_wp2
    go_ret2
    exact ⟨rfl, bd (Below.refl _ _) _⟩
  · rw [if_neg h]
    go_enter Try.func49, Try.ntmps49
    go_wp2
    go_quiet (fail)
    go_wp2
    go_ret2
    exact ⟨rfl, bd (Below.refl _ _) _⟩
end Go.Proofs.Ytmlkdfieakihlaa.Ax
