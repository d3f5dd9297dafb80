/-
  The walks of layer 1 (exact): the greatest common divisor, of ints and of words.
-/
import Derived.Test.YtmlkdfieakihlaaExC
import Derived.Deep.QuietTactic
import Derived.BigQuiet
namespace Go.Proofs.Ytmlkdfieakihlaa.Ex
open Go.RowKit

theorem gcd_tmod (x y : Int) : Int.gcd y (x.tmod y) = Int.gcd x y := by
  show Nat.gcd y.natAbs (x.tmod y).natAbs = Nat.gcd x.natAbs y.natAbs
  rw [Int.natAbs_tmod, Nat.gcd_comm y.natAbs, Nat.gcd_comm x.natAbs, ← Nat.gcd_rec]
theorem gcd_le_right (a b : Int) (hb : 1 ≤ b) : ((Int.gcd a b : Nat) : Int) ≤ b := Int.le_of_dvd (by omega) (Int.gcd_dvd_right ..)

theorem gcd_emod (x y : Int) (h : 0 ≤ x) : Int.gcd y (x % y) = Int.gcd x y := by
  rw [← Int.tmod_eq_emod_of_nonneg h]; exact gcd_tmod x y
theorem divisor_i_any (a b : Int) (ha : -9223372036854775808 ≤ a ∧ a ≤ 9223372036854775807) (hb : 1 ≤ b ∧ b ≤ 9223372036854775807) (w : World) :
    Calls Try.prog 55 #[.int .i64 a, .int .i64 b] w fun e w' => e = .returned (.int .i64 (Int.gcd a b)) ∧ Below w.heap.size w w' := by
  obtain ⟨ha0, ha1⟩ := ha
  obtain ⟨hb0, hb1⟩ := hb
  have hg := gcd_le_right a b hb0
  go_enter Try.func55, Try.ntmps55
  go_wp2
  go_loopw [0, 1] (fun s0 s1 wr => ∃ x y : Int, s0 = .int .i64 x ∧ s1 = .int .i64 y ∧ -9223372036854775808 ≤ x ∧ x ≤ 9223372036854775807 ∧ -9223372036854775808 < y ∧ y ≤ 9223372036854775807 ∧ Hid (Int.gcd x y = Int.gcd a b) ∧ Below w.heap.size w wr) (fun _ s1 _ => (intOf s1).natAbs)
  case atStart => exact ⟨a, b, rfl, rfl, by omega, by omega, by omega, by omega, Lib.hid rfl, Below.refl _ _⟩
  case round =>
    obtain ⟨x, y, rfl, rfl, x0, x1, y0, y1, hG, hB⟩ := hrel
    by_cases h : y = 0
    · subst h
      have hx : Hid (x.natAbs = Int.gcd a b) := Lib.hid (by rw [← hG.out, Int.gcd_zero_right])
      rcases Int.lt_or_le x 0 with hn | hn
      · go_wp2
        go_ret
        exact ⟨congrArg (fun n : Int => Ending.returned (Value.int .i64 n)) (show wrap64 (-x) = _ by have := hx.out; unfold wrap64; omega), hB⟩
      · go_wp2
        go_ret
        exact ⟨congrArg (fun n : Int => Ending.returned (Value.int .i64 n)) (show x = _ by have := hx.out; omega), hB⟩
    · have hne : (y == 0) = false := beq_eq_false_iff_ne.2 h
      have hne' : (y != 0) = true := bne_iff_ne.2 h
      have hG2 := Lib.hid ((gcd_tmod x y).trans hG.out)
      have t0 : (x.tmod y).natAbs < y.natAbs := by rw [Int.natAbs_tmod]; exact Nat.mod_lt _ (by omega)
      go_wp2_with fail
      go_quiet (fail)
      go_wp2
      go_roundw
      case rel => exact ⟨y, x.tmod y, rfl, rfl, by omega, by omega, by omega, by omega, hG2, bd hB _⟩
      case measure => simpa [intOf] using t0

end Go.Proofs.Ytmlkdfieakihlaa.Ex
