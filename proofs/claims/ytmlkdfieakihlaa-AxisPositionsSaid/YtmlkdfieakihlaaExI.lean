/-
  The walks of layer 1 (exact): Lowest, and both in lowest terms.
-/
import Derived.Test.YtmlkdfieakihlaaExG
import Derived.RegionTactic
import Derived.BigRegion
namespace Go.Proofs.Ytmlkdfieakihlaa.Ex
open Go.RowKit

/-- A ratio as the program's value. -/
def ratV (n d : Int) : Value := .agg #[.int .i64 n, .int .i64 d]

theorem valid_any (n d : Int) (w : World) :
    Calls Try.prog 70 #[ratV n d] w fun e w' => e = .returned (.bool (decide (1 ≤ d))) ∧ Below w.heap.size w w' := by
  unfold ratV
  go_enter Try.func70, Try.ntmps70
  go_wp2
  go_ret
  exact ⟨rfl, by go_grown⟩

theorem lowest_yes (n d : Int) (hn : -9223372036854775808 ≤ n ∧ n ≤ 9223372036854775807) (hd : 1 ≤ d ∧ d ≤ 9223372036854775807) (w : World) :
    Calls Try.prog 68 #[ratV n d] w fun e w' => e = .returned (.tuple #[ratV (redN n d) (redD n d), .bool true]) ∧ Below w.heap.size w w' := by
  obtain ⟨hn0, hn1⟩ := hn
  obtain ⟨hd0, hd1⟩ := hd
  have hv : ∀ w, Calls Try.prog 70 #[ratV n d] w fun e w' => e = .returned (.bool true) ∧ Below w.heap.size w w' := fun w => by
    have := valid_any n d w
    rw [decide_eq_true hd0] at this
    exact this
  have V := Lib.hid hv
  have G := Lib.hid (divisor_i_any n d ⟨hn0, hn1⟩ ⟨hd0, hd1⟩)
  have g1 := gcd_le_right n d hd0
  have g0 : 1 ≤ ((Int.gcd n d : Nat) : Int) := by have := Int.gcd_pos_of_ne_zero_right n (show d ≠ 0 by omega); omega
  have en : Hid (n.tdiv (Int.gcd n d : Int) = redN n d ∧ d.tdiv (Int.gcd n d : Int) = redD n d) := Lib.hid ⟨Int.tdiv_eq_ediv_of_dvd (Int.gcd_dvd_left ..), Int.tdiv_eq_ediv_of_dvd (Int.gcd_dvd_right ..)⟩
  generalize ((Int.gcd n d : Nat) : Int) = g at *
  clear hv
  unfold ratV at *
  go_enter Try.func68, Try.ntmps68
  go_wp2_with fail
  refine (V.out _).mono ?_
  rintro e w1 ⟨rfl, hb1⟩
  have c1 := kc hb1 (b := w.heap.size) (o := 0) (v := .int .i64 n) (by simp)
  have c2 := kc hb1 (b := w.heap.size) (o := 1) (v := .int .i64 d) (by simp)
  have r1 := kc hb1 (b := w.heap.size + 1) (o := 0) (v := .int .i64 0) (by simp)
  have r2 := kc hb1 (b := w.heap.size + 1) (o := 1) (v := .int .i64 0) (by simp)
  have f1 := kf hb1 (b := w.heap.size + 1) (o := 0) (v := .int .i64 0) (t := false) (by simp) (by simp)
  have f2 := kf hb1 (b := w.heap.size + 1) (o := 1) (v := .int .i64 0) (t := false) (by simp) (by simp)
  have hB : Below w.heap.size w w1 := bt (ba (ba (Below.refl _ _) _) _) hb1
  clear hb1
  go_wp2_with fail
  refine (G.out _).mono ?_
  rintro e w2 ⟨rfl, hb2⟩
  replace c1 := kc hb2 c1
  replace c2 := kc hb2 c2
  replace f1 := kf hb2 r1 f1
  replace f2 := kf hb2 r2 f2
  replace r1 := kc hb2 r1
  replace r2 := kc hb2 r2
  replace hB := bt hB hb2
  clear hb2
  have gne : (g == 0) = false := beq_eq_false_iff_ne.2 (by omega)
  go_wp2_with fail
  go_region
  go_wp2
  refine bodyPost_ret (v := .tuple #[.agg #[.int .i64 (n.tdiv g), .int .i64 (d / g)], .bool true]) (by simp [results, Try.results68, go_sem, r1, r2]) rfl ⟨?_, ?_⟩
  · have e := en.out
    rw [Int.tdiv_eq_ediv_of_nonneg (show 0 ≤ d by omega)] at e
    rw [e.1, e.2]
  · exact bd1 (bs (bs hB (by simp) _) (by simp) _)

theorem lowest_any (n d : Int) (hn : -9223372036854775808 ≤ n ∧ n ≤ 9223372036854775807) (hd : d ≤ 9223372036854775807) (w : World) :
    Calls Try.prog 68 #[ratV n d] w fun e w' => e = .returned (.tuple #[ratV (LoN n d) (LoD n d), .bool (LoB d)]) ∧ Below w.heap.size w w' := by
  rcases Int.lt_or_le d 1 with h | h
  · have K : Hid (LoN n d = 0 ∧ LoD n d = 0 ∧ LoB d = false) := Lib.hid ⟨if_pos h, if_pos h, decide_eq_false (by omega)⟩
    have hv : ∀ w, Calls Try.prog 70 #[ratV n d] w fun e w' => e = .returned (.bool false) ∧ Below w.heap.size w w' := fun w => by
      have := valid_any n d w
      rw [decide_eq_false (by omega)] at this
      exact this
    have V := Lib.hid hv
    clear hv
    unfold ratV at *
    go_enter Try.func68, Try.ntmps68
    go_wp2_with fail
    refine (V.out _).mono ?_
    rintro e w1 ⟨rfl, hb1⟩
    have r1 := kc hb1 (b := w.heap.size + 1) (o := 0) (v := .int .i64 0) (by simp)
    have r2 := kc hb1 (b := w.heap.size + 1) (o := 1) (v := .int .i64 0) (by simp)
    have f1 := kf hb1 (b := w.heap.size + 1) (o := 0) (v := .int .i64 0) (t := false) (by simp) (by simp)
    have f2 := kf hb1 (b := w.heap.size + 1) (o := 1) (v := .int .i64 0) (t := false) (by simp) (by simp)
    have hB : Below w.heap.size w w1 := bt (ba (ba (Below.refl _ _) _) _) hb1
    clear hb1
    go_wp2
    refine bodyPost_ret (v := .tuple #[.agg #[.int .i64 0, .int .i64 0], .bool false]) (by simp [results, Try.results68, go_sem, r1, r2]) rfl ⟨?_, ?_⟩
    · rw [K.out.1, K.out.2.1, K.out.2.2]
    · exact bs (bs hB (by simp) _) (by simp) _
  · have := lowest_yes n d hn ⟨h, hd⟩ w
    rw [show LoN n d = redN n d from if_neg (by omega), show LoD n d = redD n d from if_neg (by omega), show LoB d = true from decide_eq_true h]
    exact this

end Go.Proofs.Ytmlkdfieakihlaa.Ex
