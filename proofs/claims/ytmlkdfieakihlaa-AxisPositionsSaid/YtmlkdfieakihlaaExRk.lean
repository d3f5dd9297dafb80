/-
  The document's own Cmp and Lowest, whole.
-/
import Derived.Test.YtmlkdfieakihlaaExRj
import Derived.Test.YtmlkdfieakihlaaExRed
namespace Go.Proofs.Ytmlkdfieakihlaa.Ex
open Go.RowKit

theorem ab_nat (n : Int) : (ab n).natAbs = n.natAbs := by unfold ab; split <;> omega
theorem ab_gcd (n d : Int) : Int.gcd (ab n) (ab d) = Int.gcd n d := by unfold Int.gcd; rw [ab_nat, ab_nat]

set_option maxRecDepth 100000 in
set_option maxHeartbeats 2000000 in
theorem lowest_ref (n d : Int) (hn : -9223372036854775808 ≤ n ∧ n ≤ 9223372036854775807) (hd : -9223372036854775808 ≤ d ∧ d ≤ 9223372036854775807) (w : World) :
    Calls Try.prog 57 #[ratV n d] w fun e w' => e = .returned (.tuple #[ratV (LoN n d) (LoD n d), .bool (LoB d)]) ∧ Below w.heap.size w w' := by
  rcases Int.lt_or_le d 1 with h | h
  · have K : Hid (LoN n d = 0 ∧ LoD n d = 0 ∧ LoB d = false) := Lib.hid ⟨if_pos h, if_pos h, decide_eq_false (by omega)⟩
    unfold ratV at *
    go_enter Try.func57, Try.ntmps57
    go_wp2_with fail
    refine bodyPost_ret (v := .tuple #[.agg #[.int .i64 0, .int .i64 0], .bool false]) (by simp [results, Try.results57, go_sem]) rfl ⟨?_, ?_⟩
    · rw [K.out.1, K.out.2.1, K.out.2.2]
    · go_grown
  · have q1 : decide (d < 1) = false := decide_eq_false (by omega)
    have K : Hid (LoN n d = redN n d ∧ LoD n d = redD n d ∧ LoB d = true) := Lib.hid ⟨if_neg (by omega), if_neg (by omega), decide_eq_true h⟩
    have S1 := Lib.hid (size_b n hn)
    have S2 := Lib.hid (size_b d hd)
    have G0 := gcd_ref (ab n) (ab d) (by have := ab_bd hn; omega) (by have := ab_bd hd; omega)
    rw [show Int.gcd (ab n) (ab d) = Int.gcd n d from ab_gcd n d] at G0
    have G := Lib.hid G0
    have g1 := gcd_le_right n d h
    have g0 := gcd_pos' n h
    have en : Hid (n.tdiv (Int.gcd n d : Int) = redN n d ∧ d.tdiv (Int.gcd n d : Int) = redD n d) := Lib.hid ⟨Int.tdiv_eq_ediv_of_dvd (Int.gcd_dvd_left ..), Int.tdiv_eq_ediv_of_dvd (Int.gcd_dvd_right ..)⟩
    generalize ((Int.gcd n d : Nat) : Int) = g at *
    clear G0
    obtain ⟨hn0, hn1⟩ := hn
    obtain ⟨hd0, hd1⟩ := hd
    unfold ratV at *
    have hA : Below w.heap.size w ((w.alloc (.cells #[.int .i64 n, .int .i64 d] 44)).alloc (.cells #[.int .i64 0, .int .i64 0] 44)) := by go_grown
    have cn : ((w.alloc (.cells #[.int .i64 n, .int .i64 d] 44)).alloc (.cells #[.int .i64 0, .int .i64 0] 44)).cell? ⟨w.heap.size, 0, none⟩ = some (.int .i64 n) := by go_cell
    have cd : ((w.alloc (.cells #[.int .i64 n, .int .i64 d] 44)).alloc (.cells #[.int .i64 0, .int .i64 0] 44)).cell? ⟨w.heap.size, 1, none⟩ = some (.int .i64 d) := by go_cell
    have r0 : ((w.alloc (.cells #[.int .i64 n, .int .i64 d] 44)).alloc (.cells #[.int .i64 0, .int .i64 0] 44)).cell? ⟨w.heap.size + 1, 0, none⟩ = some (.int .i64 0) := by go_cell
    have r1 : ((w.alloc (.cells #[.int .i64 n, .int .i64 d] 44)).alloc (.cells #[.int .i64 0, .int .i64 0] 44)).cell? ⟨w.heap.size + 1, 1, none⟩ = some (.int .i64 0) := by go_cell
    have f0 : ((w.alloc (.cells #[.int .i64 n, .int .i64 d] 44)).alloc (.cells #[.int .i64 0, .int .i64 0] 44)).frozen? ⟨w.heap.size + 1, 0, none⟩ = false := by go_cell
    have f1 : ((w.alloc (.cells #[.int .i64 n, .int .i64 d] 44)).alloc (.cells #[.int .i64 0, .int .i64 0] 44)).frozen? ⟨w.heap.size + 1, 1, none⟩ = false := by go_cell
    have gne : (g == 0) = false := beq_eq_false_iff_ne.2 (by omega)
    have wg := IntWalk.wrap64_in g ⟨by omega, by omega⟩
    go_enter Try.func57, Try.ntmps57
    go_wp2_with fail
    generalize ((w.alloc (.cells #[.int .i64 n, .int .i64 d] 44)).alloc (.cells #[.int .i64 0, .int .i64 0] 44)) = V at *
    have zcn := cell_regrown cn
    have zcd := cell_regrown cd
    refine wp_region_quiet_below (by kernel_rfl) (by kernel_rfl) ?_
    repeat (go_big_quiet_step ((first | (with_reducible exact Calls.regrown_of (S1.out _)) | (with_reducible exact Calls.regrown_of (S2.out _)) | (with_reducible exact Calls.regrown_of (G.out _)))))
    refine wpQuiet_nil ?_
    intro _ hw'
    obtain ⟨⟨dq, osq⟩, hw''⟩ := hw'
    subst hw''
    have hN1 := below_regrown V dq osq
    clear zcn zcd
    generalize Go.«Sort».grow (redrawn V dq) osq = V2 at *
    replace cn := kc hN1 cn
    replace cd := kc hN1 cd
    replace f0 := kf hN1 r0 f0
    replace f1 := kf hN1 r1 f1
    replace r0 := kc hN1 r0
    replace r1 := kc hN1 r1
    have hB := bt hA hN1
    clear hA hN1
    go_wp2_with fail
    go_region
    go_wp2
    refine bodyPost_ret (v := .tuple #[.agg #[.int .i64 (n.tdiv g), .int .i64 (d / g)], .bool true]) (by simp [results, Try.results57, go_sem, r0, r1]) rfl ⟨?_, ?_⟩
    · have e := en.out
      rw [Int.tdiv_eq_ediv_of_nonneg (show 0 ≤ d by omega)] at e
      rw [K.out.1, K.out.2.1, K.out.2.2, e.1, e.2]
    · exact bd1 (bs (bs hB (by simp) _) (by simp) _)
end Go.Proofs.Ytmlkdfieakihlaa.Ex
