/-
  The walks of layer 1 (exact): the law's own small functions.
-/
import Derived.Test.YtjbbgmboifpidaaExN
import Derived.Test.YtjbbgmboifpidaaExK
import Derived.Test.YtjbbgmboifpidaaExH
namespace Go.Proofs.Ytjbbgmboifpidaa.Ex
open Go.RowKit

theorem is_same (n : Int) (w : World) : Calls Try.prog 17 #[.int .i64 n, .bool true, .int .i64 n] w fun e w' => e = .returned (.bool true) ∧ w = w' := by
  go_enter Try.func17, Try.ntmps17
  go_wp2
  go_ret
  exact ⟨by simp, rfl⟩
theorem of_any (n d : Int) (w : World) : Calls Try.prog 19 #[.int .i64 n, .int .i64 d] w fun e w' => e = .returned (ratV n d) ∧ Below w.heap.size w w' := by
  go_enter Try.func19, Try.ntmps19
  go_wp2
  go_returns
  exact ⟨rfl, by go_grown⟩
theorem ratio_same (n d : Int) (w : World) : Calls Try.prog 29 #[ratV n d, .bool true, .int .i64 n, .int .i64 d] w fun e w' => e = .returned (.bool true) ∧ Below w.heap.size w w' := by
  unfold ratV
  go_enter Try.func29, Try.ntmps29
  go_wp2
  go_ret
  exact ⟨by simp, by go_grown⟩
theorem none_yes (w : World) : Calls Try.prog 30 #[ratV 0 0, .bool false] w fun e w' => e = .returned (.bool true) ∧ Below w.heap.size w w' := by
  unfold ratV
  go_enter Try.func30, Try.ntmps30
  go_wp2
  go_ret
  exact ⟨by simp, by go_grown⟩

/-- Mod of any number and m from 1 to 2^62. -/
theorem mod_any (n m : Int) (hn : -9223372036854775808 ≤ n ∧ n ≤ 9223372036854775807) (hm : 1 ≤ m ∧ m ≤ 4611686018427387904) (w : World) :
    Calls Try.prog 16 #[.int .i64 n, .int .i64 m] w fun e w' => e = .returned (.int .i64 (n % m)) ∧ w = w' := by
  obtain ⟨hn0, hn1⟩ := hn
  obtain ⟨hm0, hm1⟩ := hm
  have hne : (m == 0) = false := beq_eq_false_iff_ne.2 (by omega)
  have hz : ¬ m = 0 := by omega
  have a1 : n.tmod m < m := Int.tmod_lt_of_pos n (by omega)
  have a2 : -m < n.tmod m := by
    have h : (n.tmod m).natAbs < m.natAbs := by rw [Int.natAbs_tmod]; exact Nat.mod_lt _ (by omega)
    omega
  have e : (n.tmod m + m) % m = n % m := by
    rw [Int.add_emod_right]
    have h := Int.tmod_add_mul_tdiv n m
    have h2 : n = n.tmod m + m * n.tdiv m := by omega
    have h3 : n % m = (n.tmod m + m * n.tdiv m) % m := by rw [← h2]
    rw [h3, Int.add_mul_emod_self_left]
  have H := Lib.hid e
  clear e
  go_enter Try.func16, Try.ntmps16
  go_wp2
  go_ret
  exact ⟨congrArg (fun n : Int => Ending.returned (Value.int .i64 n)) H.out, rfl⟩

end Go.Proofs.Ytjbbgmboifpidaa.Ex
