/-
  The document's own Cmp and Lowest.
-/
import Derived.Test.YtmlkdfieakihlaaExRi
import Derived.Test.YtmlkdfieakihlaaExK
import Derived.Deep.QuietTactic
import Derived.BigQuiet
import Derived.Lib.QuietBelow
import Derived.Deep.RegionHeld3
namespace Go.Proofs.Ytmlkdfieakihlaa.Ex
open Go.RowKit

theorem ab_bd {n : Int} (h : -9223372036854775808 ≤ n ∧ n ≤ 9223372036854775807) : 0 ≤ ab n ∧ ab n < 18446744073709551616 ∧ ab n ≤ 9223372036854775808 := by
  unfold ab; split <;> omega
theorem ab_prod {n m : Int} (h : -9223372036854775808 ≤ n ∧ n ≤ 9223372036854775807) (k : -9223372036854775808 ≤ m ∧ m ≤ 9223372036854775807) : 0 ≤ ab n * ab m ∧ ab n * ab m < 340282366920938463463374607431768211456 := by
  obtain ⟨a0, a1, a2⟩ := ab_bd h
  obtain ⟨b0, b1, b2⟩ := ab_bd k
  refine ⟨Int.mul_nonneg a0 b0, ?_⟩
  have h1 : ab n * ab m ≤ 9223372036854775808 * ab m := Int.mul_le_mul_of_nonneg_right a2 b0
  omega
theorem size_b (n : Int) (hn : -9223372036854775808 ≤ n ∧ n ≤ 9223372036854775807) (w : World) :
    Calls Try.prog 59 #[.int .i64 n] w fun e w' => e = .returned (.int .u64 (ab n)) ∧ Below w.heap.size w w' :=
  (size_ref n hn w).mono fun _ _ ⟨h1, h2⟩ => ⟨h1, by rw [← h2]; exact Below.refl _ _⟩
theorem ab_pos {n : Int} (h : 0 ≤ n) : ab n = n := if_neg (by omega)
theorem ab_neg {n : Int} (h : n < 0) : ab n = -n := if_pos h


end Go.Proofs.Ytmlkdfieakihlaa.Ex
