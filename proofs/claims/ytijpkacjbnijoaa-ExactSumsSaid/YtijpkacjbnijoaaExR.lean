/-
  The walk of the law ExactFloors.
-/
import Derived.Test.YtijpkacjbnijoaaExP
import Derived.Test.YtijpkacjbnijoaaExEq
namespace Go.Proofs.Ytijpkacjbnijoaa.Ex
open Go.RowKit

theorem fl_pos (a b : Int) (hb : 0 < b) (h : -9223372036854775808 ≤ a / b ∧ a / b ≤ 9223372036854775807) : FlI a b = a / b ∧ FlB a b = true := by
  unfold FlI FlB floorQ
  rw [if_neg (by omega), if_neg (by omega), sgn_pos hb, show a * 1 = a by omega, show b * 1 = b by omega, fits_of h]
  unfold outI
  rw [if_pos (fits_of h)]
  exact ⟨rfl, rfl⟩
theorem fl_neg (a b : Int) (hb : 0 < b) (h : -9223372036854775808 ≤ -a / b ∧ -a / b ≤ 9223372036854775807) : FlI a (-b) = -a / b ∧ FlB a (-b) = true := by
  unfold FlI FlB floorQ
  rw [if_neg (by omega), if_neg (by omega), sgn_neg (show -b < 0 by omega), show a * -1 = -a by omega, show -b * -1 = b by omega, fits_of h]
  unfold outI
  rw [if_pos (fits_of h)]
  exact ⟨rfl, rfl⟩
theorem ro_pos (a b : Int) (hb : 0 < b) (h : -9223372036854775808 ≤ (2 * a + b) / (2 * b) ∧ (2 * a + b) / (2 * b) ≤ 9223372036854775807) : RoI a b = (2 * a + b) / (2 * b) ∧ RoB a b = true := by
  unfold RoI RoB
  rw [if_neg (by omega), if_neg (by omega), fits_of h]
  unfold outI
  rw [if_pos (fits_of h)]
  exact ⟨rfl, rfl⟩
theorem md_pos (a b c : Int) (hc : 0 < c) (h : -9223372036854775808 ≤ a * b / c ∧ a * b / c ≤ 9223372036854775807) : MdI a b c = a * b / c ∧ MdB a b c = true := by
  unfold MdI MdB
  rw [if_neg (by omega), if_neg (by omega), fits_of h]
  unfold outI
  rw [if_pos (fits_of h)]
  exact ⟨rfl, rfl⟩

/-- A quotient and what it is multiplied back to. -/
theorem quo_back (a b : Int) (hb : 0 < b) : a / b * b ≤ a ∧ a < a / b * b + b := by
  have e := Int.mul_ediv_add_emod a b
  have r0 := Int.emod_nonneg a (show b ≠ 0 by omega)
  have r1 := Int.emod_lt_of_pos a hb
  rw [Int.mul_comm] at e
  omega
theorem prod_le {a b M : Int} (ha : -M ≤ a ∧ a ≤ M) (hb : 0 ≤ b ∧ b ≤ M) : -(M * M) ≤ a * b ∧ a * b ≤ M * M := by
  have h1 : a * b ≤ M * M := by
    have := Int.mul_le_mul_of_nonneg_right ha.2 hb.1
    have := Int.mul_le_mul_of_nonneg_left hb.2 (show 0 ≤ M by omega)
    omega
  have h2 : -M * b ≤ a * b := Int.mul_le_mul_of_nonneg_right ha.1 hb.1
  have h3 := Int.mul_le_mul_of_nonneg_left hb.2 (show 0 ≤ M by omega)
  rw [Int.neg_mul] at h2
  omega

set_option maxRecDepth 100000 in
set_option maxHeartbeats 4000000 in
theorem floors_walk (a b c n A B C p q r s : Int)
    (ha : a.tmod 268435456 = A) (_hb : b % 268435455 = B - 1) (_hc : c % 268435455 = C - 1)
    (ba : -9223372036854775808 ≤ a ∧ a ≤ 9223372036854775807) (_bb : -9223372036854775808 ≤ b ∧ b ≤ 9223372036854775807) (_bc : -9223372036854775808 ≤ c ∧ c ≤ 9223372036854775807)
    (bA : -268435456 < A ∧ A < 268435456) (bB : 1 ≤ B ∧ B ≤ 268435455) (bC : 1 ≤ C ∧ C ≤ 268435455)
    (M1 : Hid (∀ w, Calls Try.prog 16 #[.int .i64 b, .int .i64 268435455] w fun e w' => e = .returned (.int .i64 (B - 1)) ∧ w = w'))
    (M2 : Hid (∀ w, Calls Try.prog 16 #[.int .i64 c, .int .i64 268435455] w fun e w' => e = .returned (.int .i64 (C - 1)) ∧ w = w'))
    (F1 : Hid (∀ w, Calls Try.prog 10 #[.int .i64 A, .int .i64 B] w fun e w' => e = .returned (.tuple #[.int .i64 p, .bool true]) ∧ Below w.heap.size w w'))
    (F2 : Hid (∀ w, Calls Try.prog 10 #[.int .i64 A, .int .i64 (-B)] w fun e w' => e = .returned (.tuple #[.int .i64 q, .bool true]) ∧ Below w.heap.size w w'))
    (F3 : Hid (∀ w, Calls Try.prog 12 #[.int .i64 A, .int .i64 B] w fun e w' => e = .returned (.tuple #[.int .i64 r, .bool true]) ∧ Below w.heap.size w w'))
    (F4 : Hid (∀ w, Calls Try.prog 14 #[.int .i64 A, .int .i64 B, .int .i64 C] w fun e w' => e = .returned (.tuple #[.int .i64 s, .bool true]) ∧ Below w.heap.size w w'))
    (F5 : Hid (∀ w, Calls Try.prog 10 #[.int .i64 (A * B), .int .i64 C] w fun e w' => e = .returned (.tuple #[.int .i64 s, .bool true]) ∧ Below w.heap.size w w'))
    (F6 : Hid (∀ w, Calls Try.prog 14 #[.int .i64 (A * C), .int .i64 B, .int .i64 (C * C)] w fun e w' => e = .returned (.tuple #[.int .i64 s, .bool true]) ∧ Below w.heap.size w w'))
    (F7 : Hid (∀ w, Calls Try.prog 14 #[.int .i64 n, .int .i64 B, .int .i64 B] w fun e w' => e = .returned (.tuple #[.int .i64 n, .bool true]) ∧ Below w.heap.size w w'))
    (F8 : Hid (∀ w, Calls Try.prog 10 #[.int .i64 n, .int .i64 1] w fun e w' => e = .returned (.tuple #[.int .i64 n, .bool true]) ∧ Below w.heap.size w w'))
    (F9 : Hid (∀ w, Calls Try.prog 12 #[.int .i64 n, .int .i64 1] w fun e w' => e = .returned (.tuple #[.int .i64 n, .bool true]) ∧ Below w.heap.size w w'))
    (m1 : -72057594037927936 ≤ A * B ∧ A * B ≤ 72057594037927936) (m2 : -72057594037927936 ≤ A * C ∧ A * C ≤ 72057594037927936) (m3 : 0 ≤ C * C ∧ C * C ≤ 72057594037927936)
    (bp : -268435456 ≤ p ∧ p ≤ 268435456) (bq : -268435456 ≤ q ∧ q ≤ 268435456) (br : -268435456 ≤ r ∧ r ≤ 268435456)
    (u1 : A - B < p * B ∧ p * B ≤ A) (u2 : A < (p + 1) * B ∧ (p + 1) * B ≤ A + B) (u3 : A ≤ -q * B ∧ -q * B < A + B) (u4 : A - B ≤ -(q + 1) * B ∧ -(q + 1) * B < A)
    (u5 : 2 * A - B < 2 * B * r ∧ 2 * B * r ≤ 2 * A + B) (u6 : 2 * A + B < 2 * B * (r + 1) ∧ 2 * B * (r + 1) ≤ 2 * A + 3 * B) (w : World) :
    Calls Try.prog 4 #[.agg #[.int .i64 a, .int .i64 b, .int .i64 c], .int .i64 n] w fun e w' => e = .returned (.bool true) ∧ Below w.heap.size w w' := by
  have S := Lib.hid sanity_any
  have I1 := Lib.hid (is_same n)
  obtain ⟨ba0, ba1⟩ := ba
  obtain ⟨bA0, bA1⟩ := bA
  obtain ⟨bB0, bB1⟩ := bB
  obtain ⟨bC0, bC1⟩ := bC
  obtain ⟨m1a, m1b⟩ := m1
  obtain ⟨m2a, m2b⟩ := m2
  obtain ⟨m3a, m3b⟩ := m3
  obtain ⟨bp0, bp1⟩ := bp
  obtain ⟨bq0, bq1⟩ := bq
  obtain ⟨br0, br1⟩ := br
  obtain ⟨u1a, u1b⟩ := u1
  obtain ⟨u2a, u2b⟩ := u2
  obtain ⟨u3a, u3b⟩ := u3
  obtain ⟨u4a, u4b⟩ := u4
  obtain ⟨u5a, u5b⟩ := u5
  obtain ⟨u6a, u6b⟩ := u6
  clear _hb _hc _bb _bc
  go_enter Try.func4, Try.ntmps4
  go_wp2_with fail
  refine (S.out _).mono ?_
  rintro e w1 ⟨rfl, hb1⟩
  have x0 := kc hb1 (b := w.heap.size) (o := 0) (v := .int .i64 a) (by go_cell)
  have x1 := kc hb1 (b := w.heap.size) (o := 1) (v := .int .i64 b) (by go_cell)
  have x2 := kc hb1 (b := w.heap.size) (o := 2) (v := .int .i64 c) (by go_cell)
  have hB : Below w.heap.size w w1 := bt (ba (Below.refl _ _) _) hb1
  clear hb1
  go_wp2_with fail
  refine (M1.out _).mono ?_
  rintro e w' ⟨rfl, rfl⟩
  go_wp2_with fail
  refine (M2.out _).mono ?_
  rintro e w' ⟨rfl, rfl⟩
  go_wp2_with fail
  refine (F1.out _).mono ?_
  rintro e w2 ⟨rfl, hb2⟩
  replace hB := bt hB hb2
  clear hb2 x0 x1 x2
  go_wp2_with fail
  refine (F2.out _).mono ?_
  rintro e w3 ⟨rfl, hb2⟩
  replace hB := bt hB hb2
  clear hb2
  go_wp2_with fail
  refine (F3.out _).mono ?_
  rintro e w4 ⟨rfl, hb2⟩
  replace hB := bt hB hb2
  clear hb2
  go_wp2_with fail
  refine (F4.out _).mono ?_
  rintro e w5 ⟨rfl, hb2⟩
  replace hB := bt hB hb2
  clear hb2
  go_wp2_with fail
  refine (F5.out _).mono ?_
  rintro e w6 ⟨rfl, hb2⟩
  replace hB := bt hB hb2
  clear hb2
  go_wp2_with fail
  refine (F6.out _).mono ?_
  rintro e w7 ⟨rfl, hb2⟩
  replace hB := bt hB hb2
  clear hb2
  go_wp2_with fail
  refine (F7.out _).mono ?_
  rintro e w8 ⟨rfl, hb2⟩
  replace hB := bt hB hb2
  clear hb2
  go_wp2_with fail
  refine (F8.out _).mono ?_
  rintro e w9 ⟨rfl, hb2⟩
  replace hB := bt hB hb2
  clear hb2
  go_wp2_with fail
  refine (F9.out _).mono ?_
  rintro e w10 ⟨rfl, hb2⟩
  replace hB := bt hB hb2
  clear hb2
  go_wp2_with fail
  refine (I1.out _).mono ?_
  rintro e w' ⟨rfl, rfl⟩
  go_wp2_with fail
  refine (I1.out _).mono ?_
  rintro e w' ⟨rfl, rfl⟩
  go_wp2_with fail
  refine (I1.out _).mono ?_
  rintro e w' ⟨rfl, rfl⟩
  go_wp2
  go_ret
  exact ⟨rfl, hB⟩

end Go.Proofs.Ytijpkacjbnijoaa.Ex
