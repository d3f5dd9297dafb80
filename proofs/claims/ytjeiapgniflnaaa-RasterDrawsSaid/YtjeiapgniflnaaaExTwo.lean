/-
  The walks of layer 1 (exact): math/bits' Div64, Rem64.
  The walks of layer 1 (exact): floor and rest of two words.
  The walks of layer 1 (exact): Floor, Round, MulDiv.
-/
import Derived.Test.YtjeiapgniflnaaaExOne
import Derived.Test.YtjeiapgniflnaaaShelf
import Derived.Lib.ItoaNum
import Derived.Deep.QuietTactic
import Derived.Deep.DeepCutAuto
import Derived.BigQuiet
import Derived.Deep.CutBlock
namespace Go.Proofs.Ytjeiapgniflnaaa.Ex
open Go.RowKit

theorem or_sum (hi a : Int) (s : Nat) (h0 : 0 ≤ hi) (h1 : hi * 2 ^ s < 18446744073709551616) (a0 : 0 ≤ a) (a1 : a < 2 ^ s) (a2 : a < 18446744073709551616) :
    bits .or .u64 (hi * 2 ^ s) a = hi * 2 ^ s + a := by
  obtain ⟨n, rfl⟩ := Int.eq_ofNat_of_zero_le h0
  obtain ⟨m, rfl⟩ := Int.eq_ofNat_of_zero_le a0
  have e : (n : Int) * 2 ^ s = ((n * 2 ^ s : Nat) : Int) := by simp
  have e2 : m < 2 ^ s := by
    have : ((2 ^ s : Nat) : Int) = 2 ^ s := by simp
    omega
  rw [e] at h1 ⊢
  have h := bits_or_u64_nat (n * 2 ^ s) m (by omega) (by omega)
  rw [h, Nat.mul_comm n, ← Nat.two_pow_add_eq_or_of_lt e2]
  omega

theorem wrap_rem (u v Y : Int) (h0 : 0 < Y) (h1 : Y < 18446744073709551616) :
    IntKind.u64.wrap (IntKind.u64.wrap (IntKind.u64.wrap (u * 4294967296) + v) - IntKind.u64.wrap ((u * 4294967296 + v) / Y * Y)) = (u * 4294967296 + v) % Y := by
  have e := Int.mul_ediv_add_emod (u * 4294967296 + v) Y
  have r0 := Int.emod_nonneg (u * 4294967296 + v) (show Y ≠ 0 by omega)
  have r1 := Int.emod_lt_of_pos (u * 4294967296 + v) h0
  rw [Int.mul_comm Y] at e
  generalize (u * 4294967296 + v) / Y * Y = p at *
  generalize (u * 4294967296 + v) % Y = r at *
  simp only [IntKind.wrap_u64]
  omega

theorem and_low (a : Int) (h0 : 0 ≤ a) (h1 : a < 18446744073709551616) : bits .and .u64 a 4294967295 = a % 4294967296 := by
  obtain ⟨n, rfl⟩ := Int.eq_ofNat_of_zero_le h0
  rw [maskN n (by omega)]; omega

end Go.Proofs.Ytjeiapgniflnaaa.Ex
namespace Go.Proofs.Ytjeiapgniflnaaa.Ex
open Go.RowKit

theorem ret_ib {a b : Int} {c : Bool} (h : a = b) : Ending.returned (.tuple #[.int .i64 a, .bool c]) = .returned (.tuple #[.int .i64 b, .bool c]) := by rw [h]

end Go.Proofs.Ytjeiapgniflnaaa.Ex
namespace Go.Proofs.Ytjeiapgniflnaaa.Ex
open Go.RowKit

end Go.Proofs.Ytjeiapgniflnaaa.Ex
