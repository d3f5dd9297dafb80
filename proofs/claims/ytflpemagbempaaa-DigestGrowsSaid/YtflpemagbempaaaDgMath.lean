/-
  Layer 3 (digest): the digest as arithmetic.
-/
import Derived.Test.YtflpemagbempaaaProg
import Derived.Lib.Hide
import Derived.WalkKit
import Derived.Below
import Derived.Laws.AppendOwn
import Derived.Laws.BytesArg
namespace Go.Proofs.Ytflpemagbempaaa.Dg
open Go.RowKit

def sx (x : Nat) (c : UInt8) : Nat := (40014 * x + c.toNat + 1) % 2147483563
def sy (y : Nat) (c : UInt8) : Nat := (40692 * y + c.toNat + 1) % 2147483399
def dx (l : List UInt8) : Nat := l.foldl sx 41
def dy (l : List UInt8) : Nat := l.foldl sy 43
def w4 (n : Nat) : List UInt8 := [UInt8.ofNat (n / 16777216), UInt8.ofNat (n / 65536), UInt8.ofNat (n / 256), UInt8.ofNat n]
/-- The digest of bytes. -/
def dg (l : List UInt8) : List UInt8 := w4 (dx l) ++ w4 (dy l)
def B (l : List UInt8) : ByteArray := ⟨l.toArray⟩
/-- The digest of a string. -/
def D (s : ByteArray) : ByteArray := B (dg s.data.toList)
theorem B_toList (l : List UInt8) : (B l).data.toList = l := by simp [B]
theorem B_size (l : List UInt8) : (B l).size = l.length := by simp [B, ByteArray.size]
theorem B_append (a b : List UInt8) : B a ++ B b = B (a ++ b) := by
  apply ByteArray.ext; rw [ByteArray.data_append]; simp [B]
theorem B_data (s : ByteArray) : B s.data.toList = s := by apply ByteArray.ext; simp [B]
theorem toList_append (a b : ByteArray) : (a ++ b).data.toList = a.data.toList ++ b.data.toList := by
  rw [ByteArray.data_append, Array.toList_append]
theorem size_append (a b : ByteArray) : (a ++ b).size = a.size + b.size := by
  rw [ByteArray.size_append]
theorem toList_length (s : ByteArray) : s.data.toList.length = s.size := by rw [Array.length_toList]; rfl
theorem w4_length (n : Nat) : (w4 n).length = 4 := rfl
theorem dg_length (l : List UInt8) : (dg l).length = 8 := rfl
theorem D_size (s : ByteArray) : (D s).size = 8 := by rw [D, B_size, dg_length]
theorem B_inj {a b : List UInt8} (h : B a = B b) : a = b := by rw [← B_toList a, ← B_toList b, h]

theorem sx_lt (x : Nat) (c : UInt8) : sx x c < 2147483563 := Nat.mod_lt _ (by omega)
theorem sy_lt (y : Nat) (c : UInt8) : sy y c < 2147483399 := Nat.mod_lt _ (by omega)
theorem foldx_lt : ∀ (l : List UInt8) (x : Nat), x < 2147483563 → l.foldl sx x < 2147483563
  | [], _, h => h
  | c :: l, x, _ => foldx_lt l _ (sx_lt x c)
theorem foldy_lt : ∀ (l : List UInt8) (x : Nat), x < 2147483399 → l.foldl sy x < 2147483399
  | [], _, h => h
  | c :: l, x, _ => foldy_lt l _ (sy_lt x c)
theorem dx_lt (l : List UInt8) : dx l < 2147483563 := foldx_lt l 41 (by omega)
theorem dy_lt (l : List UInt8) : dy l < 2147483399 := foldy_lt l 43 (by omega)
theorem fold_take (f : Nat → UInt8 → Nat) (l : List UInt8) (k : Nat) (h : k < l.length) (x : Nat) : (l.take (k + 1)).foldl f x = f ((l.take k).foldl f x) l[k] := by
  rw [List.take_succ_eq_append_getElem h, List.foldl_append]; rfl
/-- A byte of a number, as the program reckons it. -/
theorem byte_num (n : Nat) : UInt8.ofNat ((IntKind.u8.wrap (n : Int)).toNat) = UInt8.ofNat n := by
  have : IntKind.u8.wrap (n : Int) = ((n % 256 : Nat) : Int) := by
    simp [IntKind.wrap, IntKind.bits, IntKind.signed]
  rw [this, Int.toNat_natCast]
  apply UInt8.eq_of_toBitVec_eq
  simp [UInt8.ofNat, BitVec.ofNat, Fin.ofNat]
end Go.Proofs.Ytflpemagbempaaa.Dg
