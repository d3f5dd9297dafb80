/-
  Layer 3 (digest): four bytes of a number.
-/
import Derived.Test.YtflpemagbempaaaDgMath
import Derived.Laws.BitsLemmas
import Derived.Laws.BitsAllLaws
import Derived.IntWalk
import Derived.Deep.QuietTactic
import Derived.BigQuiet
import Derived.WalkLawsBesides
import Derived.WalkSpells
import Derived.ChangeAlike
import Derived.Handy
import Derived.OpenShut
import Derived.Deep.DeepCutAuto
import Derived.Outline
namespace Go.Proofs.Ytflpemagbempaaa.Dg
open Go.RowKit
theorem u8s : Try.prog.underlying 32 = some (.slice 5) := by kernel_rfl
theorem u8u : Try.prog.underlying 5 = some (.int .u8) := by kernel_rfl
theorem strU : Try.prog.underlying 9 = some .string := by kernel_rfl
theorem conv4 (w : World) (x y z u : Int) (T : TypeId) :
    (convert 32 9 (.slice (some ⟨w.heap.size, 0, none⟩) 4 4)).run Try.prog (w.alloc (.cells #[.int .u8 x, .int .u8 y, .int .u8 z, .int .u8 u] T)) =
      .ok (.string (strOfNums [x, y, z, u])) (w.alloc (.cells #[.int .u8 x, .int .u8 y, .int .u8 z, .int .u8 u] T)) := by
  refine run_convert_bytes_arg _ 32 5 u8s u8u w.heap.size 0 4 4 [x, y, z, u] rfl ?_ 9 strU
  intro i hi
  have : i = 0 ∨ i = 1 ∨ i = 2 ∨ i = 3 := by omega
  rcases this with rfl | rfl | rfl | rfl <;> exact (by go_cell)
theorem byte_of (n : Nat) : UInt8.ofNat ((n : Int) % 256).toNat = UInt8.ofNat n := by
  rw [show ((n : Int) % 256).toNat = n % 256 by omega]
  exact UInt8.ofNat_mod_size
theorem nums4 (n : Nat) : strOfNums [(n : Int) / 16777216 % 256, (n : Int) / 65536 % 256, (n : Int) / 256 % 256, (n : Int) % 256] = B (w4 n) := by
  have a := byte_of (n / 16777216)
  have b := byte_of (n / 65536)
  have c := byte_of (n / 256)
  have d := byte_of n
  rw [Int.natCast_ediv] at a b c
  unfold strOfNums B w4
  simp only [List.map_cons, List.map_nil]
  rw [← a, ← b, ← c, ← d]
  rfl
set_option maxHeartbeats 1000000 in
theorem word_any (n : Nat) (_h : n < 18446744073709551616) (w : World) :
    Calls Try.prog 43 #[.int .u64 n] w fun e w' => e = .returned (.string (B (w4 n))) ∧ Below w.heap.size w w' := by
  have cv := conv4 w ((n : Int) / 16777216 % 256) ((n : Int) / 65536 % 256) ((n : Int) / 256 % 256) ((n : Int) % 256)
  rw [nums4] at cv
  go_enter Try.func43, Try.ntmps43
  go_wp2
  go_ret
  exact ⟨rfl, by go_grown⟩
set_option maxHeartbeats 1000000 in
theorem bytes4_any (n : Nat) (_h : n < 9223372036854775808) (w : World) :
    Calls Try.prog 33 #[.int .i64 n] w fun e w' => e = .returned (.string (B (w4 n))) ∧ Below w.heap.size w w' := by
  have cv := conv4 w ((n : Int) / 16777216 % 256) ((n : Int) / 65536 % 256) ((n : Int) / 256 % 256) ((n : Int) % 256)
  rw [nums4] at cv
  go_enter Try.func33, Try.ntmps33
  go_wp2
  go_ret
  exact ⟨rfl, by go_grown⟩
set_option maxHeartbeats 1000000 in
theorem length_any (s : ByteArray) (h : s.size < 9223372036854775808) (w : World) :
    Calls Try.prog 34 #[.string s] w fun e w' => e = .returned (.string (B (w4 s.size))) ∧ Below w.heap.size w w' := by
  have C := Lib.hid (word_any s.size (by omega) w)
  go_enter Try.func34, Try.ntmps34
  go_wp2_with fail
  refine C.out.mono ?_
  rintro e w' ⟨rfl, hB⟩
  go_wp2
  go_ret
  exact ⟨rfl, hB⟩
end Go.Proofs.Ytflpemagbempaaa.Dg
