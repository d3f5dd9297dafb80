/-
  Layer 3 (digest): the law's change of a byte.
-/
import Derived.Test.YtflpemagbempaaaDgS
namespace Go.Proofs.Ytflpemagbempaaa.Dg
open Go.RowKit
theorem conv1 (w : World) (x : Int) (T : TypeId) :
    (convert 32 9 (.slice (some ⟨w.heap.size, 0, none⟩) 1 1)).run Try.prog (w.alloc (.cells #[.int .u8 x] T)) = .ok (.string (strOfNums [x])) (w.alloc (.cells #[.int .u8 x] T)) := by
  refine run_convert_bytes_arg _ 32 5 u8s u8u w.heap.size 0 1 1 [x] rfl ?_ 9 strU
  intro i hi
  obtain rfl : i = 0 := by omega
  exact (by go_cell)
/-- A string in which one byte is replaced. -/
def chg (k : Nat) (x : Int) (s : ByteArray) : ByteArray := s.extract 0 k ++ strOfNums [x] ++ s.extract (k + 1) s.size
theorem extract_size (s : ByteArray) (a b : Nat) (h : b ≤ s.size) : (s.extract a b).size = b - a := by
  rw [size_list, Lib.extract_data, List.length_take, List.length_drop, ← size_list]; omega
theorem one_nums (x : Int) : (strOfNums [x]).size = 1 := rfl
theorem chg_size (k : Nat) (x : Int) (s : ByteArray) (h : k < s.size) : (chg k x s).size = s.size := by
  unfold chg
  rw [size_append, size_append, one_nums, extract_size s 0 k (by omega), extract_size s (k + 1) s.size (Nat.le_refl _)]
  omega
def chgO (at' : Nat) (x : Int) (s : ByteArray) : ByteArray := if s.size = 0 then s else chg (at' % s.size) x s
theorem chgO_size (at' : Nat) (x : Int) (s : ByteArray) : (chgO at' x s).size = s.size := by
  unfold chgO
  split
  · rfl
  · exact chg_size _ _ _ (Nat.mod_lt _ (by omega))
set_option maxRecDepth 100000 in
set_option maxHeartbeats 4000000 in
theorem change_any (S : ByteArray) (at' : Nat) (hat : at' < 256) (x : Int) (s : ByteArray) (hs : s.size ≤ 1000000) (w : World) :
    Calls Try.prog 17 #[.agg #[.string S, .int .u8 at', .int .u8 x], .string s] w fun e w' => e = .returned (.string (chgO at' x s)) ∧ Below w.heap.size w w' := by
  by_cases h0 : s.size = 0
  · have h1 : (s.size : Int) = 0 := by omega
    rw [show chgO at' x s = s by unfold chgO; rw [if_pos h0]]
    go_enter Try.func17, Try.ntmps17
    go_wp2_with fail
    go_ret
    exact ⟨rfl, by go_grown⟩
  · have h1 : ¬ (s.size : Int) = 0 := by omega
    have hk : at' % s.size < s.size := Nat.mod_lt _ (by omega)
    have hm : ((at' : Int)).tmod (s.size : Int) = ((at' % s.size : Nat) : Int) := by rw [Int.tmod_eq_emod_of_nonneg (by omega)]; omega
    have hm2 : ((at' : Int)) % (s.size : Int) = ((at' % s.size : Nat) : Int) := by omega
    have e1 := extract_size s 0 (at' % s.size) (by omega)
    have e2 := extract_size s (at' % s.size + 1) s.size (Nat.le_refl _)
    have c1 := fun w => run_string_add_sum (P := Try.prog) (w := w) (s.extract 0 (at' % s.size)) (strOfNums [x]) (by rw [e1, one_nums]; omega)
    have c2 := fun w => run_string_add_sum (P := Try.prog) (w := w) (s.extract 0 (at' % s.size) ++ strOfNums [x]) (s.extract (at' % s.size + 1) s.size) (by rw [size_append, e1, e2, one_nums]; omega)
    have C : Hid (chgO at' x s = s.extract 0 (at' % s.size) ++ strOfNums [x] ++ s.extract (at' % s.size + 1) s.size) := Lib.hid (by unfold chgO; rw [if_neg h0]; rfl)
    clear e1 e2
    generalize at' % s.size = k at *
    have cv := fun (W : World) => conv1 W x 5
    go_enter Try.func17, Try.ntmps17
    go_wp2_with fail
    have cA : (w.alloc (.cells #[.string S, .int .u8 at', .int .u8 x] 27)).cell? ⟨w.heap.size, 2, none⟩ = some (.int .u8 x) := by go_cell
    have hA : Below w.heap.size w (w.alloc (.cells #[.string S, .int .u8 at', .int .u8 x] 27)) := by go_grown
    generalize (w.alloc (.cells #[.string S, .int .u8 at', .int .u8 x] 27)) = V at *
    have cvV : (convert 32 9 (.slice (some ⟨V.heap.size, 0, none⟩) 1 1)).run Try.prog (V.alloc (.cells #[.int .u8 x] 5)).drew = .ok (.string (strOfNums [x])) (V.alloc (.cells #[.int .u8 x] 5)).drew := conv1 V.drew x 5
    have k0 : (0 : Int) ≤ k := by omega
    have k1 : (k : Int) ≤ s.size := by omega
    have k2 : (0 : Int) ≤ (k : Int) + 1 := by omega
    have k3 : (k : Int) + 1 ≤ s.size := by omega
    have k4 : RowKit.wrap64 ((k : Int) + 1) = (k : Int) + 1 := wrapi _ (by omega) (by omega)
    have k5 : IntKind.i64.wrap ((k : Int) + 1) = (k : Int) + 1 := IntWalk.i64_in _ (by omega)
    have k6 : ((k : Int) + 1).toNat = k + 1 := by omega
    go_region_with (fail)
    have hE : Below w.heap.size w (V.alloc (.cells #[.int .u8 x] 5)).drew := bd1 (ba hA _)
    go_wp2_with fail
    go_ret
    exact ⟨by rw [C.out]; rfl, hE⟩
end Go.Proofs.Ytflpemagbempaaa.Dg
