/-
  Layer 9 (machine): the table of kinds.
-/
import Derived.Test.YtdgagjcocohnnaaMcA
import Derived.Deep.WholeRow
namespace Go.Proofs.Ytdgagjcocohnnaa.Mc
open Go.RowKit
/-- What all operations with the same Code have in common. -/
structure Knd where
  uN : Bool
  uM : Bool
  oP : Bool
  ta : Nat
  pu : Nat
  fn : Nat
def knds : List Knd := [⟨false, false, false, 0, 0, 0⟩, ⟨true, false, false, 0, 1, 36⟩, ⟨false, false, false, 2, 1, 37⟩, ⟨false, false, false, 2, 1, 38⟩, ⟨false, false, false, 2, 1, 39⟩, ⟨false, false, false, 2, 1, 40⟩, ⟨false, false, false, 1, 1, 41⟩, ⟨false, false, false, 1, 1, 42⟩, ⟨false, false, false, 1, 1, 43⟩, ⟨false, false, false, 0, 1, 44⟩, ⟨true, false, true, 0, 1, 45⟩, ⟨true, false, true, 0, 1, 46⟩, ⟨true, false, true, 1, 0, 47⟩, ⟨true, false, true, 1, 0, 48⟩, ⟨true, false, false, 1, 0, 49⟩, ⟨true, true, false, 0, 0, 50⟩]
def kd (k : Nat) : Knd := knds.getD k ⟨false, false, false, 0, 0, 0⟩
/-- The table, as the program's value. -/
def KV : Array Value := ([.bool false, .bool false, .bool false, .int .i64 0, .int .i64 0, .nilFunc, .bool true, .bool false, .bool false, .int .i64 0, .int .i64 1, .func (Fn.func 36) #[] #[], .bool false, .bool false, .bool false, .int .i64 2, .int .i64 1, .func (Fn.func 37) #[] #[], .bool false, .bool false, .bool false, .int .i64 2, .int .i64 1, .func (Fn.func 38) #[] #[], .bool false, .bool false, .bool false, .int .i64 2, .int .i64 1, .func (Fn.func 39) #[] #[], .bool false, .bool false, .bool false, .int .i64 2, .int .i64 1, .func (Fn.func 40) #[] #[], .bool false, .bool false, .bool false, .int .i64 1, .int .i64 1, .func (Fn.func 41) #[] #[], .bool false, .bool false, .bool false, .int .i64 1, .int .i64 1, .func (Fn.func 42) #[] #[], .bool false, .bool false, .bool false, .int .i64 1, .int .i64 1, .func (Fn.func 43) #[] #[], .bool false, .bool false, .bool false, .int .i64 0, .int .i64 1, .func (Fn.func 44) #[] #[], .bool true, .bool false, .bool true, .int .i64 0, .int .i64 1, .func (Fn.func 45) #[] #[], .bool true, .bool false, .bool true, .int .i64 0, .int .i64 1, .func (Fn.func 46) #[] #[], .bool true, .bool false, .bool true, .int .i64 1, .int .i64 0, .func (Fn.func 47) #[] #[], .bool true, .bool false, .bool true, .int .i64 1, .int .i64 0, .func (Fn.func 48) #[] #[], .bool true, .bool false, .bool false, .int .i64 1, .int .i64 0, .func (Fn.func 49) #[] #[], .bool true, .bool true, .bool false, .int .i64 0, .int .i64 0, .func (Fn.func 50) #[] #[]] : List Value).toArray
theorem kv_size : KV.size = 96 := by kernel_rfl
theorem kv_row (k : Nat) (h1 : 1 ≤ k) (h : k < 16) : KV[k * 6]? = some (.bool (kd k).uN) ∧ KV[k * 6 + 1]? = some (.bool (kd k).uM) ∧ KV[k * 6 + 2]? = some (.bool (kd k).oP) ∧ KV[k * 6 + 3]? = some (.int .i64 (kd k).ta) ∧ KV[k * 6 + 4]? = some (.int .i64 (kd k).pu) ∧ KV[k * 6 + 5]? = some (.func (Fn.func (kd k).fn) #[] #[]) := by
  obtain rfl | rfl | rfl | rfl | rfl | rfl | rfl | rfl | rfl | rfl | rfl | rfl | rfl | rfl | rfl : k = 1 ∨ k = 2 ∨ k = 3 ∨ k = 4 ∨ k = 5 ∨ k = 6 ∨ k = 7 ∨ k = 8 ∨ k = 9 ∨ k = 10 ∨ k = 11 ∨ k = 12 ∨ k = 13 ∨ k = 14 ∨ k = 15 := by omega
  all_goals exact ⟨by kernel_rfl, by kernel_rfl, by kernel_rfl, by kernel_rfl, by kernel_rfl, by kernel_rfl⟩
theorem kv_one : KV.all (·.oneCell') = true := by kernel_rfl
theorem agg_kv (V : World) : (isAgg 65).run Try.prog V = .ok true V := by simp [go_sem]
theorem size_kv (V : World) : (sizeOf 65).run Try.prog V = .ok 96 V := by simp [go_sem]
theorem res_kv (fn : Func) (hr : fn.results = #[.cell 0 65]) (w : World) (K : Array Value) (hK : K.size = 96) (tm : Array Value) (h2 : tm.getD 0 undef = .pointer (some ⟨w.heap.size, 0, none⟩)) :
    (results fn tm).run Try.prog (w.alloc (.cells K 65)) = .ok (.agg K) (w.alloc (.cells K 65)) := by
  have h3 := run_loadCellsFrom_new (P := Try.prog) w 65 K 96 hK
  have h4 := agg_kv
  have h5 := size_kv
  generalize (w.alloc (.cells K 65)) = V at *
  obtain ⟨n, hn⟩ : ∃ n, n = 96 := ⟨_, rfl⟩
  rw [← hn] at h3 h5
  clear hn hK
  rw [results, hr]
  simp only [Array.getD_eq_getD_getElem?] at h2
  simp only [Array.getD_eq_getD_getElem?]
  simp [h2, h3, h4, h5, Sem.run_bind, Result.andThen, asAddr, loadVar, loadCells]
set_option maxRecDepth 100000 in
set_option maxHeartbeats 4000000 in
theorem kinds_any (w : World) : Calls Try.prog 26 #[] w fun r w' => r = .returned (.agg KV) ∧ Below w.heap.size w w' := by
  have hKV : ((((((((((((((((((((((((((((((((((((((((((((((((((((((((((((((((((((((((((((((((((((((((((Try.zeroCells65.setIfInBounds 6 (.bool true)).setIfInBounds 7 (.bool false)).setIfInBounds 8 (.bool false)).setIfInBounds 9 (.int .i64 0)).setIfInBounds 10 (.int .i64 1)).setIfInBounds 11 (.func (Fn.func 36) #[] #[])).setIfInBounds 12 (.bool false)).setIfInBounds 13 (.bool false)).setIfInBounds 14 (.bool false)).setIfInBounds 15 (.int .i64 2)).setIfInBounds 16 (.int .i64 1)).setIfInBounds 17 (.func (Fn.func 37) #[] #[])).setIfInBounds 18 (.bool false)).setIfInBounds 19 (.bool false)).setIfInBounds 20 (.bool false)).setIfInBounds 21 (.int .i64 2)).setIfInBounds 22 (.int .i64 1)).setIfInBounds 23 (.func (Fn.func 38) #[] #[])).setIfInBounds 24 (.bool false)).setIfInBounds 25 (.bool false)).setIfInBounds 26 (.bool false)).setIfInBounds 27 (.int .i64 2)).setIfInBounds 28 (.int .i64 1)).setIfInBounds 29 (.func (Fn.func 39) #[] #[])).setIfInBounds 30 (.bool false)).setIfInBounds 31 (.bool false)).setIfInBounds 32 (.bool false)).setIfInBounds 33 (.int .i64 2)).setIfInBounds 34 (.int .i64 1)).setIfInBounds 35 (.func (Fn.func 40) #[] #[])).setIfInBounds 36 (.bool false)).setIfInBounds 37 (.bool false)).setIfInBounds 38 (.bool false)).setIfInBounds 39 (.int .i64 1)).setIfInBounds 40 (.int .i64 1)).setIfInBounds 41 (.func (Fn.func 41) #[] #[])).setIfInBounds 42 (.bool false)).setIfInBounds 43 (.bool false)).setIfInBounds 44 (.bool false)).setIfInBounds 45 (.int .i64 1)).setIfInBounds 46 (.int .i64 1)).setIfInBounds 47 (.func (Fn.func 42) #[] #[])).setIfInBounds 48 (.bool false)).setIfInBounds 49 (.bool false)).setIfInBounds 50 (.bool false)).setIfInBounds 51 (.int .i64 1)).setIfInBounds 52 (.int .i64 1)).setIfInBounds 53 (.func (Fn.func 43) #[] #[])).setIfInBounds 54 (.bool false)).setIfInBounds 55 (.bool false)).setIfInBounds 56 (.bool false)).setIfInBounds 57 (.int .i64 0)).setIfInBounds 58 (.int .i64 1)).setIfInBounds 59 (.func (Fn.func 44) #[] #[])).setIfInBounds 60 (.bool true)).setIfInBounds 61 (.bool false)).setIfInBounds 62 (.bool true)).setIfInBounds 63 (.int .i64 0)).setIfInBounds 64 (.int .i64 1)).setIfInBounds 65 (.func (Fn.func 45) #[] #[])).setIfInBounds 66 (.bool true)).setIfInBounds 67 (.bool false)).setIfInBounds 68 (.bool true)).setIfInBounds 69 (.int .i64 0)).setIfInBounds 70 (.int .i64 1)).setIfInBounds 71 (.func (Fn.func 46) #[] #[])).setIfInBounds 72 (.bool true)).setIfInBounds 73 (.bool false)).setIfInBounds 74 (.bool true)).setIfInBounds 75 (.int .i64 1)).setIfInBounds 76 (.int .i64 0)).setIfInBounds 77 (.func (Fn.func 47) #[] #[])).setIfInBounds 78 (.bool true)).setIfInBounds 79 (.bool false)).setIfInBounds 80 (.bool true)).setIfInBounds 81 (.int .i64 1)).setIfInBounds 82 (.int .i64 0)).setIfInBounds 83 (.func (Fn.func 48) #[] #[])).setIfInBounds 84 (.bool true)).setIfInBounds 85 (.bool false)).setIfInBounds 86 (.bool false)).setIfInBounds 87 (.int .i64 1)).setIfInBounds 88 (.int .i64 0)).setIfInBounds 89 (.func (Fn.func 49) #[] #[])).setIfInBounds 90 (.bool true)).setIfInBounds 91 (.bool true)).setIfInBounds 92 (.bool false)).setIfInBounds 93 (.int .i64 0)).setIfInBounds 94 (.int .i64 0)).setIfInBounds 95 (.func (Fn.func 50) #[] #[])) = KV := by kernel_rfl
  have h1 := run_storeCells_new (P := Try.prog) w 65 Try.zeroCells65 KV (by kernel_rfl) (by kernel_rfl) kv_one
  have h2 := run_loadCellsFrom_new (P := Try.prog) w 65 KV 96 kv_size
  have h3 := kv_size
  generalize KV = K at *
  go_enter Try.func26, Try.ntmps26
  go_wp2
  exact bodyPost_ret (res_kv _ Try.results26 _ _ h3 _ rfl) rfl ⟨rfl, ba (Below.refl _ _) _⟩
end Go.Proofs.Ytdgagjcocohnnaa.Mc
