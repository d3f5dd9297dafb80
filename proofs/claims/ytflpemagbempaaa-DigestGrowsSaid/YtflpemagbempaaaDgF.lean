/-
  Layer 3 (digest): the document's own digests.
-/
import Derived.Test.YtflpemagbempaaaDgE
import Derived.DeepKeys
namespace Go.Proofs.Ytflpemagbempaaa.Dg
open Go.RowKit
theorem not_empty {k : ByteArray} (h : k ≠ ⟨#[]⟩) : k.toList.isEmpty = false := by
  rw [ByteArray.toList_eq]
  cases hk : k.data.toList with
  | nil => exact absurd (ByteArray.ext (by simpa using hk)) h
  | cons a l => rfl
theorem str_ne {x y : ByteArray} (h : ¬ x = y) : (x.toList == y.toList) = false := by
  rw [ByteArray.toList_eq, ByteArray.toList_eq, beq_eq_false_iff_ne]
  intro e
  exact h (ByteArray.ext (Array.toList_inj.1 e))
theorem str_eq {x y : ByteArray} (h : x = y) : (x.toList == y.toList) = true := by subst h; exact beq_self_eq_true _
theorem str_dec (x y : ByteArray) : (x.toList == y.toList) = decide (x = y) := by
  by_cases h : x = y
  · rw [decide_eq_true h, str_eq h]
  · rw [decide_eq_false h, str_ne h]
theorem wrapi (n : Int) (h0 : 0 ≤ n) (h1 : n < 9223372036854775808) : RowKit.wrap64 n = n := IntWalk.wrap64_in n (by omega)
theorem rstep_x (u : Nat) (c : UInt8) (h : u < 2147483563) : ((RowKit.wrap64 (RowKit.wrap64 (40014 * (u : Int) + RowKit.wrap64 (c.toNat : Int)) + 1)).tmod 2147483563) = ((sx u c : Nat) : Int) := by
  have hc := c.toNat_lt
  rw [wrapi (c.toNat : Int) (by omega) (by omega), wrapi (40014 * (u : Int) + c.toNat) (by omega) (by omega), wrapi _ (by omega) (by omega), Int.tmod_eq_emod_of_nonneg (by omega)]
  unfold sx
  omega
theorem rstep_y (u : Nat) (c : UInt8) (h : u < 2147483399) : ((RowKit.wrap64 (RowKit.wrap64 (40692 * (u : Int) + RowKit.wrap64 (c.toNat : Int)) + 1)).tmod 2147483399) = ((sy u c : Nat) : Int) := by
  have hc := c.toNat_lt
  rw [wrapi (c.toNat : Int) (by omega) (by omega), wrapi (40692 * (u : Int) + c.toNat) (by omega) (by omega), wrapi _ (by omega) (by omega), Int.tmod_eq_emod_of_nonneg (by omega)]
  unfold sy
  omega
def RefRel (w : World) (s : ByteArray) (s2 s3 s4 : Value) (wr : World) : Prop :=
  ∃ j : Nat, j ≤ s.size ∧ s2 = .int .i64 (dx (s.data.toList.take j) : Nat) ∧ s3 = .int .i64 (dy (s.data.toList.take j) : Nat) ∧ s4 = .int .i64 j ∧ wr = w
set_option maxHeartbeats 2000000 in
theorem rOf_any (s : ByteArray) (h : s.size ≤ 1000000) (w : World) :
    Calls Try.prog 13 #[.string s] w fun e w' => e = .returned (.string (D s)) ∧ Below w.heap.size w w' := by
  go_enter Try.func13, Try.ntmps13
  go_wp2_with fail
  go_loopw [3, 4, 5] (fun s2 s3 s4 wr => RefRel w s s2 s3 s4 wr) (fun _ _ s4 _ => s.size - (intOf s4).toNat)
  case atStart =>
    exact ⟨0, by omega, rfl, rfl, rfl, rfl⟩
  case round =>
    obtain ⟨j, hj, rfl, rfl, rfl, rfl⟩ := hrel
    rcases Nat.lt_or_ge j s.size with hjl | hjg
    · have hjs : j < s.data.toList.length := by rw [toList_length]; exact hjl
      have P1 : Hid (dx (s.data.toList.take (j + 1)) = sx (dx (s.data.toList.take j)) (s.data.toList[j])) := Lib.hid (fold_take sx _ _ hjs _)
      have P2 : Hid (dy (s.data.toList.take (j + 1)) = sy (dy (s.data.toList.take j)) (s.data.toList[j])) := Lib.hid (fold_take sy _ _ hjs _)
      have U := dx_lt (s.data.toList.take j)
      have V := dy_lt (s.data.toList.take j)
      have hg : s.data.toList[j] = s[j] := by rw [Array.getElem_toList]; rfl
      rw [hg] at P1 P2
      generalize dx (s.data.toList.take j) = u at *
      generalize dy (s.data.toList.take j) = v at *
      have S1 := rstep_x u s[j] U
      have S2 := rstep_y v s[j] V
      go_wp2_with fail
      go_roundw
      case rel => exact ⟨j + 1, by omega, by rw [P1.out], by rw [P2.out], by congr 1, rfl⟩
      case measure => simp [intOf]; omega
    · have hjs : j = s.size := by omega
      subst hjs
      rw [List.take_of_length_le (show s.data.toList.length ≤ s.size by rw [toList_length]; omega)]
      have X0 := dx_lt s.data.toList
      have Y0 := dy_lt s.data.toList
      have E : Hid (D s = B (w4 (dx s.data.toList)) ++ B (w4 (dy s.data.toList))) := Lib.hid (by rw [B_append]; rfl)
      generalize dx s.data.toList = x at *
      generalize dy s.data.toList = y at *
      have Wx := Lib.hid (bytes4_any x (by omega))
      have Wy := Lib.hid (bytes4_any y (by omega))
      have cat := fun w => run_string_add_sum (P := Try.prog) (w := w) (B (w4 x)) (B (w4 y)) (by rw [B_size, B_size, w4_length, w4_length]; decide)
      generalize B (w4 x) = sx at *
      generalize B (w4 y) = sy at *
      go_wp2_with fail
      refine (Wx.out _).mono ?_
      rintro e w1 ⟨rfl, hB1⟩
      go_wp2_with fail
      refine (Wy.out _).mono ?_
      rintro e w2 ⟨rfl, hB2⟩
      go_wp2_with fail
      go_ret
      exact ⟨by rw [E.out]; rfl, bt hB1 hB2⟩
theorem lit_u8 (b : UInt8) : (Lit.int .u8 b.toNat).wf = true := by
  have := b.toNat_lt
  simp [Lit.wf, IntKind.min, IntKind.max, IntKind.bits, IntKind.signed]; omega
theorem lit_in (b : UInt8) : Try.prog.keyLits 1 5 [.int .u8 b.toNat] = some [.int .u8 b.toNat] := by
  unfold Program.keyLits
  simp only [u8u, lit_u8, and_self, if_true]
theorem keys8 (x0 x1 x2 x3 x4 x5 x6 x7 : UInt8) : Try.prog.keyLits 2 52 [.int .u8 x0.toNat, .int .u8 x1.toNat, .int .u8 x2.toNat, .int .u8 x3.toNat, .int .u8 x4.toNat, .int .u8 x5.toNat, .int .u8 x6.toNat, .int .u8 x7.toNat] = some [.int .u8 x0.toNat, .int .u8 x1.toNat, .int .u8 x2.toNat, .int .u8 x3.toNat, .int .u8 x4.toNat, .int .u8 x5.toNat, .int .u8 x6.toNat, .int .u8 x7.toNat] := by
  have hu : Try.prog.underlying 52 = some (.array 8 5) := by kernel_rfl
  have c1 : Try.prog.cellsOf 52 = 8 := by kernel_rfl
  have c2 : Try.prog.cellsOf 5 = 1 := by kernel_rfl
  unfold Program.keyLits
  simp [hu, c1, c2, List.range_succ, lit_in]
theorem eq8 (x0 x1 x2 x3 x4 x5 x6 x7 q0 q1 q2 q3 q4 q5 q6 q7 : UInt8) (W : World) :
    (Op.equalIn 10000 52 (.agg #[.int .u8 x0.toNat, .int .u8 x1.toNat, .int .u8 x2.toNat, .int .u8 x3.toNat, .int .u8 x4.toNat, .int .u8 x5.toNat, .int .u8 x6.toNat, .int .u8 x7.toNat]) (.agg #[.int .u8 q0.toNat, .int .u8 q1.toNat, .int .u8 q2.toNat, .int .u8 q3.toNat, .int .u8 q4.toNat, .int .u8 q5.toNat, .int .u8 q6.toNat, .int .u8 q7.toNat])).run Try.prog W = .ok (decide ([x0, x1, x2, x3, x4, x5, x6, x7] = [q0, q1, q2, q3, q4, q5, q6, q7])) W := by
  obtain ⟨r, hr, hi⟩ := run_equalIn_deep (P := Try.prog) 9998 2 52 (by kernel_rfl) W 2 2 (.agg #[.int .u8 x0.toNat, .int .u8 x1.toNat, .int .u8 x2.toNat, .int .u8 x3.toNat, .int .u8 x4.toNat, .int .u8 x5.toNat, .int .u8 x6.toNat, .int .u8 x7.toNat]) (.agg #[.int .u8 q0.toNat, .int .u8 q1.toNat, .int .u8 q2.toNat, .int .u8 q3.toNat, .int .u8 q4.toNat, .int .u8 q5.toNat, .int .u8 q6.toNat, .int .u8 q7.toNat]) _ _ (by kernel_rfl) (by kernel_rfl) (keys8 x0 x1 x2 x3 x4 x5 x6 x7) (keys8 q0 q1 q2 q3 q4 q5 q6 q7)
  rw [hr]
  congr 1
  have hj : ∀ (a b : UInt8), (Lit.int .u8 a.toNat = Lit.int .u8 b.toNat) ↔ a = b := fun a b => by
    constructor
    · intro h; injection h with _ h; exact UInt8.toNat_inj.1 (by omega)
    · rintro rfl; rfl
  rw [Bool.eq_iff_iff, hi, decide_eq_true_iff]
  simp only [List.cons.injEq, hj, and_true]
set_option maxHeartbeats 2000000 in
theorem Check_no (k m x : ByteArray) (hx : x.size ≠ 8) (w : World) :
    Calls Try.prog 18 #[.string k, .string m, .string x] w fun e w' => e = .returned (.bool false) ∧ Below w.heap.size w w' := by
  have N := Lib.hid (parse_no x hx)
  rw [zero8] at N
  go_enter Try.func18, Try.ntmps18
  go_wp2_with fail
  refine (N.out _).mono ?_
  rintro e w1 ⟨rfl, hB1⟩
  replace hB1 : Below w.heap.size w (w1.alloc (.cells #[.int .u8 0, .int .u8 0, .int .u8 0, .int .u8 0, .int .u8 0, .int .u8 0, .int .u8 0, .int .u8 0] 52)) := ba hB1 _
  go_wp2_with fail
  go_quiet (fail)
  go_wp2_with fail
  go_ret
  exact ⟨rfl, bd hB1 _⟩
set_option maxHeartbeats 2000000 in
theorem Check_yes (k m x : ByteArray) (hk : k.size ≤ 1000000) (h : m.size ≤ 1000000) (hx : x.size = 8) (hke : k ≠ ⟨#[]⟩) (w : World) :
    Calls Try.prog 18 #[.string k, .string m, .string x] w fun e w' => e = .returned (.bool (decide (x.data.toList = mark k m))) ∧ Below w.heap.size w w' := by
  have N := Lib.hid (parse_yes x hx)
  have M := Lib.hid (markOf_any k m hk h)
  obtain ⟨q0, q1, q2, q3, q4, q5, q6, q7, hq⟩ := eight (rfl : (mark k m).length = 8)
  obtain ⟨x0, x1, x2, x3, x4, x5, x6, x7, hx'⟩ := eight (show x.data.toList.length = 8 by rw [toList_length]; exact hx)
  rw [hx', dval8] at N
  rw [hq, dval8] at M
  rw [hx', hq]
  clear hx' hq
  have hk2 := not_empty hke
  have EQ := eq8 x0 x1 x2 x3 x4 x5 x6 x7 q0 q1 q2 q3 q4 q5 q6 q7
  generalize decide ([x0, x1, x2, x3, x4, x5, x6, x7] = [q0, q1, q2, q3, q4, q5, q6, q7]) = r at *
  go_enter Try.func18, Try.ntmps18
  go_wp2_with fail
  refine (N.out _).mono ?_
  rintro e w1 ⟨rfl, hB1⟩
  go_wp2_with fail
  have cx0 : (w1.alloc (.cells #[.int .u8 x0.toNat, .int .u8 x1.toNat, .int .u8 x2.toNat, .int .u8 x3.toNat, .int .u8 x4.toNat, .int .u8 x5.toNat, .int .u8 x6.toNat, .int .u8 x7.toNat] 52)).cell? ⟨w1.heap.size, 0, none⟩ = some (.int .u8 x0.toNat) := by go_cell
  have cx1 : (w1.alloc (.cells #[.int .u8 x0.toNat, .int .u8 x1.toNat, .int .u8 x2.toNat, .int .u8 x3.toNat, .int .u8 x4.toNat, .int .u8 x5.toNat, .int .u8 x6.toNat, .int .u8 x7.toNat] 52)).cell? ⟨w1.heap.size, 1, none⟩ = some (.int .u8 x1.toNat) := by go_cell
  have cx2 : (w1.alloc (.cells #[.int .u8 x0.toNat, .int .u8 x1.toNat, .int .u8 x2.toNat, .int .u8 x3.toNat, .int .u8 x4.toNat, .int .u8 x5.toNat, .int .u8 x6.toNat, .int .u8 x7.toNat] 52)).cell? ⟨w1.heap.size, 2, none⟩ = some (.int .u8 x2.toNat) := by go_cell
  have cx3 : (w1.alloc (.cells #[.int .u8 x0.toNat, .int .u8 x1.toNat, .int .u8 x2.toNat, .int .u8 x3.toNat, .int .u8 x4.toNat, .int .u8 x5.toNat, .int .u8 x6.toNat, .int .u8 x7.toNat] 52)).cell? ⟨w1.heap.size, 3, none⟩ = some (.int .u8 x3.toNat) := by go_cell
  have cx4 : (w1.alloc (.cells #[.int .u8 x0.toNat, .int .u8 x1.toNat, .int .u8 x2.toNat, .int .u8 x3.toNat, .int .u8 x4.toNat, .int .u8 x5.toNat, .int .u8 x6.toNat, .int .u8 x7.toNat] 52)).cell? ⟨w1.heap.size, 4, none⟩ = some (.int .u8 x4.toNat) := by go_cell
  have cx5 : (w1.alloc (.cells #[.int .u8 x0.toNat, .int .u8 x1.toNat, .int .u8 x2.toNat, .int .u8 x3.toNat, .int .u8 x4.toNat, .int .u8 x5.toNat, .int .u8 x6.toNat, .int .u8 x7.toNat] 52)).cell? ⟨w1.heap.size, 5, none⟩ = some (.int .u8 x5.toNat) := by go_cell
  have cx6 : (w1.alloc (.cells #[.int .u8 x0.toNat, .int .u8 x1.toNat, .int .u8 x2.toNat, .int .u8 x3.toNat, .int .u8 x4.toNat, .int .u8 x5.toNat, .int .u8 x6.toNat, .int .u8 x7.toNat] 52)).cell? ⟨w1.heap.size, 6, none⟩ = some (.int .u8 x6.toNat) := by go_cell
  have cx7 : (w1.alloc (.cells #[.int .u8 x0.toNat, .int .u8 x1.toNat, .int .u8 x2.toNat, .int .u8 x3.toNat, .int .u8 x4.toNat, .int .u8 x5.toNat, .int .u8 x6.toNat, .int .u8 x7.toNat] 52)).cell? ⟨w1.heap.size, 7, none⟩ = some (.int .u8 x7.toNat) := by go_cell
  replace hB1 : Below w.heap.size w (w1.alloc (.cells #[.int .u8 x0.toNat, .int .u8 x1.toNat, .int .u8 x2.toNat, .int .u8 x3.toNat, .int .u8 x4.toNat, .int .u8 x5.toNat, .int .u8 x6.toNat, .int .u8 x7.toNat] 52)) := ba hB1 _
  generalize (w1.alloc (.cells #[.int .u8 x0.toNat, .int .u8 x1.toNat, .int .u8 x2.toNat, .int .u8 x3.toNat, .int .u8 x4.toNat, .int .u8 x5.toNat, .int .u8 x6.toNat, .int .u8 x7.toNat] 52)) = V at *
  have dx0 : ∀ W, Below V.heap.size V W → W.cell? ⟨w1.heap.size, 0, none⟩ = some (.int .u8 x0.toNat) := fun W h => kc h (block_lt_of_cell cx0) cx0
  have dx1 : ∀ W, Below V.heap.size V W → W.cell? ⟨w1.heap.size, 1, none⟩ = some (.int .u8 x1.toNat) := fun W h => kc h (block_lt_of_cell cx1) cx1
  have dx2 : ∀ W, Below V.heap.size V W → W.cell? ⟨w1.heap.size, 2, none⟩ = some (.int .u8 x2.toNat) := fun W h => kc h (block_lt_of_cell cx2) cx2
  have dx3 : ∀ W, Below V.heap.size V W → W.cell? ⟨w1.heap.size, 3, none⟩ = some (.int .u8 x3.toNat) := fun W h => kc h (block_lt_of_cell cx3) cx3
  have dx4 : ∀ W, Below V.heap.size V W → W.cell? ⟨w1.heap.size, 4, none⟩ = some (.int .u8 x4.toNat) := fun W h => kc h (block_lt_of_cell cx4) cx4
  have dx5 : ∀ W, Below V.heap.size V W → W.cell? ⟨w1.heap.size, 5, none⟩ = some (.int .u8 x5.toNat) := fun W h => kc h (block_lt_of_cell cx5) cx5
  have dx6 : ∀ W, Below V.heap.size V W → W.cell? ⟨w1.heap.size, 6, none⟩ = some (.int .u8 x6.toNat) := fun W h => kc h (block_lt_of_cell cx6) cx6
  have dx7 : ∀ W, Below V.heap.size V W → W.cell? ⟨w1.heap.size, 7, none⟩ = some (.int .u8 x7.toNat) := fun W h => kc h (block_lt_of_cell cx7) cx7
  clear cx0 cx1 cx2 cx3 cx4 cx5 cx6 cx7
  go_region_held3 (fun w' => Below V.heap.size V w') (first | (with_reducible exact bd1 (Below.refl _ _)) | (with_reducible exact bt (by assumption) hba))
    (first | ((with_reducible refine (M.out _).mono ?_); rintro en wa ⟨rfl, hba⟩))
  have hE := bt hB1 (by with_reducible assumption : Below V.heap.size V wa)
  go_wp2_with fail
  go_ret
  exact ⟨rfl, hE⟩
end Go.Proofs.Ytflpemagbempaaa.Dg
