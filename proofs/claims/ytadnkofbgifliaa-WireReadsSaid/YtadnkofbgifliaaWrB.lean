/-
  Layer 2 (wire): the serialization of an integer.
-/
import Derived.Test.YtadnkofbgifliaaWrA
import Derived.Laws.BytesArg
import Derived.Deep.DeepCutAuto
import Derived.Outline
namespace Go.Proofs.Ytadnkofbgifliaa.Wr
open Go.RowKit

/-- The bytes before the last one. -/
def grp (c j : Nat) : Nat := c / 128 ^ j % 128 + 128
theorem enc_run (c : Nat) : ∀ k, (∀ j, j < k → 128 ≤ c / 128 ^ j) → encN c = (List.range k).map (fun j => UInt8.ofNat (grp c j)) ++ encN (c / 128 ^ k) := by
  intro k
  induction k with
  | zero => intro _; simp
  | succ k ih =>
    intro h
    rw [ih (fun j hj => h j (by omega)), List.range_succ, List.map_append, List.append_assoc]
    congr 1
    rw [encN_hi (h k (by omega)), Nat.div_div_eq_div_mul, ← Nat.pow_succ]
    rfl
/-- The bytes as numbers. -/
def nums (c k : Nat) : List Int := (List.range k).map (fun j => ((grp c j : Nat) : Int)) ++ [((c / 128 ^ k : Nat) : Int)]
theorem nums_length (c k : Nat) : (nums c k).length = k + 1 := by simp [nums]
theorem nums_lt (c k j : Nat) (h : j < k) : (nums c k).getD j 0 = ((grp c j : Nat) : Int) := by
  unfold nums
  rw [List.getD_eq_getElem?_getD, List.getElem?_append_left (by simpa using h)]
  simp [h]
theorem nums_at (c k : Nat) : (nums c k).getD k 0 = ((c / 128 ^ k : Nat) : Int) := by
  unfold nums
  rw [List.getD_eq_getElem?_getD, List.getElem?_append_right (by simp)]
  simp
theorem nums_enc (c k : Nat) (h : ∀ j, j < k → 128 ≤ c / 128 ^ j) (hk : c / 128 ^ k < 128) : strOfNums (nums c k) = ⟨(encN c).toArray⟩ := by
  rw [enc_run c k h, encN_lo hk]
  unfold strOfNums nums
  rw [List.map_append, List.map_map]
  rfl
/-- The serialization of an integer, as a string of the program. -/
def strI (n : Int) : ByteArray := ⟨(encI n).toArray⟩

def IntRel (w : World) (c : Nat) (s4 s5 : Value) (wr : World) : Prop :=
  ∃ k d : Nat, k ≤ 9 ∧ Hid (d = c / 128 ^ k) ∧ Hid (∀ j, j < k → 128 ≤ c / 128 ^ j) ∧ s4 = .int .u64 d ∧ s5 = .int .i64 k ∧
    Hid (∀ j, j < k → wr.cell? ⟨w.heap.size, j, none⟩ = some (.int .u8 (grp c j))) ∧ Hid (∀ j, j < 10 → ∃ v, wr.cell? ⟨w.heap.size, j, none⟩ = some (.int .u8 v) ∧ wr.frozen? ⟨w.heap.size, j, none⟩ = false) ∧
    Below w.heap.size w wr ∧ w.heap.size < wr.heap.size

theorem sc_same {w : World} {b o : Nat} {u : Value} (h : w.cell? ⟨b, o, none⟩ = some u) (v : Value) : (w.setCell ⟨b, o, none⟩ v).cell? ⟨b, o, none⟩ = some v := World.cell?_setCell_same w _ v h
theorem sc_off (w : World) {b o o' : Nat} (h : o ≠ o') (v : Value) : (w.setCell ⟨b, o, none⟩ v).cell? ⟨b, o', none⟩ = w.cell? ⟨b, o', none⟩ := World.cell?_setCell_other w _ _ v (by intro e; injection e; omega)
theorem sc_blk (w : World) {b o b' o' : Nat} (h : b ≠ b') (v : Value) : (w.setCell ⟨b, o, none⟩ v).cell? ⟨b', o', none⟩ = w.cell? ⟨b', o', none⟩ := World.cell?_setCell_other w _ _ v (by intro e; injection e; omega)
theorem sc_fz (w : World) (a : Addr) (b o : Nat) (v : Value) : (w.setCell a v).frozen? ⟨b, o, none⟩ = w.frozen? ⟨b, o, none⟩ := World.frozen?_setCell w _ _ v

theorem rel_start (w : World) (T : TypeId) (j : Nat) (hj : j < 10) (W : World) (hW : W = w.alloc (.cells #[.int .u8 0, .int .u8 0, .int .u8 0, .int .u8 0, .int .u8 0, .int .u8 0, .int .u8 0, .int .u8 0, .int .u8 0, .int .u8 0] T)) :
    ∃ v, W.cell? ⟨w.heap.size, j, none⟩ = some (.int .u8 v) ∧ W.frozen? ⟨w.heap.size, j, none⟩ = false := by
  refine ⟨0, ?_⟩
  rw [hW]
  have : j = 0 ∨ j = 1 ∨ j = 2 ∨ j = 3 ∨ j = 4 ∨ j = 5 ∨ j = 6 ∨ j = 7 ∨ j = 8 ∨ j = 9 := by omega
  rcases this with rfl | rfl | rfl | rfl | rfl | rfl | rfl | rfl | rfl | rfl <;> exact ⟨by go_cell, by go_cell⟩

theorem rel_round (w wr : World) (c k d : Nat) (hc : c < 18446744073709551616) (hk : k ≤ 9) (hd : d = c / 128 ^ k) (hg : ∀ j, j < k → 128 ≤ c / 128 ^ j) (hx : ∀ j, j < k → wr.cell? ⟨w.heap.size, j, none⟩ = some (.int .u8 (grp c j)))
    (hf : ∀ j, j < 10 → ∃ v, wr.cell? ⟨w.heap.size, j, none⟩ = some (.int .u8 v) ∧ wr.frozen? ⟨w.heap.size, j, none⟩ = false) (hB : Below w.heap.size w wr) (hz : w.heap.size < wr.heap.size) (hge : 128 ≤ d) :
    IntRel w c (.int .u64 ((d : Int) / 128)) (.int .i64 ((k : Int) + 1)) (wr.setCell ⟨w.heap.size, k, none⟩ (.int .u8 ((d : Int) % 128 + 128))) := by
  have hk8 : k ≤ 8 := by
    rcases Nat.lt_or_ge 8 k with h | h
    · have : k = 9 := by omega
      subst this
      have : c / 128 ^ 9 < 128 := by rw [Nat.div_lt_iff_lt_mul (by decide)]; omega
      omega
    · exact h
  refine ⟨k + 1, d / 128, by omega, Lib.hid ?_, Lib.hid ?_, by congr 1, by congr 1, Lib.hid ?_, Lib.hid ?_, hB.setCell (Nat.le_refl _) _, by simpa using hz⟩
  · rw [hd, Nat.div_div_eq_div_mul, Nat.pow_succ]
  · intro j hj
    rcases Nat.lt_or_eq_of_le (Nat.le_of_lt_succ hj) with h | h
    · exact hg j h
    · rw [h, ← hd]; exact hge
  · intro j hj
    rcases Nat.lt_or_eq_of_le (Nat.le_of_lt_succ hj) with h | h
    · rw [sc_off _ (by omega)]; exact hx j h
    · subst h
      obtain ⟨v, hv, _⟩ := hf j (by omega)
      rw [sc_same hv]
      congr 2
      unfold grp; rw [← hd]; omega
  · intro j hj
    obtain ⟨v, hv, fv⟩ := hf j hj
    by_cases h : k = j
    · subst h; exact ⟨_, sc_same hv _, by rw [sc_fz]; exact fv⟩
    · exact ⟨v, by rw [sc_off _ h]; exact hv, by rw [sc_fz]; exact fv⟩

theorem rel_end (n : Int) (w wr : World) (c k d : Nat) (hs : strI n = ⟨(encN c).toArray⟩) (hd : d = c / 128 ^ k) (hg : ∀ j, j < k → 128 ≤ c / 128 ^ j) (hx : ∀ j, j < k → wr.cell? ⟨w.heap.size, j, none⟩ = some (.int .u8 (grp c j)))
    (v : Int) (hv : wr.cell? ⟨w.heap.size, k, none⟩ = some (.int .u8 v)) (hlt : d < 128) :
    (convert 31 9 (.slice (some ⟨w.heap.size, 0, none⟩) (k + 1) 10)).run Try.prog (wr.setCell ⟨w.heap.size, k, none⟩ (.int .u8 (d : Int))) = .ok (.string (strI n)) (wr.setCell ⟨w.heap.size, k, none⟩ (.int .u8 (d : Int))) := by
  have h := run_convert_bytes_arg (P := Try.prog) (wr.setCell ⟨w.heap.size, k, none⟩ (.int .u8 (d : Int))) 31 5 Try.underlying31 Try.underlying5 w.heap.size 0 (k + 1) 10 (nums c k) (nums_length c k) (fun i hi => by
    rw [Nat.zero_add]
    rcases Nat.lt_or_eq_of_le (Nat.le_of_lt_succ hi) with h | h
    · rw [sc_off _ (by omega), hx i h, nums_lt c k i h]
    · subst h
      rw [sc_same hv, nums_at, ← hd]) 9 Try.underlying9
  rw [h, nums_enc c k hg (by omega), hs]

theorem arr10 : Try.prog.arrayLen 58 = 10 := by kernel_rfl
theorem arr8 : Try.prog.elem 58 = 5 := by kernel_rfl
theorem size8 (w : World) : (sizeOf 5).run Try.prog w = .ok 1 w := by kernel_rfl
theorem slice_head (b k : Nat) (hk : k ≤ 9) (W : World) :
    (Instr.sliceAt 58 (.pointer (some ⟨b, 0, none⟩)) none (some (.int .i64 ((k : Int) + 1))) none).run Try.prog W = .ok (.slice (some ⟨b, 0, none⟩) (k + 1) 10) W := by
  have h := run_sliceAt_array_h (P := Try.prog) W 58 ⟨b, 0, none⟩ (by rw [arr10, arr8]; exact Try.underlying58) .i64 ((k : Int) + 1) (by omega) (by rw [arr10]; omega)
  rw [h, arr8, size8, arr10]
  simp only [Result.andThen, slicedAt]
  rw [if_neg (by omega)]
  congr 2

set_option maxRecDepth 100000 in
set_option maxHeartbeats 2000000 in
theorem int_any (n : Int) (h : -9223372036854775808 ≤ n ∧ n ≤ 9223372036854775807) (w : World) :
    Calls Try.prog 12 #[.int .i64 n] w fun e w' => e = .returned (.string (strI n)) ∧ Below w.heap.size w w' := by
  have hc := zz_lt n h
  have C := Lib.hid (codeOf_any n h)
  have T : Hid (strI n = ⟨(encN (zz n)).toArray⟩) := Lib.hid rfl
  generalize zz n = c at *
  go_enter Try.func12, Try.ntmps12
  go_wp2_with fail
  refine (C.out _).mono ?_
  rintro e w' ⟨rfl, rfl⟩
  clear C
  go_wp2_with fail
  go_loopw [4, 5] (fun s4 s5 wr => IntRel w c s4 s5 wr) (fun s4 _ _ => (intOf s4).toNat)
  case atStart =>
    exact ⟨0, c, by omega, Lib.hid (by simp), Lib.hid (fun j hj => by omega), rfl, rfl, Lib.hid (fun j hj => by omega), Lib.hid (fun j hj => rel_start w _ j hj _ rfl), by go_grown, by simp⟩
  case round =>
    obtain ⟨k, d, hk, hd, hg, rfl, rfl, hx, hf, hB, hz⟩ := hrel
    obtain ⟨v, hv, fv⟩ := hf.out k (by omega)
    rcases Nat.lt_or_ge d 128 with hlt | hge
    · have hdi : (d : Int) < 128 := by omega
      have hsl := slice_head w.heap.size k hk
      have hconv := rel_end n w wr c k d T.out hd.out hg.out hx.out v hv hlt
      go_wp2
      go_ret
      exact ⟨rfl, hB.setCell (Nat.le_refl _) _⟩
    · have hdi : (128 : Int) ≤ d := by omega
      have R := Lib.hid (rel_round w wr c k d hc hk hd.out hg.out hx.out hf.out hB hz hge)
      go_wp2
      go_roundw
      case rel => exact R.out
      case measure => simp [intOf]; omega
end Go.Proofs.Ytadnkofbgifliaa.Wr
