/-
  Layer 4 (bitmap): mathematics of texts.
-/
import Derived.Test.YtfkpodhkbcocmaaBmT
namespace Go.Proofs.Ytfkpodhkbcocmaa.Bm
open Go.RowKit
theorem row_at (f : Nat → Bool) (p j x : Nat) (h : x < j) : (row f p j)[x]? = some (ch (f (p + x))) := by
  unfold row
  simp [h]
theorem tx_at (W H : Nat) (f : Nat → Bool) (x r : Nat) (hx : x < W) : ∀ m, r < m → (tx W H f m)[r * (W + 1) + x]? = some (ch (f ((H - 1 - r) * W + x)))
  | 0, h => absurd h (by omega)
  | m + 1, h => by
    rw [tx, List.append_assoc]
    rcases Nat.lt_or_ge r m with h1 | h1
    · have h2 : r * (W + 1) + x < (tx W H f m).length := by
        rw [tx_len]
        have : (r + 1) * (W + 1) ≤ m * (W + 1) := Nat.mul_le_mul_right _ h1
        rw [Nat.succ_mul] at this
        omega
      rw [List.getElem?_append_left h2]
      exact tx_at W H f x r hx m h1
    · obtain rfl : r = m := by omega
      rw [List.getElem?_append_right (by rw [tx_len]; omega), tx_len, List.getElem?_append_left (by rw [row_len]; omega), Nat.add_sub_cancel_left]
      exact row_at _ _ _ _ hx
theorem tx_pos {W H k : Nat} (f : Nat → Bool) (hk : k < W * H) : (tx W H f H)[pos W H k]? = some (ch (f k)) := by
  have hW : 0 < W := Nat.pos_of_ne_zero (fun h => by rw [h, Nat.zero_mul] at hk; omega)
  have hy : k / W < H := Nat.div_lt_of_lt_mul hk
  have hd := Nat.div_add_mod k W
  have hx := Nat.mod_lt k hW
  unfold pos
  generalize k / W = y at *
  generalize k % W = x at *
  have := tx_at W H f x (H - 1 - y) hx H (by omega)
  rw [this, show H - 1 - (H - 1 - y) = y by omega, Nat.mul_comm, hd]
theorem ch_is (v : Bool) : (ch v == 35) = v := by cases v <;> rfl
theorem pf_tx {W H k : Nat} {s : ByteArray} {f : Nat → Bool} (hs : s.data.toList = tx W H f H) (hk : k < W * H) : pf s W H k = f k := by
  unfold pf
  rw [hs, List.getD_eq_getElem?_getD, tx_pos f hk]
  exact ch_is _
theorem row_congr {f g : Nat → Bool} {p j : Nat} (h : ∀ i, i < j → f (p + i) = g (p + i)) : row f p j = row g p j := by
  unfold row
  apply List.map_congr_left
  intro i hi
  rw [h i (List.mem_range.1 hi)]
theorem tx_congr {W H : Nat} {f g : Nat → Bool} (h : ∀ i, i < W * H → f i = g i) : ∀ m, m ≤ H → tx W H f m = tx W H g m
  | 0, _ => rfl
  | m + 1, hm => by
    rw [tx, tx, tx_congr h m (by omega), row_congr]
    intro i hi
    apply h
    have : (H - 1 - m + 1) * W ≤ H * W := Nat.mul_le_mul_right _ (by omega)
    rw [Nat.succ_mul, Nat.mul_comm H W] at this
    omega
theorem pt_tx {W H : Nat} (f : Nat → Bool) (hW : 1 ≤ W ∧ W ≤ 96) (hH : 1 ≤ H ∧ H ≤ 96) : PT ⟨(tx W H f H).toArray⟩ W H :=
  ⟨hW.1, hW.2, hH.1, hH.2, by
    rw [tx_congr (fun i hi => pf_tx (f := f) (by simp) hi) H (Nat.le_refl _)]⟩
theorem no_tx {W H : Nat} (f : Nat → Bool) (h : W = 0 ∨ H = 0) (W' H' : Nat) : ¬ PT ⟨(tx W H f H).toArray⟩ W' H' := by
  intro hp
  obtain ⟨i1, _⟩ := pt_index hp
  obtain ⟨p1, p2, p3, p4, p5⟩ := hp
  rcases Nat.eq_zero_or_pos H with h0 | h0
  · subst h0
    have := congrArg List.length p5
    rw [tx_len, show (⟨(tx W 0 f 0).toArray⟩ : ByteArray).data.toList.length = 0 from rfl] at this
    have h9 : 1 * 1 ≤ H' * (W' + 1) := Nat.mul_le_mul p3 (by omega)
    rw [this] at h9
    omega
  · have hW : W = 0 := by omega
    subst hW
    obtain ⟨k, rfl⟩ : ∃ k, H = k + 1 := ⟨H - 1, by omega⟩
    obtain ⟨r, hr⟩ := tx_first 0 (k + 1) f k
    simp only at i1
    rw [hr] at i1
    have : row f ((k + 1 - 1) * 0) 0 = [] := by unfold row; rfl
    rw [this, List.nil_append, show (10 :: r : List UInt8) = [] ++ 10 :: r from rfl, indexByte_at _ _ (fun x hx => by cases hx)] at i1
    simp at i1
    omega
theorem tx_size (W H : Nat) (f : Nat → Bool) : (⟨(tx W H f H).toArray⟩ : ByteArray).size = H * (W + 1) := by
  show (tx W H f H).toArray.size = _
  rw [List.size_toArray, tx_len]
/-- A byte of the first row. -/
theorem tx_top {W H : Nat} (f : Nat → Bool) {i : Nat} (hi : i < W) (hH : 0 < H) (h : i < (⟨(tx W H f H).toArray⟩ : ByteArray).size) : (((⟨(tx W H f H).toArray⟩ : ByteArray)[i]'h).toNat : Int) = (ch (f ((H - 1) * W + i))).toNat := by
  have := tx_at W H f i 0 hi H hH
  rw [Nat.zero_mul, Nat.zero_add, Nat.sub_zero] at this
  have e : ((⟨(tx W H f H).toArray⟩ : ByteArray)[i]'h) = ch (f ((H - 1) * W + i)) := by
    have h2 : i < (tx W H f H).length := by rw [tx_size] at h; rw [tx_len]; exact h
    have h3 : (tx W H f H)[i]? = some ((tx W H f H)[i]'h2) := List.getElem?_eq_getElem h2
    rw [this] at h3
    exact (Option.some.inj h3).symm
  rw [e]
/-- The document's dot in the highest row. -/
theorem has_top {W H : Nat} (f : Nat → Bool) {i : Nat} (hW : W ≤ 96) (hH : H ≤ 96) (hi : i < W) (h0 : 0 < H) : has W H (W * H) f i ((H : Int) - 1) = f ((H - 1) * W + i) := by
  unfold has
  rw [(gd_iff _ _ _).2 ⟨by omega, by omega, by simp⟩, (ins_iff _ _ _ _).2 ⟨by omega, by omega, by omega, by omega⟩, Bool.true_and, Bool.true_and]
  congr 1
  have : ((H : Int) - 1) * W + i = ((H - 1) * W + i : Nat) := by
    rw [Int.natCast_add, Int.natCast_mul, show ((H - 1 : Nat) : Int) = (H : Int) - 1 by omega]
  rw [this, Int.toNat_natCast]
end Go.Proofs.Ytfkpodhkbcocmaa.Bm
