/-
  Layer 3 (digest): a list that is longer by one string.
-/
import Derived.Test.YtflpemagbempaaaDgPa
namespace Go.Proofs.Ytflpemagbempaaa.Dg
open Go.RowKit
theorem lv_same (g f : Nat → List UInt8) : ∀ (k j : Nat), (∀ t, j * 2 ^ k ≤ t → t < (j + 1) * 2 ^ k → g t = f t) → lv g k j = lv f k j
  | 0, j, h => h j (by simp) (by simp)
  | k + 1, j, h => by
    have e1 : 2 * j * 2 ^ k = j * 2 ^ (k + 1) := by rw [Nat.pow_succ, Nat.mul_comm 2 j, Nat.mul_assoc, Nat.mul_comm 2]
    have e2 : (2 * j + 2) * 2 ^ k = (j + 1) * 2 ^ (k + 1) := by rw [Nat.pow_succ, show 2 * j + 2 = (j + 1) * 2 by omega, Nat.mul_assoc, Nat.mul_comm 2]
    have e3 : (2 * j + 1) * 2 ^ k = 2 * j * 2 ^ k + 2 ^ k := by rw [Nat.add_mul, Nat.one_mul]
    have e4 : (2 * j + 2) * 2 ^ k = (2 * j + 1) * 2 ^ k + 2 ^ k := by rw [show 2 * j + 2 = (2 * j + 1) + 1 by omega, Nat.add_mul (2 * j + 1) 1, Nat.one_mul]
    show up (lv g k) j = up (lv f k) j
    unfold up
    rw [lv_same g f k (2 * j) (fun t h1 h2 => h t (by rw [← e1]; exact h1) (Nat.lt_of_lt_of_le h2 (by rw [← e2, e4]; exact Nat.le_add_right _ _))),
      lv_same g f k (2 * j + 1) (fun t h1 h2 => h t (Nat.le_trans (by rw [← e1, e3]; exact Nat.le_add_right _ _) h1) (by rw [← e2]; exact h2))]
theorem g0_more (l : List ByteArray) (s : ByteArray) (t : Nat) (h : t ≠ l.length) : g0 l t = g0 (l ++ [s]) t := by
  unfold g0
  rw [List.length_append, List.length_singleton]
  rcases Nat.lt_or_ge t l.length with h1 | h1
  · rw [if_pos h1, if_pos (by omega), List.getD_eq_getElem?_getD, List.getD_eq_getElem?_getD, List.getElem?_append_left h1]
  · rw [if_neg (by omega), if_neg (by omega)]
/-- A digest that the new string does not belong to is as it was. -/
theorem lv_more (l : List ByteArray) (s : ByteArray) (k j : Nat) (h : l.length / 2 ^ k ≠ j) : lv (g0 l) k j = lv (g0 (l ++ [s])) k j := by
  refine lv_same _ _ k j (fun t h1 h2 => g0_more l s t ?_)
  rintro rfl
  exact h (Nat.div_eq_of_lt_le h1 h2)
theorem nb_ne (j : Nat) : nb j ≠ j := by unfold nb; split <;> omega
theorem nb_half (j : Nat) : nb j / 2 = j / 2 := by unfold nb; split <;> omega
theorem only_one {i n k m : Nat} (hkm : k < m) (h1 : nb (i / 2 ^ k) = n / 2 ^ k) (h2 : nb (i / 2 ^ m) = n / 2 ^ m) : False := by
  have e1 : i / 2 ^ (k + 1) = n / 2 ^ (k + 1) := by
    rw [Nat.pow_succ, ← Nat.div_div_eq_div_mul, ← Nat.div_div_eq_div_mul, ← h1, nb_half]
  obtain ⟨d, rfl⟩ : ∃ d, m = (k + 1) + d := ⟨m - (k + 1), by omega⟩
  rw [Nat.pow_add, ← Nat.div_div_eq_div_mul, ← Nat.div_div_eq_div_mul, e1] at h2
  exact nb_ne _ h2
/-- How many of the first elements differ. -/
def diffs (a b : List ByteArray) : Nat → Nat
  | 0 => 0
  | k + 1 => diffs a b k + (if a[k]? = b[k]? then 0 else 1)
theorem diffs_zero (a b : List ByteArray) : ∀ n, (∀ k, k < n → a[k]? = b[k]?) → diffs a b n = 0
  | 0, _ => rfl
  | n + 1, h => by rw [diffs, diffs_zero a b n (fun k hk => h k (by omega)), if_pos (h n (by omega))]
theorem diffs_one (a b : List ByteArray) : ∀ n, (∀ k m, k < m → m < n → a[k]? = b[k]? ∨ a[m]? = b[m]?) → diffs a b n ≤ 1
  | 0, _ => by simp [diffs]
  | n + 1, h => by
    rw [diffs]
    by_cases hn : a[n]? = b[n]?
    · rw [if_pos hn]; exact diffs_one a b n (fun k m h1 h2 => h k m h1 (by omega))
    · rw [if_neg hn, diffs_zero a b n (fun k hk => (h k n hk (by omega)).resolve_right hn)]
      omega
theorem pfl_get (l : List ByteArray) (H i k : Nat) (h : k < H) : (pfl l H i)[k]? = some (B (lv (g0 l) k (nb (i / 2 ^ k)))) := by simp [pfl, h]
theorem pfl_same (l : List ByteArray) (s : ByteArray) (H H' i k : Nat) (h : k < H) (h' : k < H') (hn : l.length / 2 ^ k ≠ nb (i / 2 ^ k)) : (pfl l H i)[k]? = (pfl (l ++ [s]) H' i)[k]? := by
  rw [pfl_get l H i k h, pfl_get _ H' i k h', lv_more l s k _ hn]
theorem ht_more : ∀ n : Nat, n < 21 → 1 ≤ n → (if n = 2 ^ ht n then ht (n + 1) = ht n + 1 else ht (n + 1) = ht n) := by decide
theorem full_is : ∀ n : Nat, n < 21 → 1 ≤ n → (bits .and .i64 (n : Int) ((n : Int) - 1) == 0) = decide (n = 2 ^ ht n) := by decide
/-- With more levels, all elements stay. -/
theorem grows_full (l : List ByteArray) (s : ByteArray) (i H' : Nat) (hi : i < l.length) (hf : l.length = 2 ^ ht l.length) (hH : ht l.length ≤ H') : diffs (pfl l (ht l.length) i) (pfl (l ++ [s]) H' i) (ht l.length) = 0 := by
  refine diffs_zero _ _ _ (fun k hk => pfl_same l s _ _ i k hk (by omega) ?_)
  have h1 := nb_lt (j := i / 2 ^ k) (m := cnt l.length (k + 1)) (by rw [← cnt_next hk]; exact idx_lt hi (by omega))
  rw [← cnt_next hk] at h1
  have h2 : l.length / 2 ^ k = cnt l.length k := by
    unfold cnt
    generalize hh : ht l.length = h at *
    rw [hf, show h = (h - k) + k by omega, Nat.pow_add, Nat.mul_div_cancel _ (Nat.pow_pos (by omega)), show h - k + k - k = h - k by omega]
  omega
/-- With as many levels, one element at most is another one. -/
theorem grows_same (l : List ByteArray) (s : ByteArray) (i H H' : Nat) (hH : H ≤ H') : diffs (pfl l H i) (pfl (l ++ [s]) H' i) H ≤ 1 := by
  refine diffs_one _ _ _ (fun k m h1 h2 => ?_)
  by_cases hk : l.length / 2 ^ k = nb (i / 2 ^ k)
  · refine .inr (pfl_same l s _ _ i m h2 (by omega) (fun e => only_one h1 hk.symm e.symm))
  · exact .inl (pfl_same l s _ _ i k (by omega) (by omega) hk)
end Go.Proofs.Ytflpemagbempaaa.Dg
