/-
  Layer 3 (digest): what Prove answers is accepted; the law DigestProves, walked.
-/
import Derived.Test.YtflpemagbempaaaDgZ
namespace Go.Proofs.Ytflpemagbempaaa.Dg
open Go.RowKit
theorem node_up (g : Nat → List UInt8) (j : Nat) : (if j % 2 = 0 then node (g j) (g (nb j)) else node (g (nb j)) (g j)) = up g (j / 2) := by
  unfold up nb
  rcases Nat.mod_two_eq_zero_or_one j with h | h
  · rw [if_pos h, if_pos h, show 2 * (j / 2) = j by omega]
  · rw [if_neg (by omega), if_neg (by omega), show 2 * (j / 2) + 1 = j by omega, show 2 * (j / 2) = j - 1 by omega]
theorem up_path (g : Nat → List UInt8) (hg : ∀ j, (g j).length = 8) (i : Nat) : ∀ (m k : Nat), upv (lv g k (i / 2 ^ k)) (i / 2 ^ k) ((List.range' k m).map (fun k => B (lv g k (nb (i / 2 ^ k))))) = some (lv g (k + m) (i / 2 ^ (k + m)))
  | 0, k => rfl
  | m + 1, k => by
    rw [List.range'_succ, List.map_cons, upv, if_pos (by rw [B_size]; exact lv_len g hg k _), B_toList, node_up]
    have h2 : i / 2 ^ k / 2 = i / 2 ^ (k + 1) := by rw [Nat.pow_succ, Nat.div_div_eq_div_mul]
    rw [h2, show up (lv g k) (i / 2 ^ (k + 1)) = lv g (k + 1) (i / 2 ^ (k + 1)) from rfl, up_path g hg i m (k + 1), show k + 1 + m = k + (m + 1) by omega]
theorem up_proof (l : List ByteArray) (i : Nat) (hi : i < l.length) : upv (g0 l i) i (pfl l (ht l.length) i) = some (lv (g0 l) (ht l.length) 0) := by
  have h := up_path (g0 l) (g0_len l) i (ht l.length) 0
  have h1 : i / 2 ^ (ht l.length) = 0 := Nat.div_eq_of_lt (Nat.lt_of_lt_of_le hi (ht_le _))
  rw [Nat.zero_add, Nat.pow_zero, Nat.div_one, h1] at h
  unfold pfl
  rw [List.range_eq_range']
  exact h
theorem g0_at (l : List ByteArray) (i : Nat) (hi : i < l.length) : g0 l i = leaf l[i] := by
  unfold g0; rw [if_pos hi, List.getD_eq_getElem?_getD, List.getElem?_eq_getElem hi]; rfl
theorem vf_proof (l : List ByteArray) (i : Nat) (hi : i < l.length) (hs : l.length ≤ 1000000) : vf (B (lv (g0 l) (ht l.length) 0)) l[i] i (pfl l (ht l.length) i) = true := by
  unfold vf
  rw [decide_eq_true_iff]
  refine ⟨⟨?_, by omega, ?_⟩, ?_⟩
  · rw [pfl_length]; have := ht_bound hs; omega
  · rw [pfl_length]; exact_mod_cast Nat.lt_of_lt_of_le hi (ht_le _)
  · rw [B_toList, ← g0_at l i hi]; exact up_proof l i hi
end Go.Proofs.Ytflpemagbempaaa.Dg
