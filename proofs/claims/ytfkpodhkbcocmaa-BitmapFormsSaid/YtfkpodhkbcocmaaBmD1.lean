/-
  Layer 4 (bitmap): mathematics of BitmapDots.
-/
import Derived.Test.YtfkpodhkbcocmaaBmY
namespace Go.Proofs.Ytfkpodhkbcocmaa.Bm
open Go.RowKit
theorem D_pst {W H W2 H2 : Nat} {f f2 : Nat → Bool} {p0 p1 : Int} (hW : W ≤ 96) (hH : H ≤ 96) (h0 : sml p0) (h1 : sml p1) (x y : Int) : D W H (pst W W2 H2 (W2 * H2) f2 f p0 p1) x y = (ins W H x y && (D W H f x y || D W2 H2 f2 (x - p0) (y - p1))) := by
  rcases hi : ins W H x y with _ | _
  · unfold D has
    rw [hi]
    simp
  · obtain ⟨a, b, c, d⟩ := (ins_iff _ _ _ _).1 hi
    obtain ⟨s0, s1⟩ := h0
    obtain ⟨u0, u1⟩ := h1
    have hp := pos_in ⟨a, b⟩ ⟨c, d⟩
    have hd := div_mod_at (v := y) ⟨a, b⟩
    have hc : ((y * W + x).toNat : Int) = y * W + x := by omega
    conv => lhs; unfold D has
    conv => rhs; arg 2; arg 1; unfold D has
    rw [gd_nat hW hH, hi, Bool.true_and, Bool.true_and, Bool.true_and]
    unfold pst
    rw [hc, hd.1, hd.2, wrap_id (x := x - p0) ⟨by omega, by omega⟩, wrap_id (x := y - p1) ⟨by omega, by omega⟩]
    rfl
theorem D_blank {W H : Nat} (x y : Int) : D W H (fun _ => false) x y = false := by unfold D has; simp
theorem D_out {W H : Nat} {f : Nat → Bool} {x y : Int} (h : ins W H x y = false) : D W H f x y = false := by unfold D has; rw [h]; simp
/-- The dots that the first loop has seen. -/
def gq (W H : Nat) (f : Nat → Bool) (k : Nat) : Bool := D W H f ((k : Int) % (W + 2 : Nat) - 1) ((k : Int) / (W + 2 : Nat) - 1)
def seen (W H : Nat) (f : Nat → Bool) (r c : Nat) : Nat := cn (gq W H f) (r * (W + 2) + c)
theorem seen_next {W H r c : Nat} {f : Nat → Bool} (hc : c < W + 2) : seen W H f r (c + 1) = seen W H f r c + (if D W H f ((c : Int) - 1) ((r : Int) - 1) then 1 else 0) := by
  unfold seen
  rw [← Nat.add_assoc, cn]
  have hd := div_mod_at (W := (W + 2 : Nat)) (u := c) (v := r) ⟨by omega, by omega⟩
  have e : ((r * (W + 2) + c : Nat) : Int) = (r : Int) * (W + 2 : Nat) + c := by rw [Int.natCast_add, Int.natCast_mul]
  have : gq W H f (r * (W + 2) + c) = D W H f ((c : Int) - 1) ((r : Int) - 1) := by
    unfold gq
    rw [e, hd.1, hd.2]
  rw [this]
theorem seen_row {W H r : Nat} {f : Nat → Bool} : seen W H f r (W + 2) = seen W H f (r + 1) 0 := by
  unfold seen
  rw [Nat.succ_mul]
  rfl
theorem seen_zero {W H : Nat} {f : Nat → Bool} : seen W H f 0 0 = 0 := by unfold seen; rw [Nat.zero_mul]; rfl
theorem seen_all {W H : Nat} {f : Nat → Bool} (hW : W ≤ 96) (hH : H ≤ 96) : seen W H f (H + 2) 0 = count W H (W * H) f := by
  have e : seen W H f (H + 2) 0 = K (W + 2) (H + 2) (fun x y => D W H f (x - 1) (y - 1)) := by
    unfold seen K
    rw [Nat.mul_comm (W + 2) (H + 2)]
    rfl
  rw [e, count_K hW hH]
  refine Nat.le_antisymm (K_shift (-1) (-1) (fun x y a b c d h => ?_)) (K_shift 1 1 (fun x y a b c d h => ?_))
  · obtain ⟨g1, g2, g3, g4⟩ := D_in h
    exact ⟨g1, g2, g3, g4, h⟩
  · refine ⟨by omega, by omega, by omega, by omega, ?_⟩
    simp only [Int.add_sub_cancel]
    exact h
theorem seen_le {W H r c : Nat} {f : Nat → Bool} (hW : W ≤ 16) (hH : H ≤ 12) (hr : r ≤ H + 2) (hc : c ≤ W + 2) : seen W H f r c ≤ 1000 := by
  unfold seen
  have h1 := cn_le (gq W H f) (r * (W + 2) + c)
  have h2 : r * (W + 2) ≤ 14 * 18 := Nat.mul_le_mul (by omega) (by omega)
  omega
theorem count_pst {W H W2 H2 : Nat} {f f2 : Nat → Bool} {p0 p1 : Int} (hW : W ≤ 96) (hH : H ≤ 96) (hW2 : W2 ≤ 96) (hH2 : H2 ≤ 96) (h0 : sml p0) (h1 : sml p1) : count W H (W * H) (pst W W2 H2 (W2 * H2) f2 f p0 p1) ≤ count W H (W * H) f + count W2 H2 (W2 * H2) f2 := by
  rw [count_K hW hH, count_K hW hH, count_K hW2 hH2, K_split W H _ (D W H f)]
  refine Nat.add_le_add (K_shift 0 0 (fun x y a b c d h => ?_)) (K_shift (-p0) (-p1) (fun x y a b c d h => ?_))
  · rw [Bool.and_eq_true] at h
    rw [Int.add_zero, Int.add_zero]
    exact ⟨a, b, c, d, h.2⟩
  · rw [Bool.and_eq_true, D_pst hW hH h0 h1, Bool.and_eq_true, Bool.or_eq_true] at h
    obtain ⟨⟨_, h2⟩, h3⟩ := h
    have h4 : D W2 H2 f2 (x - p0) (y - p1) = true := by
      rcases h2 with h2 | h2
      · rw [h2] at h3; cases h3
      · exact h2
    rw [← Int.sub_eq_add_neg, ← Int.sub_eq_add_neg]
    obtain ⟨g1, g2, g3, g4⟩ := D_in h4
    exact ⟨g1, g2, g3, g4, h4⟩
theorem count_blank {W H : Nat} (hW : W ≤ 96) (hH : H ≤ 96) : count W H (W * H) (fun _ => false) = 0 := by
  rw [count_K hW hH]
  exact K_zero (fun x y _ _ _ _ => D_blank x y)
end Go.Proofs.Ytfkpodhkbcocmaa.Bm
