/-
  Layer 6 (outline): mathematics of deltas in another order, without weight, and of a single one.
-/
import Derived.Test.YtcogoomajfahkaaOtAf
import Derived.Test.YtcogoomajfahkaaAxZm
namespace Go.Proofs.Ytcogoomajfahkaa.Ot
open Go.RowKit
open Go.Proofs.Ytcogoomajfahkaa.Ax (Tns scal scS vlN vlD vt ps)
open Go.Proofs.Ytcogoomajfahkaa.Ex (RoI MdI outI fits MuN MuD)
/-- The sum, without wrapping. -/
def tot (W : Nat → Int) (x : Nat → Int) : Nat → Int
  | 0 => 0
  | i + 1 => tot W x i + W i * x i
theorem smX_tot (W : Nat → Int) (d : Nat → De) (k : Nat) : ∀ n, smX W d k n = wrap64 (tot W (fun i => (d i).x k) n)
  | 0 => by unfold smX tot; exact (w_in ⟨by omega, by omega⟩).symm
  | n + 1 => by
    rw [smX, smX_tot W d k n, w_addl]
    rfl
theorem smY_tot (W : Nat → Int) (d : Nat → De) (k : Nat) : ∀ n, smY W d k n = wrap64 (tot W (fun i => (d i).y k) n)
  | 0 => by unfold smY tot; exact (w_in ⟨by omega, by omega⟩).symm
  | n + 1 => by
    rw [smY, smY_tot W d k n, w_addl]
    rfl
theorem tot_congr {W W' x x' : Nat → Int} : ∀ {n : Nat}, (∀ i, i < n → W i = W' i ∧ x i = x' i) → tot W x n = tot W' x' n
  | 0, _ => rfl
  | n + 1, h => by
    rw [tot, tot, tot_congr (fun i hi => h i (by omega)), (h n (by omega)).1, (h n (by omega)).2]
theorem tot_first (W x : Nat → Int) : ∀ n, tot W x (n + 1) = W 0 * x 0 + tot (fun i => W (i + 1)) (fun i => x (i + 1)) n
  | 0 => by simp [tot]
  | n + 1 => by
    rw [tot, tot_first W x n, tot]
    omega
theorem tot_rev (W x : Nat → Int) : ∀ n, tot (fun i => W (n - 1 - i)) (fun i => x (n - 1 - i)) n = tot W x n
  | 0 => rfl
  | n + 1 => by
    rw [tot_first]
    have e : tot (fun i => W (n + 1 - 1 - (i + 1))) (fun i => x (n + 1 - 1 - (i + 1))) n = tot (fun i => W (n - 1 - i)) (fun i => x (n - 1 - i)) n := by
      refine tot_congr (fun i hi => ?_)
      have : n + 1 - 1 - (i + 1) = n - 1 - i := by omega
      rw [this]
      exact ⟨rfl, rfl⟩
    rw [e, tot_rev W x n, tot]
    simp only [Nat.add_sub_cancel, Nat.sub_zero]
    omega
/-- The deltas in the opposite order. -/
def rev (d : Nat → De) (n i : Nat) : De := d (n - 1 - i)
theorem inst_rev (ns : Nat → Nat) (g : Nat → Nat → Pt) (d : Nat → De) (q : Nat → Int) (n k i : Nat) : inst ns g (rev d n) q n k i = inst ns g d q n k i := by
  unfold inst inP
  have hx : ∀ z, smX (wgs (rev d n) q) (rev d n) z n = smX (wgs d q) d z n := fun z => by
    rw [smX_tot, smX_tot]
    exact congrArg wrap64 (tot_rev (wgs d q) (fun i => (d i).x z) n)
  have hy : ∀ z, smY (wgs (rev d n) q) (rev d n) z n = smY (wgs d q) d z n := fun z => by
    rw [smY_tot, smY_tot]
    exact congrArg wrap64 (tot_rev (wgs d q) (fun i => (d i).y z) n)
  rw [hx, hy]
theorem wgt_zero {r : Nat → Tns} {K : Nat} {q : Nat → Int} (h : (scal r K q).1 = 0) : wgt r K q = 0 := by
  unfold wgt
  rw [h]
  have hm : MdI 8192 0 (scal r K q).2 = 0 := by
    unfold MdI
    split
    · rfl
    · rw [Int.mul_zero, Int.zero_ediv]
      decide +kernel
  rw [hm]
  decide +kernel
theorem tot_zero {W x : Nat → Int} : ∀ {n : Nat}, (∀ i, i < n → W i = 0) → tot W x n = 0
  | 0, _ => rfl
  | n + 1, h => by rw [tot, tot_zero (fun i hi => h i (by omega)), h n (by omega)]; simp
theorem ro0 : RoI (wrap64 0) 4096 = 0 := by decide +kernel
theorem inst_quiet {ns : Nat → Nat} {g : Nat → Nat → Pt} {d : Nat → De} {q : Nat → Int} {n k i : Nat} (h : ∀ j, j < n → (scal (d j).r (d j).K q).1 = 0) (hx : R64 (g k i).x) (hy : R64 (g k i).y) : inst ns g d q n k i = g k i := by
  have hW : ∀ j, j < n → wgs d q j = 0 := fun j hj => wgt_zero (h j hj)
  unfold inst inP
  rw [smX_tot, smY_tot, tot_zero hW, tot_zero hW, ro0, Int.add_zero, Int.add_zero, w_in hx, w_in hy]
theorem vl_peak (t : Tns) : vlN t t.p = 1 ∧ vlD t t.p = 1 := by unfold vlN vlD; rw [if_pos (.inr rfl), if_pos (.inr rfl)]; exact ⟨rfl, rfl⟩
theorem scS_peak (r : Nat → Tns) (q : Nat → Int) : ∀ {K : Nat}, (∀ i, i < K → q i = (r i).p) → scS r q K = (1, 1)
  | 0, _ => rfl
  | K + 1, h => by
    rw [scS, scS_peak r q (fun i hi => h i (by omega)), h K (by omega), (vl_peak _).1, (vl_peak _).2]
    decide +kernel
theorem wgt_peak {r : Nat → Tns} {K : Nat} {q : Nat → Int} (hv : ∀ i, i < K → vt (r i) = true) (h : ∀ i, i < K → q i = (r i).p) : wgt r K q = 4096 := by
  unfold wgt scal
  rw [if_pos (vts_ok hv), scS_peak r q h]
  decide +kernel
theorem ro_whole {x : Int} (h : -8 ≤ x ∧ x ≤ 8) : RoI (wrap64 (0 + 4096 * x)) 4096 = x := by
  have : x = -8 ∨ x = -7 ∨ x = -6 ∨ x = -5 ∨ x = -4 ∨ x = -3 ∨ x = -2 ∨ x = -1 ∨ x = 0 ∨ x = 1 ∨ x = 2 ∨ x = 3 ∨ x = 4 ∨ x = 5 ∨ x = 6 ∨ x = 7 ∨ x = 8 := by omega
  rcases this with rfl | rfl | rfl | rfl | rfl | rfl | rfl | rfl | rfl | rfl | rfl | rfl | rfl | rfl | rfl | rfl | rfl <;> decide +kernel
theorem inst_whole {ns : Nat → Nat} {g : Nat → Nat → Pt} {d : Nat → De} {q : Nat → Int} {k i : Nat} (hv : ∀ i, i < (d 0).K → vt ((d 0).r i) = true) (h : ∀ i, i < (d 0).K → q i = ((d 0).r i).p) (hm : -8 ≤ (d 0).x (pre ns k + i) ∧ (d 0).x (pre ns k + i) ≤ 8 ∧ -8 ≤ (d 0).y (pre ns k + i) ∧ (d 0).y (pre ns k + i) ≤ 8) :
    inst ns g d q 1 k i = ⟨wrap64 ((g k i).x + (d 0).x (pre ns k + i)), wrap64 ((g k i).y + (d 0).y (pre ns k + i)), (g k i).o⟩ := by
  have hW : wgs d q 0 = 4096 := wgt_peak hv h
  unfold inst inP
  rw [smX_tot, smY_tot, tot, tot, tot, tot, hW, ro_whole ⟨hm.1, hm.2.1⟩, ro_whole hm.2.2]
theorem ps_in {n : Nat} {p : Nat → Int} {i : Nat} (hi : i < n) (h : -64 ≤ p i ∧ p i ≤ 64) : ps n p i = p i := by
  have := Ax.ps_one (v := p i) h
  unfold ps at this ⊢
  simpa [hi] using this
end Go.Proofs.Ytcogoomajfahkaa.Ot
