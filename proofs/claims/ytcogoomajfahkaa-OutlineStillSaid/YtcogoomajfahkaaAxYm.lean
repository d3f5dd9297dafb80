/-
  Layer 5 (axis): mathematics of single tents.
-/
import Derived.Test.YtcogoomajfahkaaAxL
namespace Go.Proofs.Ytcogoomajfahkaa.Ax
open Go.RowKit
open Go.Proofs.Ytcogoomajfahkaa.Ex (MuN MuD MuB okR fits redN redD redN_mul redD_mul redD_pos gcd_pos')

theorem red_facts {a b : Int} (h0 : 0 ≤ a) (h1 : a ≤ b) (h2 : 1 ≤ b) (h3 : b ≤ 128) :
    1 ≤ redD a b ∧ 0 ≤ redN a b ∧ redN a b ≤ redD a b ∧ redD a b ≤ 128 ∧ redN a b * b = a * redD a b ∧ (a = b → redN a b = redD a b) ∧ (a = 0 → redN a b = 0) := by
  have e1 := redN_mul a b
  have e2 := redD_mul a b
  have hd := redD_pos a h2
  have hg := gcd_pos' a h2
  generalize ((Int.gcd a b : Nat) : Int) = g at *
  generalize redN a b = N at *
  generalize redD a b = D at *
  have hN : 0 ≤ N := by
    rcases Int.lt_or_le N 0 with h | h
    · have : g * N < 0 := Int.mul_neg_of_pos_of_neg (by omega) h
      omega
    · exact h
  have hle : N ≤ D := by
    apply Int.le_of_mul_le_mul_left (a := g) (by omega) (by omega)
  have hD : D ≤ g * D := by
    have : 1 * D ≤ g * D := Int.mul_le_mul_of_nonneg_right (by omega) (by omega)
    omega
  refine ⟨hd, hN, hle, by omega, ?_, ?_, ?_⟩
  · rw [← e1, ← e2]
    ac_rfl
  · intro h
    rw [h, ← e2] at e1
    exact Int.eq_of_mul_eq_mul_left (by omega) e1
  · intro h
    rw [h] at e1
    rcases Int.mul_eq_zero.1 e1 with h | h
    · omega
    · exact h
theorem ps_one {v : Int} (hv : -64 ≤ v ∧ v ≤ 64) : ps 1 (fun _ => v) 0 = v := by
  unfold ps lim
  rw [if_pos (by omega)]
  show min (max v (-64)) 64 = v
  omega
theorem scal_one {x : Tns} (hx : vt x = true) {v : Int} (hv : -64 ≤ v ∧ v ≤ 64) : scal (fun _ => x) 1 (ps 1 (fun _ => v)) = (redN (vlN x v) (vlD x v), redD (vlN x v) (vlD x v)) := by
  have hl := vl_in (v := v) (vt_rg hx)
  obtain ⟨f1, f2, f3, f4, _⟩ := red_facts hl.1 hl.2.1 hl.2.2.1 hl.2.2.2
  unfold scal
  rw [if_pos (show vts (fun _ => x) 1 = true by unfold vts vts; rw [hx]; rfl)]
  unfold scS scS
  simp only
  rw [ps_one hv]
  have hB : MuB 1 1 (vlN x v) (vlD x v) = true := by
    unfold MuB okR fits
    rw [Int.one_mul, Int.one_mul]
    simp only [Bool.and_eq_true, decide_eq_true_eq]
    omega
  unfold MuN MuD
  rw [hB, if_pos rfl, if_pos rfl, Int.one_mul, Int.one_mul]
theorem linear {W y N D Nb Db Na Da z : Int} (hW : 0 < W) (e : N * W = y * D) (eb : Nb * W = (y - z) * Db) (ea : Na * W = (y + z) * Da) : 2 * N * Db * Da = D * (Nb * Da + Na * Db) := by
  apply Int.eq_of_mul_eq_mul_left (a := W) (by omega)
  have l : W * (2 * N * Db * Da) = 2 * (N * W) * Db * Da := by ac_rfl
  have r : W * (D * (Nb * Da + Na * Db)) = D * ((Nb * W) * Da + (Na * W) * Db) := by
    rw [Int.mul_left_comm, Int.mul_add]
    congr 2 <;> ac_rfl
  rw [l, r, e, eb, ea]
  have s : (y - z) * Db * Da + (y + z) * Da * Db = 2 * (y * (Db * Da)) := by
    rw [show (y - z) * Db * Da = (y - z) * (Db * Da) by ac_rfl, show (y + z) * Da * Db = (y + z) * (Db * Da) by ac_rfl, ← Int.add_mul, show y - z + (y + z) = 2 * y by omega]
    ac_rfl
  rw [s]
  ac_rfl
/-- On one side a tent's value is what is left, by the side's length. -/
theorem vl_left {x : Tns} (hx : vtR x) (hp : ¬ x.p = 0) {v : Int} (h : x.l ≤ v ∧ v ≤ x.p) (h2 : x.l < x.p) : redN (vlN x v) (vlD x v) * (x.p - x.l) = (v - x.l) * redD (vlN x v) (vlD x v) := by
  have hl := vl_in (v := v) hx
  obtain ⟨_, _, _, _, f5, f6, f7⟩ := red_facts hl.1 hl.2.1 hl.2.2.1 hl.2.2.2
  by_cases e : v = x.p
  · have eN : vlN x v = 1 := if_pos (Or.inr e)
    have eD : vlD x v = 1 := if_pos (Or.inr e)
    rw [f6 (by rw [eN, eD]), e, Int.mul_comm]
  · have hc : ¬ (x.p = 0 ∨ v = x.p) := by omega
    by_cases e2 : v ≤ x.l ∨ x.h ≤ v
    · have eN : vlN x v = 0 := by unfold vlN; rw [if_neg hc, if_pos e2]
      have hv : v = x.l := by unfold vtR at hx; omega
      rw [f7 eN, hv]; simp
    · have eN : vlN x v = v - x.l := by unfold vlN; rw [if_neg hc, if_neg e2, if_pos (show v < x.p by omega)]
      have eD : vlD x v = x.p - x.l := by unfold vlD; rw [if_neg hc, if_neg e2, if_pos (show v < x.p by omega)]
      rw [eD, eN] at f5 ⊢
      exact f5
theorem vl_right {x : Tns} (hx : vtR x) (hp : ¬ x.p = 0) {v : Int} (h : x.p ≤ v ∧ v ≤ x.h) (h2 : x.p < x.h) : redN (vlN x v) (vlD x v) * (x.h - x.p) = (x.h - v) * redD (vlN x v) (vlD x v) := by
  have hl := vl_in (v := v) hx
  obtain ⟨_, _, _, _, f5, f6, f7⟩ := red_facts hl.1 hl.2.1 hl.2.2.1 hl.2.2.2
  by_cases e : v = x.p
  · have eN : vlN x v = 1 := if_pos (Or.inr e)
    have eD : vlD x v = 1 := if_pos (Or.inr e)
    rw [f6 (by rw [eN, eD]), e, Int.mul_comm]
  · have hc : ¬ (x.p = 0 ∨ v = x.p) := by omega
    by_cases e2 : v ≤ x.l ∨ x.h ≤ v
    · have eN : vlN x v = 0 := by unfold vlN; rw [if_neg hc, if_pos e2]
      have hv : v = x.h := by unfold vtR at hx; omega
      rw [f7 eN, hv]; simp
    · have eN : vlN x v = x.h - v := by unfold vlN; rw [if_neg hc, if_neg e2, if_neg (show ¬ v < x.p by omega)]
      have eD : vlD x v = x.h - x.p := by unfold vlD; rw [if_neg hc, if_neg e2, if_neg (show ¬ v < x.p by omega)]
      rw [eD, eN] at f5 ⊢
      exact f5
theorem red_one1 : redN 1 1 = 1 ∧ redD 1 1 = 1 := by decide +kernel
end Go.Proofs.Ytcogoomajfahkaa.Ax
