/-
  Layer 5 (axis): User and Normal undo each other.
-/
import Derived.Test.YtmlkdfieakihlaaAxF
namespace Go.Proofs.Ytmlkdfieakihlaa.Ax
open Go.RowKit
open Go.Proofs.Ytmlkdfieakihlaa.Ex (RoI)

theorem undo_narrow {a e : Int} (ha : 1 ≤ a ∧ a ≤ 64) (he : 1 ≤ e ∧ e ≤ a) : 1 ≤ RoI (64 * e) a ∧ RoI (64 * e) a ≤ 64 ∧ RoI (RoI (64 * e) a * a) 64 = e := by
  obtain ⟨e1, e2, e3⟩ := ro_is (a := 64 * e) (b := a) (by omega) (by omega)
  have k1 := Int.mul_ediv_self_le (x := 2 * (64 * e) + a) (k := 2 * a) (by omega)
  have k2 := Int.lt_mul_ediv_self_add (x := 2 * (64 * e) + a) (k := 2 * a) (by omega)
  rw [← e1] at k1 k2
  generalize RoI (64 * e) a = q at *
  rw [Int.mul_assoc] at k1 k2
  have hq : 1 ≤ q := by
    rcases Int.lt_or_le q 1 with h | h
    · obtain rfl : q = 0 := by omega
      rw [Int.mul_zero] at k2
      omega
    · exact h
  have hm := mul_in (n := q) (s := a) (M := 64) (N := 64) (by omega) (by omega) (by omega)
  obtain ⟨f1, f2, f3⟩ := ro_in (a := q * a) (b := 64) (M := 64) (by omega) (by omega) (by omega)
  refine ⟨hq, e3, ?_⟩
  rw [f1]
  rw [Int.mul_comm a q] at k1 k2
  by_cases h64 : a = 64
  · subst h64
    omega
  · generalize q * a = m at *
    omega
theorem undo_wide {a k : Int} (ha : 64 ≤ a ∧ a ≤ 2000) (hk : 1 ≤ k ∧ k ≤ 64) : 1 ≤ RoI (k * a) 64 ∧ RoI (k * a) 64 ≤ a ∧ RoI (64 * RoI (k * a) 64) a = k := by
  have hm := mul_in (n := k) (s := a) (M := 64) (N := 2000) (by omega) (by omega) (by omega)
  have hm2 : 1 * 64 ≤ k * a := Int.mul_le_mul (by omega) (by omega) (by omega) (by omega)
  have hm3 : k * a ≤ 64 * a := Int.mul_le_mul_of_nonneg_right (by omega) (by omega)
  obtain ⟨f1, f2, f3⟩ := ro_in (a := k * a) (b := 64) (M := a) (by omega) (by omega) (by omega)
  have hr1 : 1 ≤ RoI (k * a) 64 := by rw [f1]; omega
  generalize hr : RoI (k * a) 64 = r at *
  obtain ⟨e1, e2, e3⟩ := ro_is (a := 64 * r) (b := a) (by omega) (by omega)
  refine ⟨hr1, f3, ?_⟩
  rw [e1]
  apply Int.le_antisymm
  · apply Int.le_of_lt_add_one
    apply Int.ediv_lt_of_lt_mul (by omega)
    rw [show (k + 1) * (2 * a) = 2 * (k * a) + 2 * a by rw [Int.add_mul, Int.one_mul, Int.mul_left_comm]]
    by_cases h64 : a = 64
    · subst h64
      omega
    · omega
  · apply Int.le_ediv_of_mul_le (by omega)
    rw [show k * (2 * a) = 2 * (k * a) by rw [Int.mul_left_comm]]
    omega
theorem lim_id {v lo hi : Int} (h : lo ≤ v ∧ v ≤ hi) : lim v lo hi = v := by unfold lim; omega
theorem inv_narrow {x : Axs} (hx : ck1 x = 0) (h1 : x.u - x.l ≤ 64) (h2 : x.h - x.u ≤ 64) {p : Int} (hp : x.l ≤ p ∧ p ≤ x.h) : us x (nm x p) = p := by
  obtain ⟨r1, r2, r3, r4⟩ := ck1_rg hx
  unfold us
  rw [if_pos hx, lim_id (nm_in (ck1_rg hx) p)]
  unfold nm
  rw [lim_id hp]
  by_cases c1 : p < x.u
  · obtain ⟨k1, k2, k3⟩ := undo_narrow (a := x.u - x.l) (e := x.u - p) (by omega) (by omega)
    rw [if_pos c1, if_pos (by omega), Int.neg_neg, k3]; omega
  · by_cases c2 : x.u < p
    · obtain ⟨k1, k2, k3⟩ := undo_narrow (a := x.h - x.u) (e := p - x.u) (by omega) (by omega)
      rw [if_neg c1, if_pos c2, if_neg (by omega), k3]; omega
    · rw [if_neg c1, if_neg c2, if_neg (by omega), Int.zero_mul, show RoI 0 64 = 0 from by decide]; omega
theorem inv_wide {x : Axs} (hx : ck1 x = 0) (h1 : 64 ≤ x.u - x.l) (h2 : 64 ≤ x.h - x.u) {n : Int} (hn : -64 ≤ n ∧ n ≤ 64) : nm x (us x n) = n := by
  obtain ⟨r1, r2, r3, r4⟩ := ck1_rg hx
  unfold us
  rw [if_pos hx, lim_id hn]
  by_cases c1 : n < 0
  · obtain ⟨k1, k2, k3⟩ := undo_wide (a := x.u - x.l) (k := -n) (by omega) (by omega)
    rw [if_pos c1]
    unfold nm
    rw [lim_id (by omega), if_pos (by omega), show x.u - (x.u - RoI (-n * (x.u - x.l)) 64) = RoI (-n * (x.u - x.l)) 64 by omega, k3]; omega
  · rw [if_neg c1]
    by_cases c2 : n = 0
    · subst c2
      rw [Int.zero_mul, show RoI 0 64 = 0 from by decide, Int.add_zero]
      unfold nm
      rw [lim_id (by omega), if_neg (by omega), if_neg (by omega)]
    · obtain ⟨k1, k2, k3⟩ := undo_wide (a := x.h - x.u) (k := n) (by omega) (by omega)
      unfold nm
      rw [lim_id (by omega), if_neg (by omega), if_pos (by omega), show x.u + RoI (n * (x.h - x.u)) 64 - x.u = RoI (n * (x.h - x.u)) 64 by omega, k3]
end Go.Proofs.Ytmlkdfieakihlaa.Ax
