/-
  Layer 7 (raster): what RasterBoxes compares, as numbers alone: the winding number of a rectangle.
-/
import Derived.Test.YtjeiapgniflnaaaRsSn
import Derived.Test.YtjeiapgniflnaaaRsN
namespace Go.Proofs.Ytjeiapgniflnaaa.Rs
open Go.Proofs.Ytjeiapgniflnaaa.Ot
open Go.Proofs.Ytjeiapgniflnaaa.Bm (has ins ins_iff gd gd_iff)
def rcF (x0 y0 x1 y1 : Int) : Nat → Int
  | 0 => x0
  | 1 => y0
  | 2 => x1
  | 3 => y0
  | 4 => x1
  | 5 => y1
  | 6 => x0
  | _ => y1
def rcP (x0 y0 x1 y1 : Int) : Nat → Pt := pgP (rcF x0 y0 x1 y1)
def inB (x0 y0 x1 y1 s t : Int) : Nat := if x0 < s ∧ s ≤ x1 ∧ y0 ≤ t ∧ t < y1 then 1 else 0
theorem four4 {i : Nat} (h : i < 4) : i = 0 ∨ i = 1 ∨ i = 2 ∨ i = 3 := by omega
theorem rcP_x {x0 y0 x1 y1 : Int} (h : x0 ≤ x1) {i : Nat} (hi : i < 4) : x0 ≤ (rcP x0 y0 x1 y1 i).x ∧ (rcP x0 y0 x1 y1 i).x ≤ x1 := by
  obtain rfl | rfl | rfl | rfl := four4 hi <;> simp [rcP, pgP, rcF, h]
theorem rcP_y {x0 y0 x1 y1 : Int} (h : y0 ≤ y1) {i : Nat} (hi : i < 4) : y0 ≤ (rcP x0 y0 x1 y1 i).y ∧ (rcP x0 y0 x1 y1 i).y ≤ y1 := by
  obtain rfl | rfl | rfl | rfl := four4 hi <;> simp [rcP, pgP, rcF, h]
theorem rwn_box {x0 y0 x1 y1 s t : Int} (hx : x0 ≤ x1) (hy : y0 ≤ y1) : bit (rwn (rcP x0 y0 x1 y1) 4 s t 4) = inB x0 y0 x1 y1 s t := by
  unfold inB
  rcases Int.lt_or_le x0 s with h1 | h1
  · rcases Int.lt_or_le x1 s with h2 | h2
    · rw [rwn_closed (fun i hi => by have := (rcP_x (y0 := y0) (y1 := y1) hx hi).2; omega), if_neg (by omega)]
      rfl
    · have e : rwn (rcP x0 y0 x1 y1) 4 s t 4 = ct (rcP x0 y0 x1 y1 0) (rcP x0 y0 x1 y1 1) s t + ct (rcP x0 y0 x1 y1 1) (rcP x0 y0 x1 y1 2) s t + ct (rcP x0 y0 x1 y1 2) (rcP x0 y0 x1 y1 3) s t + ct (rcP x0 y0 x1 y1 3) (rcP x0 y0 x1 y1 0) s t := by
        simp only [rwn]
        rw [Int.zero_add]
      have a1 : ct (rcP x0 y0 x1 y1 0) (rcP x0 y0 x1 y1 1) s t = 0 := ct_none _ _ _ _ (by show (t < y0 ∧ t < y0) ∨ (y0 ≤ t ∧ y0 ≤ t) ∨ _; omega)
      have a2 : ct (rcP x0 y0 x1 y1 1) (rcP x0 y0 x1 y1 2) s t = 0 := ct_none _ _ _ _ (.inr (.inr ⟨h2, h2⟩))
      have a3 : ct (rcP x0 y0 x1 y1 2) (rcP x0 y0 x1 y1 3) s t = 0 := ct_none _ _ _ _ (by show (t < y1 ∧ t < y1) ∨ (y1 ≤ t ∧ y1 ≤ t) ∨ _; omega)
      have a4 : ct (rcP x0 y0 x1 y1 3) (rcP x0 y0 x1 y1 0) s t = (if t < y0 then 1 else 0) - (if t < y1 then 1 else 0) := ct_left _ _ _ _ h1 h1
      rw [e, a1, a2, a3, a4]
      by_cases h3 : t < y0
      · rw [if_neg (show ¬ (x0 < s ∧ s ≤ x1 ∧ y0 ≤ t ∧ t < y1) by omega), if_pos h3, if_pos (show t < y1 by omega)]
        rfl
      · by_cases h4 : t < y1
        · rw [if_pos (show x0 < s ∧ s ≤ x1 ∧ y0 ≤ t ∧ t < y1 by omega), if_neg h3, if_pos h4]
          rfl
        · rw [if_neg (show ¬ (x0 < s ∧ s ≤ x1 ∧ y0 ≤ t ∧ t < y1) by omega), if_neg h3, if_neg h4]
          rfl
  · rw [rwn_none (.inr (.inr (fun i hi => by have := (rcP_x (y0 := y0) (y1 := y1) hx hi).1; omega))) 4 (Nat.le_refl _), if_neg (by omega)]
    rfl
/-- The corners lie near. -/
def Cor (x0 y0 x1 y1 : Int) : Prop := (-30 ≤ x0 ∧ x0 ≤ x1 ∧ x1 ≤ 59) ∧ (-30 ≤ y0 ∧ y0 ≤ y1 ∧ y1 ≤ 59)
theorem ok_box {x0 y0 x1 y1 : Int} (h : Cor x0 y0 x1 y1) : allO (fun _ => 4) (fun _ => rcP x0 y0 x1 y1) 1 = true := allO_of (fun k hk i hi => by
  obtain ⟨⟨h1, h2, h3⟩, h4, h5, h6⟩ := h
  have e1 := rcP_x (y0 := y0) (y1 := y1) h2 hi
  have e2 := rcP_y (x0 := x0) (x1 := x1) h5 hi
  rw [okR_iff]
  omega)
theorem bit_box {x0 y0 x1 y1 s t : Int} (h : Cor x0 y0 x1 y1) (hs : -1000 ≤ s ∧ s ≤ 1000) (ht : -1000 ≤ t ∧ t ≤ 1000) : bit (wdg 1 (fun _ => 4) (fun _ => rcP x0 y0 x1 y1) s t) = inB x0 y0 x1 y1 s t := by
  unfold wdg
  rw [(inR_iff s).2 (by omega), (inR_iff t).2 (by omega), ok_box h, if_pos (by rfl), wn_one]
  exact rwn_box h.1.2.1 h.2.2.1
/-- The units of the law. -/
def Un (u v : Int) : Prop := u = 4 * v ∧ 1 ≤ v ∧ v ≤ 4
theorem un_isU {u v : Int} (h : Un u v) : isU u = true := by
  obtain ⟨rfl, h1, h2⟩ := h
  rw [isU_iff]
  omega
theorem sm_un {u v : Int} (h : Un u v) (x i : Int) : sm u x i = v * (4 * x + 1 + 2 * i) := by
  obtain ⟨rfl, h1, h2⟩ := h
  unfold sm
  rw [show 4 * v / 4 = v by omega, show 4 * v / 2 = 2 * v by omega, Int.mul_add, Int.mul_add, Int.mul_one]
  rw [Int.mul_comm 4 v, Int.mul_assoc, show i * (2 * v) = v * (2 * i) by rw [Int.mul_comm, Int.mul_comm 2 v, Int.mul_assoc]]
theorem mul_v {v z : Int} (h1 : 1 ≤ v) (h2 : v ≤ 4) (hz : -100 ≤ z ∧ z ≤ 100) : -400 ≤ v * z ∧ v * z ≤ 400 := by
  obtain rfl | rfl | rfl | rfl : v = 1 ∨ v = 2 ∨ v = 3 ∨ v = 4 := by omega
  all_goals omega
theorem sm_in {u v : Int} (h : Un u v) {x i : Int} (hx : -12 ≤ x ∧ x ≤ 20) (hi : 0 ≤ i ∧ i ≤ 1) : -1000 ≤ sm u x i ∧ sm u x i ≤ 1000 := by
  rw [sm_un h]
  have := mul_v h.2.1 h.2.2 (show -100 ≤ 4 * x + 1 + 2 * i ∧ 4 * x + 1 + 2 * i ≤ 100 by omega)
  omega
/-- How many of the first samples of a dot lie in the rectangle. -/
def cB (x0 y0 x1 y1 u x y : Int) : Nat → Nat
  | 0 => 0
  | m + 1 => cB x0 y0 x1 y1 u x y m + inB x0 y0 x1 y1 (sm u x ((m % 2 : Nat) : Int)) (sm u y ((m / 2 : Nat) : Int))
theorem cB_le (x0 y0 x1 y1 u x y : Int) : ∀ m, cB x0 y0 x1 y1 u x y m ≤ m
  | 0 => Nat.le_refl _
  | m + 1 => by
    have := cB_le x0 y0 x1 y1 u x y m
    have h : ∀ s t, inB x0 y0 x1 y1 s t ≤ 1 := fun s t => by unfold inB; split <;> omega
    have := h (sm u x ((m % 2 : Nat) : Int)) (sm u y ((m / 2 : Nat) : Int))
    rw [cB]
    omega
theorem cq_box {x0 y0 x1 y1 u v x y : Int} (h : Cor x0 y0 x1 y1) (hu : Un u v) (hx : -12 ≤ x ∧ x ≤ 20) (hy : -12 ≤ y ∧ y ≤ 20) : ∀ m, m ≤ 4 → cq 1 (fun _ => 4) (fun _ => rcP x0 y0 x1 y1) u x y m = cB x0 y0 x1 y1 u x y m
  | 0, _ => rfl
  | m + 1, hm => by
    rw [cq, cB, cq_box h hu hx hy m (by omega), bit_box h (sm_in hu hx (by omega)) (sm_in hu hy (by omega))]
theorem cvr_box {x0 y0 x1 y1 u v x y : Int} (h : Cor x0 y0 x1 y1) (hu : Un u v) (hx : -12 ≤ x ∧ x ≤ 20) (hy : -12 ≤ y ∧ y ≤ 20) : cvr 1 (fun _ => 4) (fun _ => rcP x0 y0 x1 y1) u x y = cB x0 y0 x1 y1 u x y 4 := by
  unfold cvr
  rw [un_isU hu, (inR_iff x).2 (by omega), (inR_iff y).2 (by omega), if_pos (by rfl)]
  exact cq_box h hu hx hy 4 (Nat.le_refl _)
theorem cB_zero {x0 y0 x1 y1 u v x y : Int} (hu : Un u v) (ho : x < x0 / u ∨ x1 / u < x ∨ y < y0 / u ∨ y1 / u < y) : ∀ m, m ≤ 4 → cB x0 y0 x1 y1 u x y m = 0
  | 0, _ => rfl
  | m + 1, hm => by
    rw [cB, cB_zero hu ho m (by omega), Nat.zero_add]
    unfold inB
    have hu4 : 4 ≤ u := by have := hu.1; have := hu.2.1; omega
    have up : ∀ z i : Int, 0 ≤ i → i ≤ 1 → u * z < sm u z i ∧ sm u z i < u * (z + 1) := fun z i h0 h1 => by
      unfold sm
      obtain ⟨rfl, h2, h3⟩ := hu
      rw [show 4 * v / 4 = v by omega, show 4 * v / 2 = 2 * v by omega, Int.mul_add, Int.mul_one]
      obtain rfl | rfl : i = 0 ∨ i = 1 := by omega
      all_goals omega
    have ux := up x ((m % 2 : Nat) : Int) (by omega) (by omega)
    have uy := up y ((m / 2 : Nat) : Int) (by omega) (by omega)
    have lo : ∀ z w : Int, z < w / u → u * (z + 1) ≤ w := fun z w hz => by
      have h1 := floor_lo (x := w) hu4
      have h2 := Int.mul_le_mul_of_nonneg_left (show z + 1 ≤ w / u by omega) (show 0 ≤ u by omega)
      omega
    have hi : ∀ z w : Int, w / u < z → w < u * z := fun z w hz => by
      have h1 := floor_hi (x := w) hu4
      have h2 := Int.mul_le_mul_of_nonneg_left (show w / u + 1 ≤ z by omega) (show 0 ≤ u by omega)
      omega
    rw [if_neg]
    rintro ⟨q1, q2, q3, q4⟩
    rcases ho with h | h | h | h
    · have := lo _ _ h; omega
    · have := hi _ _ h; omega
    · have := lo _ _ h; omega
    · have := hi _ _ h; omega
theorem bx_box {x0 y0 x1 y1 : Int} (h : Cor x0 y0 x1 y1) : bxAll (fun _ => 4) (fun _ => rcP x0 y0 x1 y1) 1 = ⟨x0, y0, x1, y1⟩ := by
  obtain ⟨⟨h1, h2, h3⟩, h4, h5, h6⟩ := h
  simp only [bxAll, bxRow, rcUp, rcM, rcP, pgP, rcF]
  congr 1 <;> omega
/-- The sides of the picture. -/
theorem sides {u v a b : Int} (hu : Un u v) (h1 : -30 ≤ a) (h2 : a ≤ b) (h3 : b ≤ 59) : ∃ W : Nat, (W : Int) = b / u - a / u + 1 ∧ W ≤ 96 ∧ -8 ≤ a / u ∧ a / u ≤ 14 := by
  obtain ⟨rfl, h4, h5⟩ := hu
  obtain rfl | rfl | rfl | rfl : v = 1 ∨ v = 2 ∨ v = 3 ∨ v = 4 := by omega
  · exact ⟨(b / (4 * 1) - a / (4 * 1) + 1).toNat, by omega, by omega, by omega, by omega⟩
  · exact ⟨(b / (4 * 2) - a / (4 * 2) + 1).toNat, by omega, by omega, by omega, by omega⟩
  · exact ⟨(b / (4 * 3) - a / (4 * 3) + 1).toNat, by omega, by omega, by omega, by omega⟩
  · exact ⟨(b / (4 * 4) - a / (4 * 4) + 1).toNat, by omega, by omega, by omega, by omega⟩
theorem has_box {x0 y0 x1 y1 u v x y : Int} {W H : Nat} (h : Cor x0 y0 x1 y1) (hu : Un u v) (hx : -12 ≤ x ∧ x ≤ 20) (hy : -12 ≤ y ∧ y ≤ 20) (hW : (W : Int) = x1 / u - x0 / u + 1) (hH : (H : Int) = y1 / u - y0 / u + 1) (hW9 : W ≤ 96) (hH9 : H ≤ 96) :
    has (W : Int) (H : Int) (W * H) (dotF 1 (fun _ => 4) (fun _ => rcP x0 y0 x1 y1) u (x0 / u) (y0 / u) W) (x - x0 / u) (y - y0 / u) = decide (2 ≤ cB x0 y0 x1 y1 u x y 4) := by
  unfold has
  have hg : gd (W : Int) (H : Int) (W * H) = true := (gd_iff _ _ _).2 ⟨⟨by omega, by omega⟩, ⟨by omega, by omega⟩, by simp⟩
  rw [hg, Bool.true_and]
  rcases hi : ins (W : Int) (H : Int) (x - x0 / u) (y - y0 / u) with _ | _
  · rw [Bool.false_and]
    have hn : ¬ ins (W : Int) (H : Int) (x - x0 / u) (y - y0 / u) = true := by rw [hi]; simp
    rw [ins_iff] at hn
    rw [cB_zero hu (by omega) 4 (Nat.le_refl _)]
    rfl
  · rw [Bool.true_and]
    rw [ins_iff] at hi
    obtain ⟨a1, a2, a3, a4⟩ := hi
    obtain ⟨p, hp⟩ : ∃ p : Nat, x - x0 / u = (p : Int) := ⟨(x - x0 / u).toNat, by omega⟩
    obtain ⟨q, hq⟩ : ∃ q : Nat, y - y0 / u = (q : Int) := ⟨(y - y0 / u).toNat, by omega⟩
    rw [hp, hq]
    have hpW : p < W := by omega
    have e : ((q : Int) * (W : Int) + (p : Int)).toNat = q * W + p := by
      rw [show (q : Int) * (W : Int) + (p : Int) = ((q * W + p : Nat) : Int) by simp]
      rfl
    rw [e]
    unfold dotF
    rw [show (q * W + p) % W = p by rw [Nat.add_comm, Nat.add_mul_mod_self_right, Nat.mod_eq_of_lt hpW], show (q * W + p) / W = q by rw [Nat.add_comm, Nat.add_mul_div_right _ _ (by omega), Nat.div_eq_of_lt hpW, Nat.zero_add], show x0 / u + (p : Int) = x by omega, show y0 / u + (q : Int) = y by omega, cvr_box h hu hx hy]
end Go.Proofs.Ytjeiapgniflnaaa.Rs
