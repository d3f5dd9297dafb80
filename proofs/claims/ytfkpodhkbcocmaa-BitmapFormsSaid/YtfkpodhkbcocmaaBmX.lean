/-
  Layer 4 (bitmap): mathematics of counts.
-/
import Derived.Test.YtfkpodhkbcocmaaBmU
namespace Go.Proofs.Ytfkpodhkbcocmaa.Bm
open Go.RowKit
theorem cn_congr {P Q : Nat → Bool} : ∀ n, (∀ k, k < n → P k = Q k) → cn P n = cn Q n
  | 0, _ => rfl
  | n + 1, h => by rw [cn, cn, cn_congr n (fun k hk => h k (by omega)), h n (by omega)]
theorem cn_zero {P : Nat → Bool} : ∀ n, (∀ k, k < n → P k = false) → cn P n = 0
  | 0, _ => rfl
  | n + 1, h => by rw [cn_no (h n (by omega)), cn_zero n (fun k hk => h k (by omega))]
theorem cn_split (P G : Nat → Bool) : ∀ n, cn P n = cn (fun k => P k && G k) n + cn (fun k => P k && !G k) n
  | 0 => rfl
  | n + 1 => by
    rw [cn, cn, cn, cn_split P G n]
    cases P n <;> cases G n <;> simp <;> omega
theorem cn_remove {P : Nat → Bool} {m : Nat} (hm : P m = true) : ∀ n, m < n → cn P n = cn (fun k => P k && !decide (k = m)) n + 1
  | 0, h => absurd h (by omega)
  | n + 1, h => by
    rcases Nat.lt_or_ge m n with h1 | h1
    · rw [cn, cn, cn_remove hm n h1]
      have : decide (n = m) = false := decide_eq_false (by omega)
      rw [this]
      simp
      omega
    · obtain rfl : m = n := by omega
      rw [cn_yes hm, cn_no (by simp)]
      congr 1
      exact cn_congr m (fun k hk => by rw [decide_eq_false (by omega)]; simp)
theorem cn_inj {φ : Nat → Nat} {n' : Nat} : ∀ (n : Nat) (P P' : Nat → Bool), (∀ k, k < n → P k = true → φ k < n' ∧ P' (φ k) = true) → (∀ j k, j < n → k < n → P j = true → P k = true → φ j = φ k → j = k) → cn P n ≤ cn P' n'
  | 0, _, _, _, _ => Nat.zero_le _
  | n + 1, P, P', h1, h2 => by
    rcases hp : P n with _ | _
    · rw [cn_no hp]
      exact cn_inj n P P' (fun k hk => h1 k (by omega)) (fun j k hj hk => h2 j k (by omega) (by omega))
    · obtain ⟨hl, hq⟩ := h1 n (by omega) hp
      rw [cn_yes hp, cn_remove hq n' hl]
      refine Nat.succ_le_succ (cn_inj n P _ (fun k hk hpk => ?_) (fun j k hj hk => h2 j k (by omega) (by omega)))
      obtain ⟨a, b⟩ := h1 k (by omega) hpk
      refine ⟨a, ?_⟩
      rw [b, decide_eq_false (fun e => by have := h2 k n (by omega) (by omega) hpk hp e; omega)]
      rfl
/-- How many positions of a rectangle fulfil P. -/
def K (W H : Nat) (P : Int → Int → Bool) : Nat := cn (fun k => P ((k : Int) % W) ((k : Int) / W)) (W * H)
theorem at_pos {W H k : Nat} (hk : k < W * H) : 0 < W ∧ 0 ≤ (k : Int) % W ∧ (k : Int) % W < W ∧ 0 ≤ (k : Int) / W ∧ (k : Int) / W < H ∧ (k : Int) / W * W + (k : Int) % W = k := by
  obtain ⟨h0, h1, h2, h3, h4, h5⟩ := t_side (W := W) (H := H) (n := W * H) (t := k) (by simp) hk (by omega) (by omega)
  exact ⟨by omega, h1, h2, h3, h4, h5⟩
theorem K_shift {W H W' H' : Nat} {P P' : Int → Int → Bool} (a b : Int) (h : ∀ x y : Int, 0 ≤ x → x < W → 0 ≤ y → y < H → P x y = true → 0 ≤ x + a ∧ x + a < W' ∧ 0 ≤ y + b ∧ y + b < H' ∧ P' (x + a) (y + b) = true) : K W H P ≤ K W' H' P' := by
  refine cn_inj (φ := fun k => (((k : Int) / W + b) * W' + ((k : Int) % W + a)).toNat) _ _ _ (fun k hk hp => ?_) (fun j k hj hk hpj hpk e => ?_)
  · obtain ⟨h0, h1, h2, h3, h4, h5⟩ := at_pos hk
    obtain ⟨g1, g2, g3, g4, g5⟩ := h _ _ h1 h2 h3 h4 hp
    have hb := pos_in ⟨g1, g2⟩ ⟨g3, g4⟩
    have hc : ((((k : Int) / W + b) * W' + ((k : Int) % W + a)).toNat : Int) = ((k : Int) / W + b) * W' + ((k : Int) % W + a) := by omega
    have hd := div_mod_at (v := (k : Int) / W + b) ⟨g1, g2⟩
    refine ⟨?_, ?_⟩
    · have : ((((k : Int) / W + b) * W' + ((k : Int) % W + a)).toNat : Int) < (W' * H' : Nat) := by rw [hc, Int.natCast_mul]; exact hb.2
      omega
    · rw [hc, hd.1, hd.2]
      exact g5
  · obtain ⟨h0, h1, h2, h3, h4, h5⟩ := at_pos hj
    obtain ⟨g1, g2, g3, g4, _⟩ := h _ _ h1 h2 h3 h4 hpj
    obtain ⟨_, i1, i2, i3, i4, i5⟩ := at_pos hk
    obtain ⟨f1, f2, f3, f4, _⟩ := h _ _ i1 i2 i3 i4 hpk
    have hb := pos_in ⟨g1, g2⟩ ⟨g3, g4⟩
    have hb' := pos_in ⟨f1, f2⟩ ⟨f3, f4⟩
    have e2 : ((j : Int) / W + b) * W' + ((j : Int) % W + a) = ((k : Int) / W + b) * W' + ((k : Int) % W + a) := by omega
    have hd := div_mod_at (v := (j : Int) / W + b) ⟨g1, g2⟩
    have hd' := div_mod_at (v := (k : Int) / W + b) ⟨f1, f2⟩
    rw [e2] at hd
    have m1 : (j : Int) % W = (k : Int) % W := by have := hd.1.symm.trans hd'.1; omega
    have m2 : (j : Int) / W = (k : Int) / W := by have := hd.2.symm.trans hd'.2; omega
    rw [m1, m2] at h5
    omega
theorem K_split (W H : Nat) (P G : Int → Int → Bool) : K W H P = K W H (fun x y => P x y && G x y) + K W H (fun x y => P x y && !G x y) := cn_split _ _ _
theorem K_congr {W H : Nat} {P Q : Int → Int → Bool} (h : ∀ x y : Int, 0 ≤ x → x < W → 0 ≤ y → y < H → P x y = Q x y) : K W H P = K W H Q :=
  cn_congr _ (fun k hk => by
    obtain ⟨_, h1, h2, h3, h4, _⟩ := at_pos hk
    exact h _ _ h1 h2 h3 h4)
theorem K_zero {W H : Nat} {P : Int → Int → Bool} (h : ∀ x y : Int, 0 ≤ x → x < W → 0 ≤ y → y < H → P x y = false) : K W H P = 0 :=
  cn_zero _ (fun k hk => by
    obtain ⟨_, h1, h2, h3, h4, _⟩ := at_pos hk
    exact h _ _ h1 h2 h3 h4)
/-- The dots of a well-formed bitmap, by position. -/
def D (W H : Nat) (f : Nat → Bool) (x y : Int) : Bool := has W H (W * H) f x y
theorem gd_nat {W H : Nat} (hW : W ≤ 96) (hH : H ≤ 96) : gd W H (W * H) = true := (gd_iff _ _ _).2 ⟨by omega, by omega, by simp⟩
theorem D_in {W H : Nat} {f : Nat → Bool} {x y : Int} (h : D W H f x y = true) : 0 ≤ x ∧ x < W ∧ 0 ≤ y ∧ y < H := by
  unfold D has at h
  rw [Bool.and_eq_true, Bool.and_eq_true, ins_iff] at h
  exact h.2.1
theorem D_at {W H k : Nat} {f : Nat → Bool} (hW : W ≤ 96) (hH : H ≤ 96) (hk : k < W * H) : D W H f ((k : Int) % W) ((k : Int) / W) = f k := by
  obtain ⟨_, h1, h2, h3, h4, h5⟩ := at_pos hk
  unfold D has
  rw [gd_nat hW hH, (ins_iff _ _ _ _).2 ⟨h1, h2, h3, h4⟩, h5, Int.toNat_natCast]
  rfl
theorem nd_nat {W H : Nat} (hW : W ≤ 96) (hH : H ≤ 96) : nd W H (W * H) = W * H := by unfold nd; rw [if_pos (gd_nat hW hH)]
theorem count_K {W H : Nat} {f : Nat → Bool} (hW : W ≤ 96) (hH : H ≤ 96) : count W H (W * H) f = K W H (D W H f) := by
  unfold count K
  rw [nd_nat hW hH]
  exact cn_congr _ (fun k hk => (D_at hW hH hk).symm)
/-- What only counts. -/
def oP (W H W2 H2 : Nat) (f f2 : Nat → Bool) (dx dy fr ti : Int) (x y : Int) : Bool := D W H f x y && ((decide (x < fr) || decide (ti ≤ x)) && !D W2 H2 f2 (x - dx) (y - dy))
def sml (d : Int) : Prop := -1000000 ≤ d ∧ d ≤ 1000000
theorem only_K {W H W2 H2 : Nat} {f f2 : Nat → Bool} {dx dy fr ti : Int} (hW : W ≤ 96) (hH : H ≤ 96) (hx : sml dx) (hy : sml dy) : only W H (W * H) f W2 H2 (W2 * H2) f2 dx dy fr ti = K W H (oP W H W2 H2 f f2 dx dy fr ti) := by
  unfold only K
  rw [nd_nat hW hH]
  refine cn_congr _ (fun k hk => ?_)
  obtain ⟨_, h1, h2, h3, h4, _⟩ := at_pos hk
  obtain ⟨x1, x2⟩ := hx
  obtain ⟨y1, y2⟩ := hy
  simp only [onlyQ, alone, oP, D_at hW hH hk]
  rw [wrap_id (x := (k : Int) % W - dx) ⟨by omega, by omega⟩, wrap_id (x := (k : Int) / W - dy) ⟨by omega, by omega⟩]
  rfl
/-- What a has alone is at most what it has alone against b and what b has alone against c. -/
theorem only_tri {W H W2 H2 W3 H3 : Nat} {f f2 f3 : Nat → Bool} {dx dy ex ey : Int} (hW : W ≤ 96) (hH : H ≤ 96) (hW2 : W2 ≤ 96) (hH2 : H2 ≤ 96) (h1 : sml dx) (h2 : sml dy) (h3 : sml ex) (h4 : sml ey) (h5 : sml (dx + ex)) (h6 : sml (dy + ey)) :
    only W H (W * H) f W3 H3 (W3 * H3) f3 (dx + ex) (dy + ey) 0 0 ≤ only W H (W * H) f W2 H2 (W2 * H2) f2 dx dy 0 0 + only W2 H2 (W2 * H2) f2 W3 H3 (W3 * H3) f3 ex ey 0 0 := by
  rw [only_K hW hH h5 h6, only_K hW hH h1 h2, only_K hW2 hH2 h3 h4, K_split W H _ (fun x y => D W2 H2 f2 (x - dx) (y - dy)), Nat.add_comm]
  refine Nat.add_le_add ?_ ?_
  · refine K_shift 0 0 (fun x y a b c d h => ?_)
    simp only [oP, Bool.and_eq_true, Bool.not_eq_true', Int.add_zero] at h ⊢
    obtain ⟨⟨e1, e2, _⟩, e3⟩ := h
    exact ⟨by omega, by omega, by omega, by omega, e1, e2, e3⟩
  · refine K_shift (-dx) (-dy) (fun x y a b c d h => ?_)
    simp only [oP, Bool.and_eq_true, Bool.not_eq_true'] at h ⊢
    obtain ⟨⟨e1, _, e2⟩, e3⟩ := h
    obtain ⟨g1, g2, g3, g4⟩ := D_in e3
    rw [← Int.sub_eq_add_neg, ← Int.sub_eq_add_neg]
    refine ⟨g1, g2, g3, g4, e3, ?_, ?_⟩
    · by_cases hh : x - dx < 0
      · omega
      · simp; omega
    · rw [show x - dx - ex = x - (dx + ex) by omega, show y - dy - ey = y - (dy + ey) by omega]
      exact e2
/-- Dots in common are the same at the opposite shift. -/
theorem only_turn {W H W2 H2 : Nat} {f f2 : Nat → Bool} {dx dy : Int} (hW : W ≤ 96) (hH : H ≤ 96) (hW2 : W2 ≤ 96) (hH2 : H2 ≤ 96) (h1 : sml dx) (h2 : sml dy) (h3 : sml (-dx)) (h4 : sml (-dy)) :
    (count W H (W * H) f : Int) - only W H (W * H) f W2 H2 (W2 * H2) f2 dx dy 0 0 = count W2 H2 (W2 * H2) f2 - only W2 H2 (W2 * H2) f2 W H (W * H) f (-dx) (-dy) 0 0 := by
  have common : ∀ {W H W2 H2 : Nat} {f f2 : Nat → Bool} {dx dy : Int}, W ≤ 96 → H ≤ 96 → sml dx → sml dy → count W H (W * H) f = K W H (fun x y => D W H f x y && D W2 H2 f2 (x - dx) (y - dy)) + only W H (W * H) f W2 H2 (W2 * H2) f2 dx dy 0 0 := by
    intro W H W2 H2 f f2 dx dy hW hH h1 h2
    rw [count_K hW hH, only_K hW hH h1 h2, K_split W H (D W H f) (fun x y => D W2 H2 f2 (x - dx) (y - dy))]
    refine congrArg (fun z => K W H (fun x y => D W H f x y && D W2 H2 f2 (x - dx) (y - dy)) + z) (K_congr (fun x y a b c d => ?_))
    have : (decide (x < 0) || decide (0 ≤ x)) = true := by rw [decide_eq_true a, Bool.or_true]
    simp only [oP, this, Bool.true_and]
  have half : ∀ {W H W2 H2 : Nat} {f f2 : Nat → Bool} {dx dy : Int}, K W H (fun x y => D W H f x y && D W2 H2 f2 (x - dx) (y - dy)) ≤ K W2 H2 (fun x y => D W2 H2 f2 x y && D W H f (x - -dx) (y - -dy)) := by
    intro W H W2 H2 f f2 dx dy
    refine K_shift (-dx) (-dy) (fun x y a b c d h => ?_)
    simp only [Bool.and_eq_true] at h ⊢
    obtain ⟨e1, e2⟩ := h
    rw [← Int.sub_eq_add_neg, ← Int.sub_eq_add_neg]
    obtain ⟨g1, g2, g3, g4⟩ := D_in e2
    refine ⟨g1, g2, g3, g4, e2, ?_⟩
    rw [show x - dx - -dx = x by omega, show y - dy - -dy = y by omega]
    exact e1
  have c1 := common (f := f) (f2 := f2) (W2 := W2) (H2 := H2) hW hH h1 h2
  have c2 := common (f := f2) (f2 := f) (W2 := W) (H2 := H) hW2 hH2 h3 h4
  have l1 := half (W := W) (H := H) (W2 := W2) (H2 := H2) (f := f) (f2 := f2) (dx := dx) (dy := dy)
  have l2 := half (W := W2) (H := H2) (W2 := W) (H2 := H) (f := f2) (f2 := f) (dx := -dx) (dy := -dy)
  rw [Int.neg_neg, Int.neg_neg] at l2
  omega
theorem only_self {W H : Nat} {f : Nat → Bool} (hW : W ≤ 96) (hH : H ≤ 96) : only W H (W * H) f W H (W * H) f 0 0 0 0 = 0 := by
  rw [only_K hW hH ⟨by omega, by omega⟩ ⟨by omega, by omega⟩]
  refine K_zero (fun x y a b c d => ?_)
  simp only [oP, Int.sub_zero]
  cases D W H f x y <;> simp
theorem only_none {W H : Nat} {f g : Nat → Bool} {dx dy : Int} (hW : W ≤ 96) (hH : H ≤ 96) (h1 : sml dx) (h2 : sml dy) : only W H (W * H) f 0 0 0 g dx dy 0 0 = count W H (W * H) f := by
  have := only_K (W2 := 0) (H2 := 0) (f := f) (f2 := g) (fr := 0) (ti := 0) hW hH h1 h2
  rw [Nat.mul_zero] at this
  rw [show ((0 : Nat) : Int) = 0 from rfl] at this
  rw [this, count_K hW hH]
  refine K_congr (fun x y a b c d => ?_)
  have e1 : (decide (x < 0) || decide (0 ≤ x)) = true := by rw [decide_eq_true a, Bool.or_true]
  have e2 : D 0 0 g (x - dx) (y - dy) = false := by
    rw [Bool.eq_false_iff]
    intro h
    have := D_in h
    omega
  simp only [oP, e1, e2, Bool.not_false, Bool.and_true]
/-- A part of a bitmap. -/
theorem D_crop {W H w h : Nat} {f : Nat → Bool} {a b : Int} (hw : w ≤ 96) (hh : h ≤ 96) (ha : sml a) (hb : sml b) {x y : Int} (h1 : 0 ≤ x) (h2 : x < w) (h3 : 0 ≤ y) (h4 : y < h) : D w h (crp w W H (W * H) f a b) x y = D W H f (a + x) (b + y) := by
  have hp := pos_in ⟨h1, h2⟩ ⟨h3, h4⟩
  have hd := div_mod_at (v := y) ⟨h1, h2⟩
  obtain ⟨a1, a2⟩ := ha
  obtain ⟨b1, b2⟩ := hb
  have hc : ((y * w + x).toNat : Int) = y * w + x := by omega
  conv => lhs; unfold D has
  rw [gd_nat hw hh, (ins_iff _ _ _ _).2 ⟨h1, h2, h3, h4⟩, Bool.true_and, Bool.true_and]
  unfold crp
  rw [hc, hd.1, hd.2, wrap_id (x := a + x) ⟨by omega, by omega⟩, wrap_id (x := b + y) ⟨by omega, by omega⟩]
  rfl
/-- Columns that are left out take away exactly their dots. -/
theorem only_cols {W H W2 H2 w : Nat} {f f2 : Nat → Bool} {dx dy fr ti : Int} (hW : W ≤ 96) (hH : H ≤ 96) (hw : w ≤ 96) (hti : ti = fr + w) (h1 : sml dx) (h2 : sml dy) (h3 : sml fr) (h4 : sml (fr - dx)) (h5 : sml (-dy)) :
    only W H (W * H) f W2 H2 (W2 * H2) f2 dx dy 0 0 = only W H (W * H) f W2 H2 (W2 * H2) f2 dx dy fr ti + only w H (w * H) (crp w W H (W * H) f fr 0) w H (w * H) (crp w W2 H2 (W2 * H2) f2 (fr - dx) (-dy)) 0 0 0 0 := by
  have z : sml 0 := ⟨by omega, by omega⟩
  rw [only_K hW hH h1 h2, only_K hW hH h1 h2, only_K hw hH z z, K_split W H _ (fun x y => decide (x < fr) || decide (ti ≤ x))]
  have part : ∀ {x y : Int}, 0 ≤ x → x < w → 0 ≤ y → y < H → oP w H w H (crp w W H (W * H) f fr 0) (crp w W2 H2 (W2 * H2) f2 (fr - dx) (-dy)) 0 0 0 0 x y = (D W H f (fr + x) y && !D W2 H2 f2 (fr + x - dx) (y - dy)) := by
    intro x y a b c d
    have e1 : (decide (x < 0) || decide (0 ≤ x)) = true := by rw [decide_eq_true a, Bool.or_true]
    simp only [oP, Int.sub_zero, e1, Bool.true_and]
    rw [D_crop hw hH h3 z a b c d, D_crop hw hH h4 h5 a b c d, show (0 : Int) + y = y by omega, show fr - dx + x = fr + x - dx by omega, show -dy + y = y - dy by omega]
  congr 1
  · refine K_congr (fun x y a b c d => ?_)
    have e1 : (decide (x < 0) || decide (0 ≤ x)) = true := by rw [decide_eq_true a, Bool.or_true]
    simp only [oP, e1, Bool.true_and]
    cases D W H f x y <;> cases (decide (x < fr) || decide (ti ≤ x)) <;> cases D W2 H2 f2 (x - dx) (y - dy) <;> rfl
  · refine Nat.le_antisymm ?_ ?_
    · refine K_shift (-fr) 0 (fun x y a b c d h => ?_)
      simp only [Bool.and_eq_true, Bool.not_eq_true', Bool.or_eq_false_iff, decide_eq_false_iff_not] at h
      obtain ⟨e1, e2, e3⟩ := h
      refine ⟨by omega, by omega, by omega, by omega, ?_⟩
      rw [part (by omega) (by omega) (by omega) (by omega), show fr + (x + -fr) = x by omega, Int.add_zero]
      simp only [oP, Bool.and_eq_true] at e1
      simp only [Bool.and_eq_true]
      exact ⟨e1.1, e1.2.2⟩
    · refine K_shift fr 0 (fun x y a b c d h => ?_)
      rw [part a b c d] at h
      rw [Bool.and_eq_true] at h
      obtain ⟨e1, e2⟩ := h
      obtain ⟨g1, g2, g3, g4⟩ := D_in e1
      refine ⟨by omega, by omega, by omega, by omega, ?_⟩
      rw [show x + fr = fr + x by omega, Int.add_zero]
      have q1 : (decide (fr + x < fr) || decide (ti ≤ fr + x)) = false := by rw [Bool.or_eq_false_iff, decide_eq_false_iff_not, decide_eq_false_iff_not]; omega
      have q2 : (decide (fr + x < 0) || decide (0 ≤ fr + x)) = true := by rw [decide_eq_true g1, Bool.or_true]
      simp only [oP, q1, q2, e1, e2, Bool.true_and, Bool.not_false]
end Go.Proofs.Ytfkpodhkbcocmaa.Bm
