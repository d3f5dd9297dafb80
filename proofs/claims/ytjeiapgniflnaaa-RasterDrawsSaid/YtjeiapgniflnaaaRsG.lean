/-
  Layer 7 (raster): samples beyond a number; how turns counts, as numbers alone.
-/
import Derived.Test.YtjeiapgniflnaaaRsE
import Derived.Test.YtjeiapgniflnaaaRsF
namespace Go.Proofs.Ytjeiapgniflnaaa.Rs
open Go.RowKit
open Go.Proofs.Ytjeiapgniflnaaa.Ot
/-- The coordinate of the sample of a number; the first sample beyond a number. -/
def smr (u k : Int) : Int := u / 4 * (2 * k + 1)
def fb (n u : Int) : Int := (n + u / 4) / (u / 2)
theorem unit4 {u : Int} (h : isU u = true) : ∃ v, u = 4 * v ∧ 1 ≤ v ∧ v ≤ 268435456 ∧ u / 4 = v ∧ u / 2 = 2 * v := by
  obtain ⟨h1, h2, h3⟩ := (isU_iff u).1 h
  exact ⟨u / 4, by omega, by omega, by omega, rfl, by omega⟩
theorem fb_le {u : Int} (h : isU u = true) (n k : Int) : fb n u ≤ k ↔ n < smr u k := by
  obtain ⟨v, rfl, h1, h2, h3, h4⟩ := unit4 h
  unfold fb smr
  rw [h3, h4]
  have e : (n + v) / (2 * v) ≤ k ↔ (n + v) / (2 * v) < k + 1 := by omega
  rw [e, Int.ediv_lt_iff_lt_mul (by omega)]
  have e2 : (k + 1) * (2 * v) = v * (2 * k + 1) + v := by grind
  rw [e2]
  omega
theorem fb_gt {u : Int} (h : isU u = true) (n k : Int) : k < fb n u ↔ smr u k ≤ n := by
  have := fb_le h n k
  omega
theorem smr_sm {u : Int} (h : isU u = true) (x i : Int) : smr u (2 * x + i) = sm u x i := smp_eq u x i ((isU_iff u).1 h).2.2
theorem smr_mono {u : Int} (h : isU u = true) {k l : Int} (hk : k ≤ l) : smr u k ≤ smr u l := by
  obtain ⟨v, rfl, h1, h2, h3, h4⟩ := unit4 h
  unfold smr
  rw [h3]
  exact Int.mul_le_mul_of_nonneg_left (by omega) (by omega)
theorem fb_mono {u : Int} (h : isU u = true) {m n : Int} (hm : m ≤ n) : fb m u ≤ fb n u := by
  rw [fb_le h]
  have := (fb_le h n (fb n u)).1 (Int.le_refl _)
  omega
/-- Where a picture lies. -/
structure Geo (u Le Lo : Int) (W H : Nat) : Prop where
  u : isU u = true
  W : 0 ≤ W ∧ W ≤ 96
  H : 0 ≤ H ∧ H ≤ 96
  Le : -268435456 ≤ Le ∧ Le ≤ 268435456
  Lo : -268435456 ≤ Lo ∧ Lo ≤ 268435456
/-- A point in a picture. -/
def inG (u Le Lo : Int) (W H : Nat) (p : Pt) : Prop := (u * Le ≤ p.x ∧ p.x < u * (Le + W)) ∧ (u * Lo ≤ p.y ∧ p.y < u * (Lo + H))
theorem smr_lo {u : Int} (h : isU u = true) {k x : Int} (hk : k < 2 * x) : smr u k < u * x := by
  obtain ⟨v, rfl, h1, h2, h3, h4⟩ := unit4 h
  unfold smr
  rw [h3]
  have e : v * (2 * k + 1) ≤ v * (4 * x - 1) := Int.mul_le_mul_of_nonneg_left (by omega) (by omega)
  have e2 : v * (4 * x - 1) = 4 * v * x - v := by grind
  omega
theorem smr_hi {u : Int} (h : isU u = true) {k x : Int} (hk : 2 * x ≤ k) : u * x < smr u k := by
  obtain ⟨v, rfl, h1, h2, h3, h4⟩ := unit4 h
  unfold smr
  rw [h3]
  have e : v * (4 * x + 1) ≤ v * (2 * k + 1) := Int.mul_le_mul_of_nonneg_left (by omega) (by omega)
  have e2 : v * (4 * x + 1) = 4 * v * x + v := by grind
  omega
theorem pasE_iff (e : Ed) (y : Int) : pasE e y = true ↔ e.l.y ≤ y ∧ y < e.h.y := by unfold pasE; simp
/-- X of an edge lies between those of its ends. -/
theorem atE_in {e : Ed} {y lo hi : Int} (h1 : e.l.y ≤ y) (h2 : y < e.h.y) (hl : lo ≤ e.l.x ∧ e.l.x ≤ hi) (hh : lo ≤ e.h.x ∧ e.h.x ≤ hi) : lo ≤ atE e y ∧ atE e y ≤ hi := by
  unfold atE
  have hd : 0 < e.h.y - e.l.y := by omega
  have hn : 0 ≤ y - e.l.y ∧ y - e.l.y ≤ e.h.y - e.l.y := by omega
  constructor
  · have k : (lo - e.l.x) ≤ (e.h.x - e.l.x) * (y - e.l.y) / (e.h.y - e.l.y) := by
      rw [Int.le_ediv_iff_mul_le hd]
      rcases Int.le_total 0 (e.h.x - e.l.x) with h | h
      · have a1 : 0 ≤ (e.h.x - e.l.x) * (y - e.l.y) := Int.mul_nonneg h hn.1
        have a2 : (lo - e.l.x) * (e.h.y - e.l.y) ≤ 0 := Int.mul_nonpos_of_nonpos_of_nonneg (by omega) (by omega)
        omega
      · have a1 : (e.h.x - e.l.x) * (e.h.y - e.l.y) ≤ (e.h.x - e.l.x) * (y - e.l.y) := Int.mul_le_mul_of_nonpos_left h hn.2
        have a2 : (lo - e.l.x) * (e.h.y - e.l.y) ≤ (e.h.x - e.l.x) * (e.h.y - e.l.y) := Int.mul_le_mul_of_nonneg_right (by omega) (by omega)
        omega
    omega
  · have k : (e.h.x - e.l.x) * (y - e.l.y) / (e.h.y - e.l.y) ≤ hi - e.l.x := by
      apply Int.ediv_le_of_le_mul hd
      rcases Int.le_total 0 (e.h.x - e.l.x) with h | h
      · have a1 : (e.h.x - e.l.x) * (y - e.l.y) ≤ (e.h.x - e.l.x) * (e.h.y - e.l.y) := Int.mul_le_mul_of_nonneg_left hn.2 h
        have a2 : (e.h.x - e.l.x) * (e.h.y - e.l.y) ≤ (hi - e.l.x) * (e.h.y - e.l.y) := Int.mul_le_mul_of_nonneg_right (by omega) (by omega)
        omega
      · have a1 : (e.h.x - e.l.x) * (y - e.l.y) ≤ 0 := Int.mul_nonpos_of_nonpos_of_nonneg h hn.1
        have a2 : 0 ≤ (hi - e.l.x) * (e.h.y - e.l.y) := Int.mul_nonneg (by omega) (by omega)
        omega
    omega
/-- Rows that an edge passes, and where it does, lie in the picture. -/
theorem row_in {u Le Lo : Int} {W H : Nat} (G : Geo u Le Lo W H) {e : Ed} (hl : inG u Le Lo W H e.l) (hh : inG u Le Lo W H e.h) {r : Int} (hp : pasE e (smr u r) = true) : 2 * Lo ≤ r ∧ r < 2 * Lo + 2 * H := by
  obtain ⟨p1, p2⟩ := (pasE_iff _ _).1 hp
  constructor
  · rcases Int.lt_or_le r (2 * Lo) with h | h
    · have := smr_lo G.u h
      have := hl.2.1
      omega
    · exact h
  · rcases Int.lt_or_le r (2 * Lo + 2 * H) with h | h
    · exact h
    · have := smr_hi G.u (k := r) (x := Lo + H) (by omega)
      have := hh.2.2
      omega
theorem col_in {u Le Lo : Int} {W H : Nat} (G : Geo u Le Lo W H) {e : Ed} (hl : inG u Le Lo W H e.l) (hh : inG u Le Lo W H e.h) {y : Int} (hp : pasE e y = true) : 0 ≤ fb (atE e y) u - 2 * Le ∧ fb (atE e y) u - 2 * Le ≤ 2 * W := by
  obtain ⟨p1, p2⟩ := (pasE_iff _ _).1 hp
  obtain ⟨a1, a2⟩ := atE_in (lo := u * Le) (hi := u * (Le + W) - 1) p1 p2 ⟨hl.1.1, by have := hl.1.2; omega⟩ ⟨hh.1.1, by have := hh.1.2; omega⟩
  constructor
  · rcases Int.lt_or_le (fb (atE e y) u) (2 * Le) with h | h
    · have h1 := (fb_le G.u (atE e y) (2 * Le - 1)).1 (by omega)
      have := smr_lo G.u (k := 2 * Le - 1) (x := Le) (by omega)
      omega
    · omega
  · have h1 := smr_hi G.u (k := 2 * (Le + W)) (x := Le + W) (by omega)
    have := (fb_le G.u (atE e y) (2 * (Le + W))).2 (by omega)
    omega
/-- What an edge adds to a cell. -/
def dE (u Le Lo : Int) (W : Nat) (i : Nat) (e : Ed) : Int :=
  if (pasE e (smr u (2 * Lo + (i / (2 * W + 1) : Nat))) && decide (fb (atE e (smr u (2 * Lo + (i / (2 * W + 1) : Nat)))) u - 2 * Le = ((i % (2 * W + 1) : Nat) : Int))) = true then e.w else 0
def tF (u Le Lo : Int) (W : Nat) (E : Nat → Ed) (j i : Nat) : Int := sE (dE u Le Lo W i) E j
/-- The first sample of an edge, and how many it passes. -/
def eF (u : Int) (e : Ed) : Int := fb (e.l.y - 1) u
def eN (u : Int) (e : Ed) : Nat := (fb (e.h.y - 1) u - fb (e.l.y - 1) u).toNat
theorem mkE_le (p q : Pt) : (mkE p q).l.y ≤ (mkE p q).h.y := by unfold mkE; split <;> simp <;> omega
theorem eN_eq {u : Int} (h : isU u = true) {e : Ed} (he : e.l.y ≤ e.h.y) : ((eN u e : Nat) : Int) = fb (e.h.y - 1) u - fb (e.l.y - 1) u := by
  have := fb_mono h (m := e.l.y - 1) (n := e.h.y - 1) (by omega)
  unfold eN
  omega
theorem pas_rows {u : Int} (h : isU u = true) {e : Ed} (he : e.l.y ≤ e.h.y) (r : Int) : pasE e (smr u r) = true ↔ eF u e ≤ r ∧ r < eF u e + eN u e := by
  rw [pasE_iff, eN_eq h he]
  unfold eF
  have h1 := fb_le h (e.l.y - 1) r
  have h2 := fb_gt h (e.h.y - 1) r
  omega
/-- While an edge is counted. -/
def tP (u Le Lo : Int) (W : Nat) (E : Nat → Ed) (j k i : Nat) : Int := tF u Le Lo W E j i + if 2 * Lo + (i / (2 * W + 1) : Nat) < eF u (E j) + k then dE u Le Lo W i (E j) else 0
theorem tP_zero {u Le Lo : Int} {W : Nat} {E : Nat → Ed} {j : Nat} (h : isU u = true) (he : (E j).l.y ≤ (E j).h.y) (i : Nat) : tP u Le Lo W E j 0 i = tF u Le Lo W E j i := by
  unfold tP
  split
  · rename_i h1
    unfold dE
    rw [if_neg]
    · omega
    · intro h2
      rw [Bool.and_eq_true] at h2
      have := (pas_rows h he _).1 h2.1
      omega
  · omega
theorem tP_all {u Le Lo : Int} {W : Nat} {E : Nat → Ed} {j : Nat} (h : isU u = true) (he : (E j).l.y ≤ (E j).h.y) (i : Nat) : tP u Le Lo W E j (eN u (E j)) i = tF u Le Lo W E (j + 1) i := by
  have e : tF u Le Lo W E (j + 1) i = tF u Le Lo W E j i + dE u Le Lo W i (E j) := rfl
  rw [e]
  unfold tP
  split
  · rfl
  · rename_i h1
    unfold dE
    rw [if_neg]
    intro h2
    rw [Bool.and_eq_true] at h2
    have := (pas_rows h he _).1 h2.1
    omega
theorem tP_next {u Le Lo : Int} {W : Nat} {E : Nat → Ed} {j k y x : Nat} (h : isU u = true) (he : (E j).l.y ≤ (E j).h.y) (hk : k < eN u (E j)) (hy : (y : Int) = eF u (E j) + k - 2 * Lo) (hx : (x : Int) = fb (atE (E j) (smr u (eF u (E j) + k))) u - 2 * Le) (hxW : x < 2 * W + 1) (i : Nat) :
    tP u Le Lo W E j (k + 1) i = if i = y * (2 * W + 1) + x then tP u Le Lo W E j k i + (E j).w else tP u Le Lo W E j k i := by
  have hp := (pas_rows h he (eF u (E j) + k)).2 (by omega)
  by_cases hi : i = y * (2 * W + 1) + x
  · rw [if_pos hi]
    have d1 : i / (2 * W + 1) = y := by rw [hi, Nat.mul_comm, Nat.mul_add_div (by omega), Nat.div_eq_of_lt hxW]; omega
    have d2 : i % (2 * W + 1) = x := by rw [hi, Nat.mul_comm, Nat.mul_add_mod, Nat.mod_eq_of_lt hxW]
    have er : 2 * Lo + (y : Int) = eF u (E j) + k := by omega
    unfold tP dE
    have c1 : eF u (E j) + (k : Int) < eF u (E j) + ((k + 1 : Nat) : Int) := by omega
    have c2 : ¬ (eF u (E j) + (k : Int) < eF u (E j) + (k : Int)) := by omega
    rw [d1, d2, er, if_pos c1, if_neg c2, if_pos (by rw [hp, hx]; simp)]
    omega
  · rw [if_neg hi]
    unfold tP
    by_cases hr : i / (2 * W + 1) = y
    · rw [hr]
      have c1 : 2 * Lo + (y : Int) < eF u (E j) + ((k + 1 : Nat) : Int) := by omega
      have c2 : ¬ (2 * Lo + (y : Int) < eF u (E j) + (k : Int)) := by omega
      rw [if_pos c1, if_neg c2]
      unfold dE
      rw [if_neg]
      intro h2
      rw [Bool.and_eq_true, decide_eq_true_eq] at h2
      have er : 2 * Lo + ((i / (2 * W + 1) : Nat) : Int) = eF u (E j) + k := by rw [hr]; omega
      rw [er, ← hx] at h2
      have hm := Nat.div_add_mod i (2 * W + 1)
      rw [hr, Nat.mul_comm] at hm
      omega
    · congr 1
      have : (2 * Lo + ((i / (2 * W + 1) : Nat) : Int) < eF u (E j) + (k + 1 : Nat)) ↔ (2 * Lo + ((i / (2 * W + 1) : Nat) : Int) < eF u (E j) + k) := by omega
      simp only [this]
theorem tF_le {u Le Lo : Int} {W : Nat} {E : Nat → Ed} (hE : ∀ j, (E j).w = 1 ∨ (E j).w = -1) (i : Nat) : ∀ j : Nat, -(j : Int) ≤ tF u Le Lo W E j i ∧ tF u Le Lo W E j i ≤ j
  | 0 => by unfold tF sE; omega
  | j + 1 => by
    have := tF_le (u := u) (Le := Le) (Lo := Lo) (W := W) hE i j
    unfold tF at this ⊢
    rw [sE]
    have h2 : -1 ≤ dE u Le Lo W i (E j) ∧ dE u Le Lo W i (E j) ≤ 1 := by
      unfold dE
      rcases hE j with h | h <;> split <;> omega
    omega
theorem tP_le {u Le Lo : Int} {W : Nat} {E : Nat → Ed} (hE : ∀ j, (E j).w = 1 ∨ (E j).w = -1) (i j k : Nat) : -(j : Int) - 1 ≤ tP u Le Lo W E j k i ∧ tP u Le Lo W E j k i ≤ j + 1 := by
  have := tF_le (u := u) (Le := Le) (Lo := Lo) (W := W) hE i j
  have h2 : -1 ≤ dE u Le Lo W i (E j) ∧ dE u Le Lo W i (E j) ≤ 1 := by
    unfold dE
    rcases hE j with h | h <;> split <;> omega
  unfold tP
  split <;> omega
end Go.Proofs.Ytjeiapgniflnaaa.Rs
