/-
  Layer 7 (raster): what RasterSums compares, as numbers alone.
-/
import Derived.Test.YtjeiapgniflnaaaRsI
namespace Go.Proofs.Ytjeiapgniflnaaa.Rs
open Go.Proofs.Ytjeiapgniflnaaa.Ot
theorem ct_swap (p q : Pt) (x y : Int) : ct q p x y = -ct p q x y := by unfold ct; omega
/-- The sum along a path. -/
def pth (g : Nat → Pt) (x y : Int) : Nat → Int
  | 0 => 0
  | i + 1 => pth g x y i + ct (g i) (g (i + 1)) x y
theorem rwn_pth (g : Nat → Pt) (n : Nat) (x y : Int) : ∀ i, i < n → rwn g n x y i = pth g x y i
  | 0, _ => rfl
  | i + 1, h => by rw [rwn, pth, rwn_pth g n x y i (by omega), Nat.mod_eq_of_lt h]
theorem rwn_all (g : Nat → Pt) (m : Nat) (x y : Int) : rwn g (m + 1) x y (m + 1) = pth g x y m + ct (g m) (g 0) x y := by
  rw [rwn, rwn_pth g (m + 1) x y m (by omega), Nat.mod_self]
theorem pth_congr {g h : Nat → Pt} {x y : Int} : ∀ i, (∀ j, j ≤ i → g j = h j) → pth g x y i = pth h x y i
  | 0, _ => rfl
  | i + 1, e => by rw [pth, pth, pth_congr i (fun j hj => e j (by omega)), e i (by omega), e (i + 1) (by omega)]
theorem pth_from (g : Nat → Pt) (a : Nat) (x y : Int) : ∀ i, pth (fun j => g (a + j)) x y i = pth g x y (a + i) - pth g x y a
  | 0 => by rw [Nat.add_zero, Int.sub_self]; rfl
  | i + 1 => by rw [pth, pth_from g a x y i, show a + (i + 1) = (a + i) + 1 from rfl, pth]; omega
theorem pth_back (g : Nat → Pt) (m : Nat) (x y : Int) : ∀ i, i ≤ m → pth (fun j => g (m - j)) x y i = pth g x y (m - i) - pth g x y m
  | 0, _ => by rw [Nat.sub_zero, Int.sub_self]; rfl
  | i + 1, h => by
    have e : m - i = (m - (i + 1)) + 1 := by omega
    rw [pth, pth_back g m x y i (by omega)]
    rw [ct_swap (g (m - (i + 1))) (g (m - i)), e, pth]
    omega
/-- In the opposite order. -/
theorem rwn_back (g : Nat → Pt) (n : Nat) (x y : Int) : rwn (fun j => g (n - 1 - j)) n x y n = -rwn g n x y n := by
  rcases n with _ | m
  · rfl
  · rw [rwn_all, rwn_all, Nat.add_sub_cancel, pth_back g m x y m (Nat.le_refl _)]
    simp only [Nat.sub_self, Nat.sub_zero]
    rw [ct_swap (g m) (g 0)]
    have : pth g x y 0 = 0 := rfl
    omega
/-- A sum of terms. -/
def sm0 (f : Nat → Int) : Nat → Int
  | 0 => 0
  | i + 1 => sm0 f i + f i
theorem sm0_congr {f h : Nat → Int} : ∀ i, (∀ j, j < i → f j = h j) → sm0 f i = sm0 h i
  | 0, _ => rfl
  | i + 1, e => by rw [sm0, sm0, sm0_congr i (fun j hj => e j (by omega)), e i (by omega)]
theorem sm0_up (f : Nat → Int) : ∀ i, sm0 (fun j => f (j + 1)) i = sm0 f i + f i - f 0
  | 0 => by simp [sm0]
  | i + 1 => by rw [sm0, sm0_up f i, sm0]; omega
theorem sm0_rot (f : Nat → Int) (n : Nat) : ∀ s, sm0 (fun j => f ((j + s) % n)) n = sm0 (fun j => f (j % n)) n
  | 0 => rfl
  | s + 1 => by
    rw [← sm0_rot f n s]
    have h := sm0_up (fun j => f ((j + s) % n)) n
    rw [show n + s = s + n by omega, Nat.add_mod_right, Nat.zero_add] at h
    rw [show (fun j => f ((j + (s + 1)) % n)) = (fun j => f ((j + 1 + s) % n)) from funext fun j => by rw [show j + (s + 1) = j + 1 + s by omega], h]
    omega
theorem rwn_sm0 (g : Nat → Pt) (n : Nat) (x y : Int) : ∀ i, rwn g n x y i = sm0 (fun j => ct (g j) (g ((j + 1) % n)) x y) i
  | 0 => rfl
  | i + 1 => by rw [rwn, sm0, rwn_sm0 g n x y i]
/-- Begun with another point. -/
theorem rwn_rot (g : Nat → Pt) (n s : Nat) (x y : Int) : rwn (fun j => g ((j + s) % n)) n x y n = rwn g n x y n := by
  rw [rwn_sm0, rwn_sm0]
  have h := sm0_rot (fun j => ct (g j) (g ((j + 1) % n)) x y) n s
  rw [sm0_congr n (f := fun j => ct (g j) (g ((j + 1) % n)) x y) (h := fun j => ct (g (j % n)) (g ((j % n + 1) % n)) x y) (fun j hj => by simp only [Nat.mod_eq_of_lt hj]), ← h]
  exact sm0_congr n (fun j _ => by
    rw [show ((j + 1) % n + s) % n = ((j + s) % n + 1) % n by rw [Nat.mod_add_mod, Nat.mod_add_mod]; congr 1; omega])
/-- The two parts on both sides of a line between two points. -/
theorem rwn_parts (g : Nat → Pt) (n i j : Nat) (x y : Int) (hij : i ≤ j) (hj : j < n) :
    rwn (fun k => g (i + k)) (j - i + 1) x y (j - i + 1) + rwn (fun k => if k ≤ i then g k else g (j + (k - (i + 1)))) (i + 1 + (n - j)) x y (i + 1 + (n - j)) = rwn g n x y n := by
  obtain ⟨m, rfl⟩ : ∃ m, n = m + 1 := ⟨n - 1, by omega⟩
  rw [rwn_all, show i + 1 + (m + 1 - j) = (i + 1 + (m - j)) + 1 by omega, rwn_all, rwn_all, pth_from]
  have e1 : pth (fun k => if k ≤ i then g k else g (j + (k - (i + 1)))) x y (i + 1 + (m - j)) = pth g x y i + ct (g i) (g j) x y + (pth g x y m - pth g x y j) := by
    have h := pth_from (fun k => if k ≤ i then g k else g (j + (k - (i + 1)))) (i + 1) x y (m - j)
    have h2 : pth (fun k => (fun k => if k ≤ i then g k else g (j + (k - (i + 1)))) (i + 1 + k)) x y (m - j) = pth (fun k => g (j + k)) x y (m - j) :=
      pth_congr _ (fun k _ => by
        simp only
        rw [if_neg (by omega), show j + (i + 1 + k - (i + 1)) = j + k by omega])
    have h3 : pth (fun k => if k ≤ i then g k else g (j + (k - (i + 1)))) x y (i + 1) = pth g x y i + ct (g i) (g j) x y := by
      rw [pth, pth_congr (h := g) i (fun k hk => if_pos hk)]
      rw [if_pos (Nat.le_refl _), if_neg (by omega), show j + (i + 1 - (i + 1)) = j by omega]
    rw [h2, pth_from, show j + (m - j) = m by omega] at h
    omega
  rw [e1]
  simp only [Nat.add_zero, Nat.zero_le, if_true]
  rw [show i + (j - i) = j by omega, if_neg (by omega), show j + (i + 1 + (m - j) - (i + 1)) = m by omega, ct_swap (g i) (g j)]
  omega
end Go.Proofs.Ytjeiapgniflnaaa.Rs
