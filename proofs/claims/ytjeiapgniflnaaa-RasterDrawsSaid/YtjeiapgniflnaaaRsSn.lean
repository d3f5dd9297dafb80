/-
  Layer 7 (raster): RasterSums: outlines of one polygon, in the opposite order, begun with another point; sums.
-/
import Derived.Test.YtjeiapgniflnaaaRsTu
namespace Go.Proofs.Ytjeiapgniflnaaa.Rs
open Go.Proofs.Ytjeiapgniflnaaa.Ot
theorem allR_of {g : Nat → Pt} : ∀ {n : Nat}, (∀ i, i < n → okR (g i) = true) → allR g n = true
  | 0, _ => rfl
  | n + 1, h => by
    unfold allR
    rw [allR_of (fun i hi => h i (by omega)), h n (by omega)]
    rfl
theorem allO_of {ns : Nat → Nat} {g : Nat → Nat → Pt} : ∀ {N : Nat}, (∀ k, k < N → ∀ i, i < ns k → okR (g k i) = true) → allO ns g N = true
  | 0, _ => rfl
  | N + 1, h => by
    unfold allO
    rw [allO_of (fun k hk => h k (by omega)), allR_of (h N (by omega))]
    rfl
theorem okR_M {n : Nat} {f : Nat → Pt} (h : okM n f) (i : Nat) (hi : i < n) : okR (f i) = true := by
  obtain ⟨_, h1, h2, h3, h4⟩ := h.2 i hi
  rw [okR_iff]
  omega
/-- One polygon of an outline. -/
theorem ot_one {w : World} {b off N k : Nat} {ns : Nat → Nat} {g : Nat → Nat → Pt} (h : OT w (some ⟨b, off, none⟩) N ns g) (hk : k < N) : OT w (some ⟨b, off + k, none⟩) 1 (fun _ => ns k) (fun _ => g k) := fun j hj => by
  obtain rfl : j = 0 := by omega
  obtain ⟨b', off', a', c', e, h1, h2, h3, h4⟩ := h k hk
  cases e
  exact ⟨b, off + k, a', c', rfl, by rw [Nat.add_zero]; exact h1, h2, h3, h4⟩
theorem wn_one (ns : Nat → Nat) (g : Nat → Nat → Pt) (x y : Int) : wn ns g x y 1 = rwn (g 0) (ns 0) x y (ns 0) := by
  rw [wn, wn, Int.zero_add]
theorem wn_two (ns : Nat → Nat) (g : Nat → Nat → Pt) (x y : Int) : wn ns g x y 2 = rwn (g 0) (ns 0) x y (ns 0) + rwn (g 1) (ns 1) x y (ns 1) := by
  rw [wn, wn_one]
theorem wn_back (ns : Nat → Nat) (g : Nat → Nat → Pt) (x y : Int) : ∀ N, wn ns (bkP ns g) x y N = -wn ns g x y N
  | 0 => rfl
  | N + 1 => by
    rw [wn, wn, wn_back ns g x y N, show bkP ns g N = fun j => g N (ns N - 1 - j) from rfl, rwn_back]
    omega
theorem wn_rot (z : Int) (ns : Nat → Nat) (g : Nat → Nat → Pt) (x y : Int) : ∀ N, wn ns (rtP z ns g) x y N = wn ns g x y N
  | 0 => rfl
  | N + 1 => by
    rw [wn, wn, wn_rot z ns g x y N, show rtP z ns g N = fun i => g N ((i + (z % (ns N : Int)).toNat) % ns N) from rfl, rwn_rot]
/-- Winding numbers of made outlines are small. -/
theorem ct_abs (p q : Pt) (x y : Int) : -1 ≤ ct p q x y ∧ ct p q x y ≤ 1 := by
  unfold ct
  split <;> split <;> omega
theorem rwn_abs (g : Nat → Pt) (n : Nat) (x y : Int) : ∀ i : Nat, -(i : Int) ≤ rwn g n x y i ∧ rwn g n x y i ≤ (i : Int)
  | 0 => by simp [rwn]
  | i + 1 => by
    have h := rwn_abs g n x y i
    have h2 := ct_abs (g i) (g ((i + 1) % n)) x y
    rw [rwn]
    omega
theorem wn_abs {ns : Nat → Nat} {g : Nat → Nat → Pt} {x y : Int} : ∀ {N : Nat}, (∀ k, k < N → ns k ≤ 12) → -(12 * (N : Int)) ≤ wn ns g x y N ∧ wn ns g x y N ≤ 12 * (N : Int)
  | 0, _ => by simp [wn]
  | N + 1, h => by
    have h1 := wn_abs (ns := ns) (g := g) (x := x) (y := y) (N := N) (fun k hk => h k (by omega))
    have h2 := rwn_abs (g N) (ns N) x y (ns N)
    have h3 := h N (by omega)
    rw [wn]
    omega
end Go.Proofs.Ytjeiapgniflnaaa.Rs
