/-
  Layer 7 (raster): edges, winding numbers, as numbers alone.
-/
import Derived.Test.YtjeiapgniflnaaaOtOne
namespace Go.Proofs.Ytjeiapgniflnaaa.Rs
open Go.Proofs.Ytjeiapgniflnaaa.Ot
/-- Whether a number is in range. -/
def inR (n : Int) : Bool := decide (-1073741824 ≤ n) && decide (n ≤ 1073741824)
theorem inR_iff (n : Int) : inR n = true ↔ -1073741824 ≤ n ∧ n ≤ 1073741824 := by unfold inR; simp
def okR (p : Pt) : Bool := inR p.x && inR p.y
theorem okR_iff (p : Pt) : okR p = true ↔ (-1073741824 ≤ p.x ∧ p.x ≤ 1073741824) ∧ (-1073741824 ≤ p.y ∧ p.y ≤ 1073741824) := by
  unfold okR; rw [Bool.and_eq_true, inR_iff, inR_iff]
def allR (g : Nat → Pt) : Nat → Bool
  | 0 => true
  | k + 1 => allR g k && okR (g k)
def allO (ns : Nat → Nat) (g : Nat → Nat → Pt) : Nat → Bool
  | 0 => true
  | k + 1 => allO ns g k && allR (g k) (ns k)
theorem allR_no {g : Nat → Pt} {i : Nat} (h : okR (g i) = false) : ∀ k, i < k → allR g k = false
  | 0, h0 => by omega
  | k + 1, h0 => by
    unfold allR
    rcases Nat.lt_or_ge i k with hlt | hge
    · rw [allR_no h k hlt]; rfl
    · obtain rfl : i = k := by omega
      rw [h, Bool.and_false]
theorem allR_at {g : Nat → Pt} : ∀ {k i : Nat}, allR g k = true → i < k → okR (g i) = true
  | 0, _, _, h0 => by omega
  | k + 1, i, h, h0 => by
    unfold allR at h
    rw [Bool.and_eq_true] at h
    rcases Nat.lt_or_ge i k with hlt | hge
    · exact allR_at h.1 hlt
    · obtain rfl : i = k := by omega
      exact h.2
theorem allO_no {ns : Nat → Nat} {g : Nat → Nat → Pt} {i : Nat} (h : allR (g i) (ns i) = false) : ∀ k, i < k → allO ns g k = false
  | 0, h0 => by omega
  | k + 1, h0 => by
    unfold allO
    rcases Nat.lt_or_ge i k with hlt | hge
    · rw [allO_no h k hlt]; rfl
    · obtain rfl : i = k := by omega
      rw [h, Bool.and_false]
theorem allO_at {ns : Nat → Nat} {g : Nat → Nat → Pt} : ∀ {N k : Nat}, allO ns g N = true → k < N → allR (g k) (ns k) = true
  | 0, _, _, h0 => by omega
  | N + 1, k, h, h0 => by
    unfold allO at h
    rw [Bool.and_eq_true] at h
    rcases Nat.lt_or_ge k N with hlt | hge
    · exact allO_at h.1 hlt
    · obtain rfl : k = N := by omega
      exact h.2
/-- An edge, from its lower end to its higher one. -/
structure Ed where
  l : Pt
  h : Pt
  w : Int
def mkE (p q : Pt) : Ed := if p.y ≤ q.y then ⟨p, q, 1⟩ else ⟨q, p, -1⟩
/-- X of an edge at a height, rounded down. -/
def atE (e : Ed) (y : Int) : Int := e.l.x + ((e.h.x - e.l.x) * (y - e.l.y)) / (e.h.y - e.l.y)
def pasE (e : Ed) (y : Int) : Bool := decide (e.l.y ≤ y) && decide (y < e.h.y)
def ctE (e : Ed) (x y : Int) : Int := if (pasE e y && decide (atE e y < x)) = true then e.w else 0
def wnE (E : Nat → Ed) (x y : Int) : Nat → Int
  | 0 => 0
  | j + 1 => wnE E x y j + ctE (E j) x y
/-- The document's own. -/
def lf (a b : Pt) (x y : Int) : Bool := decide ((b.x - a.x) * (y - a.y) < (x - a.x) * (b.y - a.y))
def ct (p q : Pt) (x y : Int) : Int :=
  (if (decide (p.y ≤ y) && decide (y < q.y) && lf p q x y) = true then 1 else 0) - (if (decide (q.y ≤ y) && decide (y < p.y) && lf q p x y) = true then 1 else 0)
theorem atE_lt (a b : Pt) (w x y : Int) (h : a.y < b.y) : decide (atE ⟨a, b, w⟩ y < x) = lf a b x y := by
  unfold atE lf
  rw [decide_eq_decide]
  simp only
  have h0 : 0 < b.y - a.y := by omega
  have e : a.x + (b.x - a.x) * (y - a.y) / (b.y - a.y) < x ↔ (b.x - a.x) * (y - a.y) / (b.y - a.y) < x - a.x := by omega
  rw [e, Int.ediv_lt_iff_lt_mul h0]
theorem ctE_ct (p q : Pt) (x y : Int) : ctE (mkE p q) x y = ct p q x y := by
  unfold ctE mkE ct pasE
  by_cases h : p.y ≤ q.y
  · rw [if_pos h]
    simp only
    rw [show (decide (q.y ≤ y) && decide (y < p.y) && lf q p x y) = false by
      rcases Int.lt_or_le y p.y with h1 | h1
      · rw [decide_eq_false (show ¬ q.y ≤ y by omega)]; rfl
      · rw [decide_eq_false (show ¬ y < p.y by omega)]; simp]
    rcases Int.lt_or_le p.y q.y with h1 | h1
    · rw [atE_lt p q 1 x y h1]; simp
    · rw [show (decide (p.y ≤ y) && decide (y < q.y)) = false by
        rcases Int.lt_or_le y p.y with h2 | h2
        · rw [decide_eq_false (show ¬ p.y ≤ y by omega)]; rfl
        · rw [decide_eq_false (show ¬ y < q.y by omega)]; simp]
      simp
  · rw [if_neg h]
    simp only
    rw [show (decide (p.y ≤ y) && decide (y < q.y) && lf p q x y) = false by
      rcases Int.lt_or_le y q.y with h1 | h1
      · rw [decide_eq_false (show ¬ p.y ≤ y by omega)]; rfl
      · rw [decide_eq_false (show ¬ y < q.y by omega)]; simp]
    rw [atE_lt q p (-1) x y (by omega)]
    split <;> simp
/-- The winding number of the first points of a polygon, and of the first polygons. -/
def rwn (g : Nat → Pt) (n : Nat) (x y : Int) : Nat → Int
  | 0 => 0
  | i + 1 => rwn g n x y i + ct (g i) (g ((i + 1) % n)) x y
def wn (ns : Nat → Nat) (g : Nat → Nat → Pt) (x y : Int) : Nat → Int
  | 0 => 0
  | k + 1 => wn ns g x y k + rwn (g k) (ns k) x y (ns k)
/-- The edges, counted through. -/
def eJ (N : Nat) (ns : Nat → Nat) (g : Nat → Nat → Pt) (j : Nat) : Ed := mkE (g (loc ns N j).1 (loc ns N j).2) (g (loc ns N j).1 (((loc ns N j).2 + 1) % ns (loc ns N j).1))
theorem eJ_at {N : Nat} {ns : Nat → Nat} {g : Nat → Nat → Pt} {k i : Nat} (hk : k < N) (hi : i < ns k) : eJ N ns g (pre ns k + i) = mkE (g k i) (g k ((i + 1) % ns k)) := by
  unfold eJ; rw [loc_at ns hi hk]
/-- A sum over all edges, by polygons. -/
def sE (F : Ed → Int) (E : Nat → Ed) : Nat → Int
  | 0 => 0
  | j + 1 => sE F E j + F (E j)
def sR (F : Ed → Int) (g : Nat → Pt) (n : Nat) : Nat → Int
  | 0 => 0
  | i + 1 => sR F g n i + F (mkE (g i) (g ((i + 1) % n)))
def sO (F : Ed → Int) (ns : Nat → Nat) (g : Nat → Nat → Pt) : Nat → Int
  | 0 => 0
  | k + 1 => sO F ns g k + sR F (g k) (ns k) (ns k)
theorem sE_row (F : Ed → Int) {N : Nat} {ns : Nat → Nat} {g : Nat → Nat → Pt} {k : Nat} (hk : k < N) : ∀ i, i ≤ ns k → sE F (eJ N ns g) (pre ns k + i) = sE F (eJ N ns g) (pre ns k) + sR F (g k) (ns k) i
  | 0, _ => by simp [sR]
  | i + 1, h => by
    rw [show pre ns k + (i + 1) = (pre ns k + i) + 1 from rfl, sE, sE_row F hk i (by omega), eJ_at hk (by omega), sR]
    omega
theorem sE_all (F : Ed → Int) {N : Nat} {ns : Nat → Nat} {g : Nat → Nat → Pt} : ∀ k, k ≤ N → sE F (eJ N ns g) (pre ns k) = sO F ns g k
  | 0, _ => rfl
  | k + 1, h => by
    rw [pre, sE_row F (by omega) _ (Nat.le_refl _), sE_all F k (by omega), sO]
theorem wnE_sE (E : Nat → Ed) (x y : Int) : ∀ j, wnE E x y j = sE (fun e => ctE e x y) E j
  | 0 => rfl
  | j + 1 => by rw [wnE, sE, wnE_sE E x y j]
theorem rwn_sR (g : Nat → Pt) (n : Nat) (x y : Int) : ∀ i, sR (fun e => ctE e x y) g n i = rwn g n x y i
  | 0 => rfl
  | i + 1 => by rw [sR, rwn, rwn_sR g n x y i, ctE_ct]
theorem wn_sO (ns : Nat → Nat) (g : Nat → Nat → Pt) (x y : Int) : ∀ k, sO (fun e => ctE e x y) ns g k = wn ns g x y k
  | 0 => rfl
  | k + 1 => by rw [sO, wn, wn_sO ns g x y k, rwn_sR]
theorem wnE_wn (N : Nat) (ns : Nat → Nat) (g : Nat → Nat → Pt) (x y : Int) : wnE (eJ N ns g) x y (pre ns N) = wn ns g x y N := by
  rw [wnE_sE, sE_all _ N (Nat.le_refl _), wn_sO]
/-- What Winding says. -/
def wdg (N : Nat) (ns : Nat → Nat) (g : Nat → Nat → Pt) (x y : Int) : Int := if (inR x && inR y && allO ns g N) = true then wn ns g x y N else 0
theorem ctE_le (E : Nat → Ed) (hE : ∀ j, (E j).w = 1 ∨ (E j).w = -1) (x y : Int) : ∀ j : Nat, -(j : Int) ≤ wnE E x y j ∧ wnE E x y j ≤ j
  | 0 => by unfold wnE; omega
  | j + 1 => by
    have := ctE_le E hE x y j
    have h2 : -1 ≤ ctE (E j) x y ∧ ctE (E j) x y ≤ 1 := by
      unfold ctE
      rcases hE j with h | h <;> split <;> omega
    rw [wnE]
    omega
theorem mkE_w (p q : Pt) : (mkE p q).w = 1 ∨ (mkE p q).w = -1 := by unfold mkE; split <;> simp
theorem ct_le (p q : Pt) (x y : Int) : -1 ≤ ct p q x y ∧ ct p q x y ≤ 1 := by
  rw [← ctE_ct]
  unfold ctE
  rcases mkE_w p q with h | h <;> split <;> omega
theorem rwn_le (g : Nat → Pt) (n : Nat) (x y : Int) : ∀ i : Nat, -(i : Int) ≤ rwn g n x y i ∧ rwn g n x y i ≤ i
  | 0 => by unfold rwn; omega
  | i + 1 => by
    have := rwn_le g n x y i
    have h2 := ct_le (g i) (g ((i + 1) % n)) x y
    rw [rwn]
    omega
theorem wn_le (ns : Nat → Nat) (g : Nat → Nat → Pt) (x y : Int) : ∀ k, -((pre ns k : Nat) : Int) ≤ wn ns g x y k ∧ wn ns g x y k ≤ (pre ns k : Nat)
  | 0 => by unfold wn pre; omega
  | k + 1 => by
    have := wn_le ns g x y k
    have h2 := rwn_le (g k) (ns k) x y (ns k)
    rw [wn, pre]
    omega
end Go.Proofs.Ytjeiapgniflnaaa.Rs
