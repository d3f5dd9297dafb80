/-
  Layer 7 (raster): how covers counts, as numbers alone.
-/
import Derived.Test.YtjeiapgniflnaaaRsG
namespace Go.Proofs.Ytjeiapgniflnaaa.Rs
open Go.RowKit
open Go.Proofs.Ytjeiapgniflnaaa.Ot
/-- What an edge adds to the winding number before a column. -/
def cE (u Le Lo : Int) (y x : Nat) (e : Ed) : Int :=
  if (pasE e (smr u (2 * Lo + y)) && decide (fb (atE e (smr u (2 * Lo + y))) u - 2 * Le < (x : Int))) = true then e.w else 0
theorem sE_congr {F G : Ed → Int} {E : Nat → Ed} : ∀ {J : Nat}, (∀ j, j < J → F (E j) = G (E j)) → sE F E J = sE G E J
  | 0, _ => rfl
  | J + 1, h => by rw [sE, sE, sE_congr (fun j hj => h j (by omega)), h J (by omega)]
theorem sE_add (F G : Ed → Int) (E : Nat → Ed) : ∀ J : Nat, sE F E J + sE G E J = sE (fun e => F e + G e) E J
  | 0 => rfl
  | J + 1 => by rw [sE, sE, sE, ← sE_add F G E J]; omega
/-- The sum of the first columns of a row. -/
def pS (f : Nat → Int) (C y : Nat) : Nat → Int
  | 0 => 0
  | x + 1 => pS f C y x + f (y * C + x)
theorem cE_next {u Le Lo : Int} {W : Nat} {e : Ed} {y x : Nat} (hx : x < 2 * W + 1) : cE u Le Lo y (x + 1) e = cE u Le Lo y x e + dE u Le Lo W (y * (2 * W + 1) + x) e := by
  have d1 : (y * (2 * W + 1) + x) / (2 * W + 1) = y := by rw [Nat.mul_comm, Nat.mul_add_div (by omega), Nat.div_eq_of_lt hx]; omega
  have d2 : (y * (2 * W + 1) + x) % (2 * W + 1) = x := by rw [Nat.mul_comm, Nat.mul_add_mod, Nat.mod_eq_of_lt hx]
  unfold cE dE
  rw [d1, d2]
  rcases pasE e (smr u (2 * Lo + y)) with _ | _
  · simp
  · generalize fb (atE e (smr u (2 * Lo + y))) u - 2 * Le = q
    simp only [Bool.true_and, decide_eq_true_eq]
    by_cases h1 : q < (x : Int)
    · rw [if_pos (by omega), if_pos h1, if_neg (by omega)]; omega
    · by_cases h2 : q = (x : Int)
      · rw [if_pos (by omega), if_neg h1, if_pos h2]; omega
      · rw [if_neg (by omega), if_neg h1, if_neg h2]; omega
theorem cE_zero {u Le Lo : Int} {W H : Nat} (G : Geo u Le Lo W H) {e : Ed} (hl : inG u Le Lo W H e.l) (hh : inG u Le Lo W H e.h) (y : Nat) : cE u Le Lo y 0 e = 0 := by
  unfold cE
  rw [if_neg]
  intro h
  rw [Bool.and_eq_true, decide_eq_true_eq] at h
  have := col_in G hl hh h.1
  omega
theorem pS_eq {u Le Lo : Int} {W H : Nat} (G : Geo u Le Lo W H) {E : Nat → Ed} {J : Nat} (hE : ∀ j, j < J → inG u Le Lo W H (E j).l ∧ inG u Le Lo W H (E j).h) (y : Nat) : ∀ x, x ≤ 2 * W + 1 → pS (tF u Le Lo W E J) (2 * W + 1) y x = sE (cE u Le Lo y x) E J
  | 0, _ => by
    rw [pS, sE_congr (G := fun _ => 0) (fun j hj => cE_zero G (hE j hj).1 (hE j hj).2 y)]
    clear hE
    induction J with
    | zero => rfl
    | succ J ih => rw [sE, ← ih]; rfl
  | x + 1, hx => by
    rw [pS, pS_eq G hE y x (by omega)]
    unfold tF
    rw [sE_add]
    exact sE_congr (fun j hj => (cE_next (by omega)).symm)
theorem cE_ct {u Le Lo : Int} (hu : isU u = true) {e : Ed} {y x : Nat} : cE u Le Lo y (x + 1) e = ctE e (smr u (2 * Le + x)) (smr u (2 * Lo + y)) := by
  unfold cE ctE
  have h := fb_le hu (atE e (smr u (2 * Lo + y))) (2 * Le + x)
  have e1 : decide (fb (atE e (smr u (2 * Lo + y))) u - 2 * Le < ((x + 1 : Nat) : Int)) = decide (atE e (smr u (2 * Lo + y)) < smr u (2 * Le + x)) := by
    rw [decide_eq_decide, ← h]; omega
  rw [e1]
/-- The winding number of a sample of a picture. -/
theorem pS_wn {u Le Lo : Int} {W H N : Nat} {ns : Nat → Nat} {g : Nat → Nat → Pt} (G : Geo u Le Lo W H) (hin : ∀ j, j < pre ns N → inG u Le Lo W H (eJ N ns g j).l ∧ inG u Le Lo W H (eJ N ns g j).h) {y x : Nat} (hx : x < 2 * W + 1) :
    pS (tF u Le Lo W (eJ N ns g) (pre ns N)) (2 * W + 1) y (x + 1) = wn ns g (smr u (2 * Le + x)) (smr u (2 * Lo + y)) N := by
  rw [pS_eq G hin y (x + 1) (by omega), ← wnE_wn, wnE_sE]
  exact sE_congr (fun j _ => cE_ct G.u)
/-- How many of its samples are counted. -/
def tT (B : Nat → Nat → Nat) (y x a b : Nat) : Nat := if a < y ∨ (a = y ∧ b < x) then B a b else 0
def cN (B : Nat → Nat → Nat) (W y x i : Nat) : Nat :=
  tT B y x (2 * (i / W)) (2 * (i % W)) + tT B y x (2 * (i / W)) (2 * (i % W) + 1) + (tT B y x (2 * (i / W) + 1) (2 * (i % W)) + tT B y x (2 * (i / W) + 1) (2 * (i % W) + 1))
theorem tT_next (B : Nat → Nat → Nat) (y x a b : Nat) : tT B y (x + 1) a b = tT B y x a b + if a = y ∧ b = x then B y x else 0 := by
  unfold tT
  by_cases h : a = y ∧ b = x
  · obtain ⟨rfl, rfl⟩ := h
    rw [if_pos (by omega), if_neg (by omega), if_pos ⟨rfl, rfl⟩]; omega
  · rw [if_neg h]
    by_cases h2 : a < y ∨ (a = y ∧ b < x)
    · rw [if_pos (by omega), if_pos h2]; rfl
    · rw [if_neg (by omega), if_neg h2]
theorem cN_next (B : Nat → Nat → Nat) {W y x : Nat} (hx : x < 2 * W) (i : Nat) : cN B W y (x + 1) i = if i = y / 2 * W + x / 2 then cN B W y x i + B y x else cN B W y x i := by
  have hW : 0 < W := by omega
  have hm := Nat.div_add_mod i W
  have hml := Nat.mod_lt i hW
  unfold cN
  rw [tT_next, tT_next, tT_next, tT_next]
  by_cases h : i = y / 2 * W + x / 2
  · rw [if_pos h]
    have d1 : i / W = y / 2 := by rw [h, Nat.mul_comm, Nat.mul_add_div hW, Nat.div_eq_of_lt (show x / 2 < W by omega)]; omega
    have d2 : i % W = x / 2 := by rw [h, Nat.mul_comm, Nat.mul_add_mod, Nat.mod_eq_of_lt (show x / 2 < W by omega)]
    rw [d1, d2]
    rcases Nat.mod_two_eq_zero_or_one y with hy | hy <;> rcases Nat.mod_two_eq_zero_or_one x with hx2 | hx2
    · rw [if_pos (by omega), if_neg (by omega), if_neg (by omega), if_neg (by omega)]; omega
    · rw [if_neg (by omega), if_pos (by omega), if_neg (by omega), if_neg (by omega)]; omega
    · rw [if_neg (by omega), if_neg (by omega), if_pos (by omega), if_neg (by omega)]; omega
    · rw [if_neg (by omega), if_neg (by omega), if_neg (by omega), if_pos (by omega)]; omega
  · rw [if_neg h]
    have hne : ¬ (i / W = y / 2 ∧ i % W = x / 2) := by
      rintro ⟨h1, h2⟩
      rw [h1, h2, Nat.mul_comm] at hm
      exact h hm.symm
    rw [if_neg (by omega), if_neg (by omega), if_neg (by omega), if_neg (by omega)]; omega
theorem cN_row (B : Nat → Nat → Nat) {W y : Nat} (hW : 0 < W) (i : Nat) : cN B W y (2 * W) i = cN B W (y + 1) 0 i := by
  have hml := Nat.mod_lt i hW
  have key : ∀ a b, b < 2 * W → tT B y (2 * W) a b = tT B (y + 1) 0 a b := fun a b hb => by
    unfold tT
    by_cases h : a < y ∨ (a = y ∧ b < 2 * W)
    · rw [if_pos h, if_pos (by omega)]
    · rw [if_neg h, if_neg (by omega)]
  unfold cN
  rw [key _ _ (by omega), key _ _ (by omega), key _ _ (by omega), key _ _ (by omega)]
theorem cN_zero (B : Nat → Nat → Nat) (W i : Nat) : cN B W 0 0 i = 0 := by
  unfold cN tT
  rw [if_neg (by omega), if_neg (by omega), if_neg (by omega), if_neg (by omega)]
theorem cN_all (B : Nat → Nat → Nat) {W H i : Nat} (hi : i / W < H) : cN B W (2 * H) 0 i = B (2 * (i / W)) (2 * (i % W)) + B (2 * (i / W)) (2 * (i % W) + 1) + (B (2 * (i / W) + 1) (2 * (i % W)) + B (2 * (i / W) + 1) (2 * (i % W) + 1)) := by
  unfold cN tT
  rw [if_pos (by omega), if_pos (by omega), if_pos (by omega), if_pos (by omega)]
theorem tT_le {B : Nat → Nat → Nat} (hB : ∀ y x, B y x ≤ 1) (y x a b : Nat) : tT B y x a b ≤ 1 := by
  unfold tT
  have := hB a b
  split <;> omega
theorem cN_le {B : Nat → Nat → Nat} (hB : ∀ y x, B y x ≤ 1) (W y x i : Nat) : cN B W y x i ≤ 4 := by
  unfold cN
  have h1 := tT_le hB y x (2 * (i / W)) (2 * (i % W))
  have h2 := tT_le hB y x (2 * (i / W)) (2 * (i % W) + 1)
  have h3 := tT_le hB y x (2 * (i / W) + 1) (2 * (i % W))
  have h4 := tT_le hB y x (2 * (i / W) + 1) (2 * (i % W) + 1)
  omega
/-- A closed polygon turns around no point that has all of it on the left. -/
def abv (g : Nat → Pt) (y : Int) (i : Nat) : Int := if y < (g i).y then 1 else 0
theorem ct_left (p q : Pt) (x y : Int) (hp : p.x < x) (hq : q.x < x) : ct p q x y = (if y < q.y then 1 else 0) - (if y < p.y then 1 else 0) := by
  rw [← ctE_ct]
  unfold mkE
  by_cases h : p.y ≤ q.y
  · rw [if_pos h]
    unfold ctE pasE
    simp only
    by_cases h1 : p.y ≤ y ∧ y < q.y
    · have := atE_in (e := ⟨p, q, 1⟩) (y := y) (lo := min p.x q.x) (hi := x - 1) h1.1 h1.2 ⟨by simp; omega, by simp; omega⟩ ⟨by simp; omega, by simp; omega⟩
      rw [if_pos (by simp; exact ⟨h1, by omega⟩), if_pos h1.2, if_neg (by omega)]; rfl
    · rw [if_neg (by simp; intro a b; omega)]
      by_cases h2 : y < p.y
      · rw [if_pos (by omega), if_pos h2]; rfl
      · rw [if_neg (by omega), if_neg h2]; rfl
  · rw [if_neg h]
    unfold ctE pasE
    simp only
    by_cases h1 : q.y ≤ y ∧ y < p.y
    · have := atE_in (e := ⟨q, p, -1⟩) (y := y) (lo := min p.x q.x) (hi := x - 1) h1.1 h1.2 ⟨by simp; omega, by simp; omega⟩ ⟨by simp; omega, by simp; omega⟩
      rw [if_pos (by simp; exact ⟨h1, by omega⟩), if_neg (by omega), if_pos h1.2]; rfl
    · rw [if_neg (by simp; intro a b; omega)]
      by_cases h2 : y < q.y
      · rw [if_pos h2, if_pos (by omega)]; rfl
      · rw [if_neg h2, if_neg (by omega)]; rfl
theorem rwn_left {g : Nat → Pt} {n : Nat} {x y : Int} (hg : ∀ i, i < n → (g i).x < x) : ∀ i, i < n → rwn g n x y i = abv g y i - abv g y 0
  | 0, _ => by unfold rwn; omega
  | i + 1, hi => by
    rw [rwn, rwn_left hg i (by omega), Nat.mod_eq_of_lt hi, ct_left _ _ _ _ (hg i (by omega)) (hg _ hi)]
    unfold abv
    omega
theorem rwn_closed {g : Nat → Pt} {n : Nat} {x y : Int} (hg : ∀ i, i < n → (g i).x < x) : rwn g n x y n = 0 := by
  rcases Nat.eq_zero_or_pos n with h | h
  · subst h; rfl
  · obtain ⟨m, rfl⟩ : ∃ m, n = m + 1 := ⟨n - 1, by omega⟩
    rw [rwn, rwn_left hg m (by omega), Nat.mod_self, ct_left _ _ _ _ (hg m (by omega)) (hg 0 (by omega))]
    unfold abv
    omega
theorem wn_closed {ns : Nat → Nat} {g : Nat → Nat → Pt} {x y : Int} : ∀ {N : Nat}, (∀ k, k < N → ∀ i, i < ns k → (g k i).x < x) → wn ns g x y N = 0
  | 0, _ => rfl
  | N + 1, h => by rw [wn, wn_closed (fun k hk => h k (by omega)), rwn_closed (h N (by omega))]; rfl
theorem ct_none (p q : Pt) (x y : Int) (h : (y < p.y ∧ y < q.y) ∨ (p.y ≤ y ∧ q.y ≤ y) ∨ (x ≤ p.x ∧ x ≤ q.x)) : ct p q x y = 0 := by
  rw [← ctE_ct]
  unfold mkE
  by_cases hpq : p.y ≤ q.y
  · rw [if_pos hpq]
    unfold ctE
    rw [if_neg]
    intro h2
    rw [Bool.and_eq_true, pasE_iff, decide_eq_true_eq] at h2
    obtain ⟨⟨h3, h4⟩, h5⟩ := h2
    simp only at h3 h4
    rcases h with h | h | h
    · omega
    · omega
    · have := atE_in (e := ⟨p, q, 1⟩) (y := y) (lo := x) (hi := max p.x q.x) h3 h4 ⟨by simp; omega, by simp; omega⟩ ⟨by simp; omega, by simp; omega⟩
      omega
  · rw [if_neg hpq]
    unfold ctE
    rw [if_neg]
    intro h2
    rw [Bool.and_eq_true, pasE_iff, decide_eq_true_eq] at h2
    obtain ⟨⟨h3, h4⟩, h5⟩ := h2
    simp only at h3 h4
    rcases h with h | h | h
    · omega
    · omega
    · have := atE_in (e := ⟨q, p, -1⟩) (y := y) (lo := x) (hi := max p.x q.x) h3 h4 ⟨by simp; omega, by simp; omega⟩ ⟨by simp; omega, by simp; omega⟩
      omega
theorem rwn_none {g : Nat → Pt} {n : Nat} {x y : Int} (h : (∀ i, i < n → y < (g i).y) ∨ (∀ i, i < n → (g i).y ≤ y) ∨ (∀ i, i < n → x ≤ (g i).x)) : ∀ i, i ≤ n → rwn g n x y i = 0
  | 0, _ => rfl
  | i + 1, hi => by
    have hm : (i + 1) % n < n := Nat.mod_lt _ (by omega)
    rw [rwn, rwn_none h i (by omega), ct_none]
    · rfl
    · rcases h with h | h | h
      · exact .inl ⟨h i (by omega), h _ hm⟩
      · exact .inr (.inl ⟨h i (by omega), h _ hm⟩)
      · exact .inr (.inr ⟨h i (by omega), h _ hm⟩)
theorem wn_none {ns : Nat → Nat} {g : Nat → Nat → Pt} {x y : Int} : ∀ {N : Nat}, ((∀ k, k < N → ∀ i, i < ns k → y < (g k i).y) ∨ (∀ k, k < N → ∀ i, i < ns k → (g k i).y ≤ y) ∨ (∀ k, k < N → ∀ i, i < ns k → x ≤ (g k i).x)) → wn ns g x y N = 0
  | 0, _ => rfl
  | N + 1, h => by
    have h1 : wn ns g x y N = 0 := wn_none (by
      rcases h with h | h | h
      · exact .inl (fun k hk => h k (by omega))
      · exact .inr (.inl (fun k hk => h k (by omega)))
      · exact .inr (.inr (fun k hk => h k (by omega))))
    rw [wn, h1, rwn_none (by
      rcases h with h | h | h
      · exact .inl (h N (by omega))
      · exact .inr (.inl (h N (by omega)))
      · exact .inr (.inr (h N (by omega)))) _ (Nat.le_refl _)]
    rfl
/-- Out of range there is nothing to wind around. -/
theorem wn_wdg {N : Nat} {ns : Nat → Nat} {g : Nat → Nat → Pt} (hr : allO ns g N = true) (x y : Int) : wn ns g x y N = wdg N ns g x y := by
  unfold wdg
  rw [hr, Bool.and_true]
  have hk : ∀ k, k < N → ∀ i, i < ns k → (-1073741824 ≤ (g k i).x ∧ (g k i).x ≤ 1073741824) ∧ (-1073741824 ≤ (g k i).y ∧ (g k i).y ≤ 1073741824) := fun k hk i hi => (okR_iff _).1 (allR_at (allO_at hr hk) hi)
  by_cases h : (inR x && inR y) = true
  · rw [if_pos h]
  · rw [if_neg h]
    have h2 : ¬ (-1073741824 ≤ x ∧ x ≤ 1073741824) ∨ ¬ (-1073741824 ≤ y ∧ y ≤ 1073741824) := by
      by_cases hx : inR x = true
      · refine .inr (fun hy => h ?_)
        rw [hx, (inR_iff y).2 hy]; rfl
      · exact .inl (fun hx2 => hx ((inR_iff x).2 hx2))
    rcases h2 with h2 | h2
    · rcases Int.lt_or_le x (-1073741824) with h3 | h3
      · exact wn_none (.inr (.inr (fun k hk' i hi => by have := hk k hk' i hi; omega)))
      · exact wn_closed (fun k hk' i hi => by have := hk k hk' i hi; omega)
    · rcases Int.lt_or_le y (-1073741824) with h3 | h3
      · exact wn_none (.inl (fun k hk' i hi => by have := hk k hk' i hi; omega))
      · exact wn_none (.inr (.inl (fun k hk' i hi => by have := hk k hk' i hi; omega)))
end Go.Proofs.Ytjeiapgniflnaaa.Rs
