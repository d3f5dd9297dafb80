/-
  Layer 7 (raster): what RasterMoves compares: pictures of polygons that are moved and multiplied.
-/
import Derived.Test.YtjeiapgniflnaaaRsSs
import Derived.Test.YtjeiapgniflnaaaRsBm
namespace Go.Proofs.Ytjeiapgniflnaaa.Rs
open Go.RowKit
open Go.Proofs.Ytjeiapgniflnaaa.Ot
open Go.Proofs.Ytjeiapgniflnaaa.Bm (DA)
theorem ot_congr {V : World} {a : Option Addr} {N : Nat} {ns : Nat → Nat} {g g' : Nat → Nat → Pt} (h : OT V a N ns g) (e : ∀ k, k < N → ∀ i, i < ns k → g k i = g' k i) : OT V a N ns g' := fun k hk => by
  obtain ⟨b, off, a', c', e1, h1, h2, h3, h4⟩ := h k hk
  refine ⟨b, off, a', c', e1, h1, h2, h3, fun i hi => ?_⟩
  rw [← e k hk i hi]
  exact h4 i hi
/-- Multiplied and moved, without a limit. -/
def tmP (t A B : Int) (p : Pt) : Pt := ⟨t * p.x + A, t * p.y + B, p.o⟩
def tmG (t A B : Int) (g : Nat → Nat → Pt) (k i : Nat) : Pt := tmP t A B (g k i)
theorem ct_tmP {t : Int} (ht : 0 < t) (A B : Int) (p q : Pt) (x y : Int) : ct (tmP t A B p) (tmP t A B q) (t * x + A) (t * y + B) = ct p q x y := by
  have le : ∀ a b : Int, (t * a + B ≤ t * b + B) = (a ≤ b) := fun a b => by
    rw [eq_iff_iff]
    constructor
    · intro h
      exact Int.le_of_mul_le_mul_left (a := t) (by omega) ht
    · intro h
      have := Int.mul_le_mul_of_nonneg_left h (show 0 ≤ t by omega)
      omega
  have lt : ∀ a b : Int, (t * a + B < t * b + B) = (a < b) := fun a b => by
    rw [eq_iff_iff, ← Int.not_le, ← Int.not_le, le]
  have lff : ∀ a b : Pt, lf (tmP t A B a) (tmP t A B b) (t * x + A) (t * y + B) = lf a b x y := fun a b => by
    unfold lf tmP
    simp only
    rw [decide_eq_decide]
    have e1 : t * b.x + A - (t * a.x + A) = t * (b.x - a.x) := by rw [Int.mul_sub]; omega
    have e2 : t * y + B - (t * a.y + B) = t * (y - a.y) := by rw [Int.mul_sub]; omega
    have e3 : t * x + A - (t * a.x + A) = t * (x - a.x) := by rw [Int.mul_sub]; omega
    have e4 : t * b.y + B - (t * a.y + B) = t * (b.y - a.y) := by rw [Int.mul_sub]; omega
    rw [e1, e2, e3, e4]
    have m : ∀ u v : Int, t * u * (t * v) = t * t * (u * v) := fun u v => by
      rw [Int.mul_assoc, ← Int.mul_assoc u, Int.mul_comm u t, Int.mul_assoc t u v, ← Int.mul_assoc]
    rw [m, m]
    have htt : 0 < t * t := Int.mul_pos ht ht
    constructor
    · intro h
      exact Int.lt_of_mul_lt_mul_left h (Int.le_of_lt htt)
    · intro h
      exact Int.mul_lt_mul_of_pos_left h htt
  unfold ct
  rw [lff, lff]
  show (if (decide (t * p.y + B ≤ t * y + B) && decide (t * y + B < t * q.y + B) && lf p q x y) = true then (1 : Int) else 0) - (if (decide (t * q.y + B ≤ t * y + B) && decide (t * y + B < t * p.y + B) && lf q p x y) = true then 1 else 0) = _
  simp only [le, lt]
theorem rwn_tmP {t : Int} (ht : 0 < t) (A B : Int) (g : Nat → Pt) (n : Nat) (x y : Int) : ∀ i, rwn (fun j => tmP t A B (g j)) n (t * x + A) (t * y + B) i = rwn g n x y i
  | 0 => rfl
  | i + 1 => by rw [rwn, rwn, rwn_tmP ht A B g n x y i, ct_tmP ht]
theorem wn_tmP {t : Int} (ht : 0 < t) (A B : Int) (ns : Nat → Nat) (g : Nat → Nat → Pt) (x y : Int) : ∀ N, wn ns (tmG t A B g) (t * x + A) (t * y + B) N = wn ns g x y N
  | 0 => rfl
  | N + 1 => by
    rw [wn, wn, wn_tmP ht A B ns g x y N]
    have := rwn_tmP ht A B (g N) (ns N) x y (ns N)
    rw [show tmG t A B g N = fun j => tmP t A B (g N j) from rfl, this]
/-- The corners of a box are those of points. -/
theorem bxRow_att (g : Nat → Pt) (R : Rc) : ∀ n : Nat, ((bxRow g R n).a = R.a ∨ ∃ i, i < n ∧ (g i).x = (bxRow g R n).a) ∧ ((bxRow g R n).b = R.b ∨ ∃ i, i < n ∧ (g i).y = (bxRow g R n).b) ∧ ((bxRow g R n).c = R.c ∨ ∃ i, i < n ∧ (g i).x = (bxRow g R n).c) ∧ ((bxRow g R n).d = R.d ∨ ∃ i, i < n ∧ (g i).y = (bxRow g R n).d)
  | 0 => ⟨.inl rfl, .inl rfl, .inl rfl, .inl rfl⟩
  | n + 1 => by
    obtain ⟨h1, h2, h3, h4⟩ := bxRow_att g R n
    have mn : ∀ (u v w : Int) (P : Nat → Int), (u = w ∨ ∃ i, i < n ∧ P i = u) → P n = v → (min u v = w ∨ ∃ i, i < n + 1 ∧ P i = min u v) := fun u v w P h e => by
      rcases Int.le_total u v with hl | hl
      · rw [Int.min_eq_left hl]
        rcases h with h | ⟨i, hi, h⟩
        · exact .inl h
        · exact .inr ⟨i, by omega, h⟩
      · rw [Int.min_eq_right hl]
        exact .inr ⟨n, by omega, e⟩
    have mx : ∀ (u v w : Int) (P : Nat → Int), (u = w ∨ ∃ i, i < n ∧ P i = u) → P n = v → (max u v = w ∨ ∃ i, i < n + 1 ∧ P i = max u v) := fun u v w P h e => by
      rcases Int.le_total v u with hl | hl
      · rw [Int.max_eq_left hl]
        rcases h with h | ⟨i, hi, h⟩
        · exact .inl h
        · exact .inr ⟨i, by omega, h⟩
      · rw [Int.max_eq_right hl]
        exact .inr ⟨n, by omega, e⟩
    exact ⟨mn _ _ _ (fun i => (g i).x) h1 rfl, mn _ _ _ (fun i => (g i).y) h2 rfl, mx _ _ _ (fun i => (g i).x) h3 rfl, mx _ _ _ (fun i => (g i).y) h4 rfl⟩
theorem bxAll_att (ns : Nat → Nat) (g : Nat → Nat → Pt) : ∀ N : Nat, ((bxAll ns g N).a = rcM.a ∨ ∃ k i, k < N ∧ i < ns k ∧ (g k i).x = (bxAll ns g N).a) ∧ ((bxAll ns g N).b = rcM.b ∨ ∃ k i, k < N ∧ i < ns k ∧ (g k i).y = (bxAll ns g N).b) ∧ ((bxAll ns g N).c = rcM.c ∨ ∃ k i, k < N ∧ i < ns k ∧ (g k i).x = (bxAll ns g N).c) ∧ ((bxAll ns g N).d = rcM.d ∨ ∃ k i, k < N ∧ i < ns k ∧ (g k i).y = (bxAll ns g N).d)
  | 0 => ⟨.inl rfl, .inl rfl, .inl rfl, .inl rfl⟩
  | N + 1 => by
    obtain ⟨h1, h2, h3, h4⟩ := bxAll_att ns g N
    obtain ⟨r1, r2, r3, r4⟩ := bxRow_att (g N) (bxAll ns g N) (ns N)
    have up : ∀ (u v w : Int) (P : Nat → Nat → Int), (u = v ∨ ∃ i, i < ns N ∧ P N i = u) → (v = w ∨ ∃ k i, k < N ∧ i < ns k ∧ P k i = v) → (u = w ∨ ∃ k i, k < N + 1 ∧ i < ns k ∧ P k i = u) := fun u v w P h h' => by
      rcases h with h | ⟨i, hi, h⟩
      · rw [h]
        rcases h' with h' | ⟨k, i, hk, hi, h'⟩
        · exact .inl h'
        · exact .inr ⟨k, i, by omega, hi, h'⟩
      · exact .inr ⟨N, i, by omega, hi, h⟩
    exact ⟨up _ _ _ (fun k i => (g k i).x) r1 h1, up _ _ _ (fun k i => (g k i).y) r2 h2, up _ _ _ (fun k i => (g k i).x) r3 h3, up _ _ _ (fun k i => (g k i).y) r4 h4⟩
/-- Of points, if there are any in range. -/
theorem bx_att {ns : Nat → Nat} {g : Nat → Nat → Pt} {N : Nat} (hr : allO ns g N = true) (h0 : 0 < pre ns N) : (∃ k i, k < N ∧ i < ns k ∧ (g k i).x = (bxAll ns g N).a) ∧ (∃ k i, k < N ∧ i < ns k ∧ (g k i).y = (bxAll ns g N).b) ∧ (∃ k i, k < N ∧ i < ns k ∧ (g k i).x = (bxAll ns g N).c) ∧ (∃ k i, k < N ∧ i < ns k ∧ (g k i).y = (bxAll ns g N).d) := by
  obtain ⟨k, hk, hp⟩ := pre_some h0
  have hh := bxAll_has ns g hk hp
  have ho := (okR_iff _).1 (allR_at (allO_at hr hk) hp)
  obtain ⟨h1, h2, h3, h4⟩ := bxAll_att ns g N
  simp only [rcM] at h1 h2 h3 h4
  refine ⟨?_, ?_, ?_, ?_⟩
  · rcases h1 with h | h
    · exact ⟨k, 0, hk, hp, by omega⟩
    · exact h
  · rcases h2 with h | h
    · exact ⟨k, 0, hk, hp, by omega⟩
    · exact h
  · rcases h3 with h | h
    · exact ⟨k, 0, hk, hp, by omega⟩
    · exact h
  · rcases h4 with h | h
    · exact ⟨k, 0, hk, hp, by omega⟩
    · exact h
theorem bx_tmP {ns : Nat → Nat} {g : Nat → Nat → Pt} {N : Nat} {t A B : Int} (ht : 0 < t) (hr : allO ns g N = true) (hr' : allO ns (tmG t A B g) N = true) (h0 : 0 < pre ns N) : bxAll ns (tmG t A B g) N = ⟨t * (bxAll ns g N).a + A, t * (bxAll ns g N).b + B, t * (bxAll ns g N).c + A, t * (bxAll ns g N).d + B⟩ := by
  obtain ⟨⟨k1, i1, a1, b1, e1⟩, ⟨k2, i2, a2, b2, e2⟩, ⟨k3, i3, a3, b3, e3⟩, ⟨k4, i4, a4, b4, e4⟩⟩ := bx_att hr h0
  obtain ⟨⟨l1, j1, c1, d1, f1⟩, ⟨l2, j2, c2, d2, f2⟩, ⟨l3, j3, c3, d3, f3⟩, ⟨l4, j4, c4, d4, f4⟩⟩ := bx_att hr' h0
  have u1 := bxAll_has ns (tmG t A B g) a1 b1
  have u2 := bxAll_has ns (tmG t A B g) a2 b2
  have u3 := bxAll_has ns (tmG t A B g) a3 b3
  have u4 := bxAll_has ns (tmG t A B g) a4 b4
  have v1 := bxAll_has ns g c1 d1
  have v2 := bxAll_has ns g c2 d2
  have v3 := bxAll_has ns g c3 d3
  have v4 := bxAll_has ns g c4 d4
  have m1 := Int.mul_le_mul_of_nonneg_left v1.1.1 (show 0 ≤ t by omega)
  have m2 := Int.mul_le_mul_of_nonneg_left v2.2.1 (show 0 ≤ t by omega)
  have m3 := Int.mul_le_mul_of_nonneg_left v3.1.2 (show 0 ≤ t by omega)
  have m4 := Int.mul_le_mul_of_nonneg_left v4.2.2 (show 0 ≤ t by omega)
  have ga : (bxAll ns (tmG t A B g) N).a = t * (bxAll ns g N).a + A := by
    have p1 : (bxAll ns (tmG t A B g) N).a ≤ t * (g k1 i1).x + A := u1.1.1
    have p2 : t * (g l1 j1).x + A = (bxAll ns (tmG t A B g) N).a := f1
    rw [e1] at p1
    clear u1 u2 u3 u4 v1 v2 v3 v4 m2 m3 m4 f1 f2 f3 f4 e1 e2 e3 e4
    omega
  have gb : (bxAll ns (tmG t A B g) N).b = t * (bxAll ns g N).b + B := by
    have p1 : (bxAll ns (tmG t A B g) N).b ≤ t * (g k2 i2).y + B := u2.2.1
    have p2 : t * (g l2 j2).y + B = (bxAll ns (tmG t A B g) N).b := f2
    rw [e2] at p1
    clear u1 u2 u3 u4 v1 v2 v3 v4 m1 m3 m4 f1 f2 f3 f4 e1 e2 e3 e4
    omega
  have gc : (bxAll ns (tmG t A B g) N).c = t * (bxAll ns g N).c + A := by
    have p1 : t * (g k3 i3).x + A ≤ (bxAll ns (tmG t A B g) N).c := u3.1.2
    have p2 : t * (g l3 j3).x + A = (bxAll ns (tmG t A B g) N).c := f3
    rw [e3] at p1
    clear u1 u2 u3 u4 v1 v2 v3 v4 m1 m2 m4 f1 f2 f3 f4 e1 e2 e3 e4
    omega
  have gd : (bxAll ns (tmG t A B g) N).d = t * (bxAll ns g N).d + B := by
    have p1 : t * (g k4 i4).y + B ≤ (bxAll ns (tmG t A B g) N).d := u4.2.2
    have p2 : t * (g l4 j4).y + B = (bxAll ns (tmG t A B g) N).d := f4
    rw [e4] at p1
    clear u1 u2 u3 u4 v1 v2 v3 v4 m1 m2 m3 f1 f2 f3 f4 e1 e2 e3 e4
    omega
  have e : bxAll ns (tmG t A B g) N = ⟨(bxAll ns (tmG t A B g) N).a, (bxAll ns (tmG t A B g) N).b, (bxAll ns (tmG t A B g) N).c, (bxAll ns (tmG t A B g) N).d⟩ := rfl
  rw [e, ga, gb, gc, gd]
/-- Made polygons, moved by few dots, lie in range. -/
theorem ok_tmP {ns : Nat → Nat} {g : Nat → Nat → Pt} {N : Nat} (hok : ∀ j, j < N → okM (ns j) (g j)) {t A B : Int} (ht : 1 ≤ t ∧ t ≤ 7) (hA : -100000000 ≤ A ∧ A ≤ 100000000) (hB : -100000000 ≤ B ∧ B ≤ 100000000) : allO ns (tmG t A B g) N = true := allO_of (fun k hk i hi => by
  obtain ⟨_, h1, h2, h3, h4⟩ := (hok k hk).2 i hi
  rw [okR_iff]
  show (-1073741824 ≤ t * (g k i).x + A ∧ t * (g k i).x + A ≤ 1073741824) ∧ (-1073741824 ≤ t * (g k i).y + B ∧ t * (g k i).y + B ≤ 1073741824)
  have := prod2 (a := t) (b := (g k i).x) (A := 7) (B := 100) (by omega) (by omega)
  have := prod2 (a := t) (b := (g k i).y) (A := 7) (B := 100) (by omega) (by omega)
  omega)
/-- The samples of moved dots. -/
theorem sm_tmP {u v t X : Int} (hu : Un u v) (x i : Int) : sm (t * u) (x + X) i = t * sm u x i + t * u * X := by
  obtain ⟨rfl, h1, h2⟩ := hu
  unfold sm
  have e1 : t * (4 * v) / 4 = t * v := by rw [Int.mul_left_comm]; exact Int.mul_ediv_cancel_left _ (by omega)
  have e2 : t * (4 * v) / 2 = t * (2 * v) := by rw [show t * (4 * v) = 2 * (t * (2 * v)) by rw [Int.mul_left_comm, show 4 * (t * v) = 2 * (2 * (t * v)) by omega, Int.mul_left_comm t 2 v]]; exact Int.mul_ediv_cancel_left _ (by omega)
  rw [e1, e2, show 4 * v / 4 = v by omega, show 4 * v / 2 = 2 * v by omega, Int.mul_add t, Int.mul_add t, Int.mul_add (t * (4 * v)), Int.mul_assoc t (4 * v) x, Int.mul_left_comm i t (2 * v)]
  omega
theorem cq_tmP {N : Nat} {ns : Nat → Nat} {g : Nat → Nat → Pt} {u v t X Y x y : Int} (hu : Un u v) (ht : 0 < t) (hr : allO ns g N = true) (hr' : allO ns (tmG t (t * u * X) (t * u * Y) g) N = true)
    (hs : ∀ i : Int, 0 ≤ i → i ≤ 1 → inR (sm u x i) = true ∧ inR (sm u y i) = true ∧ inR (sm (t * u) (x + X) i) = true ∧ inR (sm (t * u) (y + Y) i) = true) : ∀ m, m ≤ 4 → cq N ns (tmG t (t * u * X) (t * u * Y) g) (t * u) (x + X) (y + Y) m = cq N ns g u x y m
  | 0, _ => rfl
  | m + 1, hm => by
    rw [cq, cq, cq_tmP hu ht hr hr' hs m (by omega)]
    obtain ⟨s1, _, s3, _⟩ := hs ((m % 2 : Nat) : Int) (by omega) (by omega)
    obtain ⟨_, s2, _, s4⟩ := hs ((m / 2 : Nat) : Int) (by omega) (by omega)
    congr 2
    unfold wdg
    rw [s1, s2, s3, s4, hr, hr', if_pos (by rfl), if_pos (by rfl), sm_tmP hu, sm_tmP hu, wn_tmP ht]
theorem sm_small {u v : Int} (hu : Un u v) {x i : Int} (hx : -40 ≤ x ∧ x ≤ 40) (hi : 0 ≤ i ∧ i ≤ 1) : -1000 ≤ sm u x i ∧ sm u x i ≤ 1000 := by
  rw [sm_un hu]
  obtain ⟨_, h1, h2⟩ := hu
  obtain rfl | rfl | rfl | rfl : v = 1 ∨ v = 2 ∨ v = 3 ∨ v = 4 := by omega
  all_goals omega
/-- How far the law moves. -/
structure Far (u t X Y : Int) : Prop where
  t1 : 1 ≤ t ∧ t ≤ 7
  x1 : -1048576 ≤ X ∧ X ≤ 1048576
  y1 : -1048576 ≤ Y ∧ Y ≤ 1048576
  x2 : -100000000 ≤ t * u * X ∧ t * u * X ≤ 100000000
  y2 : -100000000 ≤ t * u * Y ∧ t * u * Y ≤ 100000000
theorem un_tu {u v t : Int} (hu : Un u v) (ht : 1 ≤ t ∧ t ≤ 7) : isU (t * u) = true ∧ 4 ≤ t * u ∧ t * u ≤ 112 := by
  obtain ⟨rfl, h1, h2⟩ := hu
  have := prod2 (a := t) (b := v) (A := 7) (B := 4) (by omega) (by omega)
  have h3 : 1 * 1 ≤ t * v := Int.mul_le_mul ht.1 h1 (by omega) (by omega)
  rw [isU_iff, show t * (4 * v) = 4 * (t * v) by rw [Int.mul_left_comm]]
  omega
theorem cvr_tmP {N : Nat} {ns : Nat → Nat} {g : Nat → Nat → Pt} {u v t X Y x y : Int} (hok : ∀ j, j < N → okM (ns j) (g j)) (hu : Un u v) (hf : Far u t X Y) (hx : -40 ≤ x ∧ x ≤ 40) (hy : -40 ≤ y ∧ y ≤ 40) :
    cvr N ns (tmG t (t * u * X) (t * u * Y) g) (t * u) (x + X) (y + Y) = cvr N ns g u x y := by
  obtain ⟨ht, hX, hY, hA, hB⟩ := hf
  unfold cvr
  rw [(un_tu hu ht).1, un_isU hu, (inR_iff x).2 (by omega), (inR_iff y).2 (by omega), (inR_iff (x + X)).2 (by omega), (inR_iff (y + Y)).2 (by omega), if_pos (by rfl), if_pos (by rfl)]
  refine cq_tmP hu (by omega) (allO_of (fun k hk => okR_M (hok k hk))) (ok_tmP hok ht hA hB) (fun i h0 h1 => ?_) 4 (Nat.le_refl _)
  have s1 := sm_small hu hx ⟨h0, h1⟩
  have s2 := sm_small hu hy ⟨h0, h1⟩
  have p1 := prod2 (a := t) (b := sm u x i) (A := 7) (B := 1000) (by omega) (by omega)
  have p2 := prod2 (a := t) (b := sm u y i) (A := 7) (B := 1000) (by omega) (by omega)
  rw [sm_tmP hu, sm_tmP hu]
  exact ⟨(inR_iff _).2 (by omega), (inR_iff _).2 (by omega), (inR_iff _).2 (by omega), (inR_iff _).2 (by omega)⟩
theorem div_tmP {t u z X : Int} (ht : 0 < t) (hu : 0 < u) : (t * z + t * u * X) / (t * u) = z / u + X := by
  rw [Int.add_mul_ediv_left _ _ (by have := Int.mul_pos ht hu; omega), Int.mul_ediv_mul_of_pos _ _ ht]
theorem da_congr {V : World} {a : Option Addr} {n : Nat} {f f' : Nat → Bool} (h : DA V a n f) (e : ∀ i, i < n → f i = f' i) : DA V a n f' := fun i hi => by
  obtain ⟨b, o, e1, h1⟩ := h i hi
  exact ⟨b, o, e1, by rw [← e i hi]; exact h1⟩
/-- The picture of made polygons, and of such that are moved. -/
theorem Dots_mv {N : Nat} {ns : Nat → Nat} {g : Nat → Nat → Pt} {u v : Int} (hok : ∀ j, j < N → okM (ns j) (g j)) (hN : N ≤ 4) (hu : Un u v) (h0 : 0 < pre ns N) : ∃ (Le Lo : Int) (W H n : Nat) (F : Nat → Bool), (-8 ≤ Le ∧ Le ≤ 14 ∧ -8 ≤ Lo ∧ Lo ≤ 14) ∧ n ≤ 100000 ∧
    ∀ t X Y, Far u t X Y → ∀ a c V, OT V a N ns (tmG t (t * u * X) (t * u * Y) g) → Calls Try.prog 17 #[.slice a N c, .int .i64 (t * u)] V fun e w' => ∃ sa, e = .returned (.tuple #[.agg #[.int .i64 (Le + X), .int .i64 (Lo + Y), .int .i64 (W : Int), .int .i64 (H : Int), .slice sa n n], .int .i64 0]) ∧ DA w' sa n F ∧ Below V.heap.size V w' := by
  have hr : allO ns g N = true := allO_of (fun k hk => okR_M (hok k hk))
  have hb : (-30 ≤ (bxAll ns g N).a ∧ (bxAll ns g N).a ≤ (bxAll ns g N).c ∧ (bxAll ns g N).c ≤ 59) ∧ (-30 ≤ (bxAll ns g N).b ∧ (bxAll ns g N).b ≤ (bxAll ns g N).d ∧ (bxAll ns g N).d ≤ 59) := by
    obtain ⟨⟨k1, i1, a1, b1, e1⟩, ⟨k2, i2, a2, b2, e2⟩, ⟨k3, i3, a3, b3, e3⟩, ⟨k4, i4, a4, b4, e4⟩⟩ := bx_att hr h0
    have o1 := (hok k1 a1).2 i1 b1
    have o2 := (hok k2 a2).2 i2 b2
    have o3 := (hok k3 a3).2 i3 b3
    have o4 := (hok k4 a4).2 i4 b4
    have u1 := bxAll_has ns g a1 b1
    have u2 := bxAll_has ns g a2 b2
    omega
  obtain ⟨W, hW, hW9, l1, l2⟩ := sides hu hb.1.1 hb.1.2.1 hb.1.2.2
  obtain ⟨H, hH, hH9, l3, l4⟩ := sides hu hb.2.1 hb.2.2.1 hb.2.2.2
  obtain ⟨_, _, _, _, l5⟩ := sides hu (show -30 ≤ (bxAll ns g N).c by omega) (Int.le_refl _) hb.1.2.2
  obtain ⟨_, _, _, _, l6⟩ := sides hu (show -30 ≤ (bxAll ns g N).d by omega) (Int.le_refl _) hb.2.2.2
  have w24 : W ≤ 24 ∧ H ≤ 24 := by omega
  have hnl : W * H ≤ 100000 := by
    have : W * H ≤ 96 * 96 := Nat.mul_le_mul hW9 hH9
    omega
  have hu0 : 0 < u := by have := hu.1; have := hu.2.1; omega
  refine ⟨(bxAll ns g N).a / u, (bxAll ns g N).b / u, W, H, W * H, dotF N ns g u ((bxAll ns g N).a / u) ((bxAll ns g N).b / u) W, ⟨l1, l2, l3, l4⟩, hnl, fun t X Y hf a c V hO => ?_⟩
  have ht0 : 0 < t := by have := hf.t1; omega
  have hr' := ok_tmP hok hf.t1 hf.x2 hf.y2
  have hbx := bx_tmP ht0 hr hr' h0
  have hp : pre ns N ≤ 1000000 := by have := pre_le (fun k hk => (hok k hk).1); omega
  have q1 := div_tmP (z := (bxAll ns g N).a) (X := X) ht0 hu0
  have q2 := div_tmP (z := (bxAll ns g N).b) (X := Y) ht0 hu0
  have q3 := div_tmP (z := (bxAll ns g N).c) (X := X) ht0 hu0
  have q4 := div_tmP (z := (bxAll ns g N).d) (X := Y) ht0 hu0
  refine (Dots_yes a N c ns _ (t * u) (un_tu hu hf.t1).1 hr' h0 _ hbx W H (W * H) rfl (by simp only; omega) (by simp only; omega) hW9 hH9 (by omega) hp V hO).mono ?_
  rintro e w' ⟨sa, e1, h2, h3⟩
  simp only [q1, q2] at e1 h2
  refine ⟨sa, e1, da_congr h2 (fun i hi => ?_), h3⟩
  unfold dotF
  have hW0 : 0 < W := pos_of hi
  have hm := Nat.mod_lt i hW0
  have hd : i / W < H := Nat.div_lt_of_lt_mul hi
  generalize i % W = r at *
  generalize i / W = q at *
  rw [show (bxAll ns g N).a / u + X + (r : Int) = ((bxAll ns g N).a / u + (r : Int)) + X by omega, show (bxAll ns g N).b / u + Y + (q : Int) = ((bxAll ns g N).b / u + (q : Int)) + Y by omega,
    cvr_tmP hok hu hf (by omega) (by omega)]
end Go.Proofs.Ytjeiapgniflnaaa.Rs
