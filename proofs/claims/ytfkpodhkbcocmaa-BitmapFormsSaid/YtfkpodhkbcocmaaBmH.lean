/-
  Layer 4 (bitmap): what draw draws; Crop, Paste.
-/
import Derived.Test.YtfkpodhkbcocmaaBmG
namespace Go.Proofs.Ytfkpodhkbcocmaa.Bm
open Go.RowKit
theorem dr_iff (W H W2 x y : Int) (f2 g : Nat → Bool) (t : Nat) : ∀ k, dr W H W2 x y f2 g k t = true ↔ (g t = true ∨ ∃ j, j < k ∧ f2 j = true ∧ ins W H (dX x W2 j) (dY y W2 j) = true ∧ t = (dY y W2 j * W + dX x W2 j).toNat)
  | 0 => by
    rw [dr]
    exact ⟨.inl, fun h => h.elim id (fun ⟨j, hj, _⟩ => absurd hj (by omega))⟩
  | k + 1 => by
    have ih := dr_iff W H W2 x y f2 g t k
    have tail : (g t = true ∨ ∃ j, j < k + 1 ∧ f2 j = true ∧ ins W H (dX x W2 j) (dY y W2 j) = true ∧ t = (dY y W2 j * W + dX x W2 j).toNat) ↔ ((g t = true ∨ ∃ j, j < k ∧ f2 j = true ∧ ins W H (dX x W2 j) (dY y W2 j) = true ∧ t = (dY y W2 j * W + dX x W2 j).toNat) ∨ (f2 k = true ∧ ins W H (dX x W2 k) (dY y W2 k) = true ∧ t = (dY y W2 k * W + dX x W2 k).toNat)) := by
      constructor
      · rintro (h | ⟨j, hj, h⟩)
        · exact .inl (.inl h)
        · rcases Nat.lt_or_ge j k with hl | hl
          · exact .inl (.inr ⟨j, hl, h⟩)
          · have : j = k := by omega
            subst this
            exact .inr h
      · rintro ((h | ⟨j, hj, h⟩) | h)
        · exact .inl h
        · exact .inr ⟨j, by omega, h⟩
        · exact .inr ⟨k, by omega, h⟩
    rw [tail, ← ih, dr]
    by_cases hc : (f2 k && ins W H (dX x W2 k) (dY y W2 k)) = true
    · rw [if_pos hc]
      rw [Bool.and_eq_true] at hc
      by_cases ht : t = (dY y W2 k * W + dX x W2 k).toNat
      · simp only [if_pos ht, true_iff]
        exact .inr ⟨hc.1, hc.2, ht⟩
      · simp only [if_neg ht]
        exact ⟨.inl, fun h => h.elim id (fun h => absurd h.2.2 ht)⟩
    · rw [if_neg hc]
      rw [Bool.and_eq_true] at hc
      exact ⟨.inl, fun h => h.elim id (fun h => absurd ⟨h.1, h.2.1⟩ hc)⟩
/-- What draw draws. -/
def pst (W W2 H2 : Int) (n2 : Nat) (f2 g : Nat → Bool) (x y : Int) (t : Nat) : Bool := g t || has W2 H2 n2 f2 (RowKit.wrap64 ((t : Int) % W - x)) (RowKit.wrap64 ((t : Int) / W - y))
theorem t_side {W H : Int} {n t : Nat} (hn : (n : Int) = W * H) (ht : t < n) (hW : 0 ≤ W) (hH : 0 ≤ H) : 0 < W ∧ 0 ≤ (t : Int) % W ∧ (t : Int) % W < W ∧ 0 ≤ (t : Int) / W ∧ (t : Int) / W < H ∧ (t : Int) / W * W + (t : Int) % W = t := by
  have h0 : 0 < W := by
    rcases Int.lt_or_le 0 W with h | h
    · exact h
    · have : W = 0 := by omega
      subst this
      omega
  refine ⟨h0, Int.emod_nonneg _ (by omega), Int.emod_lt_of_pos _ h0, Int.ediv_nonneg (by omega) hW, Int.ediv_lt_of_lt_mul h0 (by rw [Int.mul_comm]; omega), ?_⟩
  rw [Int.mul_comm]; exact Int.mul_ediv_add_emod _ _
theorem div_mod_at {W u v : Int} (h : 0 ≤ u ∧ u < W) : (v * W + u) % W = u ∧ (v * W + u) / W = v := by
  have hW : W ≠ 0 := by omega
  refine ⟨?_, ?_⟩
  · rw [Int.add_comm, Int.add_mul_emod_self_right]; exact Int.emod_eq_of_lt h.1 h.2
  · rw [Int.add_comm, Int.add_mul_ediv_right _ _ hW, Int.ediv_eq_zero_of_lt h.1 h.2]; omega
theorem dr_pst (W H W2 H2 x y : Int) (n n2 : Nat) (f2 g : Nat → Bool) (hW : 0 ≤ W ∧ W ≤ 96) (hH : 0 ≤ H ∧ H ≤ 96) (hn : (n : Int) = W * H) (hx : R64 x) (hy : R64 y) (t : Nat) (ht : t < n) : dr W H W2 x y f2 g (nd W2 H2 n2) t = pst W W2 H2 n2 f2 g x y t := by
  obtain ⟨hW0, u1, u2, v1, v2, huv⟩ := t_side hn ht hW.1 hH.1
  rw [Bool.eq_iff_iff, dr_iff]
  unfold pst has
  rw [Bool.or_eq_true, Bool.and_eq_true, Bool.and_eq_true, ins_iff]
  refine or_congr Iff.rfl ?_
  by_cases hg : gd W2 H2 n2 = true
  · rw [show nd W2 H2 n2 = n2 by unfold nd; rw [hg]; rfl]
    obtain ⟨g1, g2, g3⟩ := (gd_iff _ _ _).1 hg
    constructor
    · rintro ⟨j, hj, hf, hi, e⟩
      obtain ⟨i1, i2, i3, i4⟩ := (ins_iff _ _ _ _).1 hi
      obtain ⟨hW20, a1, a2, b1, b2, hab⟩ := t_side g3 hj g1.1 g2.1
      have e2 : (t : Int) = dY y W2 j * W + dX x W2 j := by
        have := (pos_in ⟨i1, i2⟩ ⟨i3, i4⟩).1
        omega
      have e3 := div_mod_at (v := dY y W2 j) ⟨i1, i2⟩
      rw [← e2] at e3
      have e4 : RowKit.wrap64 ((t : Int) % W - x) = (j : Int) % W2 := by
        rw [e3.1]
        unfold dX
        obtain ⟨x1, x2⟩ := hx
        unfold RowKit.wrap64
        omega
      have e5 : RowKit.wrap64 ((t : Int) / W - y) = (j : Int) / W2 := by
        rw [e3.2]
        unfold dY
        obtain ⟨x1, x2⟩ := hy
        unfold RowKit.wrap64
        omega
      rw [e4, e5]
      refine ⟨hg, ⟨a1, a2, b1, b2⟩, ?_⟩
      rw [hab, Int.toNat_natCast]; exact hf
    · rintro ⟨_, ⟨i1, i2, i3, i4⟩, hf⟩
      generalize hp : RowKit.wrap64 ((t : Int) % W - x) = p at *
      generalize hq : RowKit.wrap64 ((t : Int) / W - y) = q at *
      have hb := pos_in ⟨i1, i2⟩ ⟨i3, i4⟩
      have e3 := div_mod_at (v := q) ⟨i1, i2⟩
      have hc : ((q * W2 + p).toNat : Int) = q * W2 + p := by omega
      have ex : dX x W2 (q * W2 + p).toNat = (t : Int) % W := by
        unfold dX
        rw [hc, e3.1, ← hp]
        obtain ⟨x1, x2⟩ := hx
        unfold RowKit.wrap64
        omega
      have ey : dY y W2 (q * W2 + p).toNat = (t : Int) / W := by
        unfold dY
        rw [hc, e3.2, ← hq]
        obtain ⟨x1, x2⟩ := hy
        unfold RowKit.wrap64
        omega
      refine ⟨(q * W2 + p).toNat, by omega, hf, ?_, ?_⟩
      · rw [ex, ey]; exact (ins_iff _ _ _ _).2 ⟨u1, u2, v1, v2⟩
      · rw [ex, ey, huv]; rfl
  · rw [show nd W2 H2 n2 = 0 by unfold nd; rw [if_neg hg]]
    exact ⟨fun ⟨j, hj, _⟩ => absurd hj (by omega), fun h => absurd h.1 hg⟩
/-- What Crop cuts. -/
def crp (w W H : Int) (n : Nat) (f : Nat → Bool) (x y : Int) (t : Nat) : Bool := has W H n f (RowKit.wrap64 (x + (t : Int) % w)) (RowKit.wrap64 (y + (t : Int) / w))
theorem pst_crp (w W H : Int) (n : Nat) (f : Nat → Bool) (x y : Int) (t : Nat) : pst w W H n f (fun _ => false) (RowKit.wrap64 (-x)) (RowKit.wrap64 (-y)) t = crp w W H n f x y t := by
  unfold pst crp
  rw [Bool.false_or]
  have e : ∀ a b : Int, RowKit.wrap64 (a - RowKit.wrap64 (-b)) = RowKit.wrap64 (b + a) := fun a b => by unfold RowKit.wrap64; omega
  rw [e, e]
theorem wrap_R (x : Int) : R64 (RowKit.wrap64 x) := by unfold R64 RowKit.wrap64; omega
set_option maxHeartbeats 2000000 in
theorem Crop_bad (W H : Int) (a : Option Addr) (n c : Nat) (x y cw chh : Int) (hg : gd W H n = false) (w : World) :
    Calls Try.prog 28 #[bv W H a n c, .int .i64 x, .int .i64 y, .int .i64 cw, .int .i64 chh] w fun e w' => e = .returned (.tuple #[bv 0 0 none 0 0, .int .i64 (ck W H n)]) ∧ Below w.heap.size w w' := by
  have C := Lib.hid (Check_any W H a n c)
  have hz := ck_zero W H n
  rw [hg] at hz
  generalize ck W H n = z at *
  have hz2 : ¬ z = 0 := fun h => by rw [h] at hz; cases hz
  unfold bv at *
  go_enter Try.func28, Try.ntmps28
  go_wp2_with fail
  refine (C.out _).mono ?_
  rintro e w1 ⟨rfl, hb1⟩
  have hBa : Below w.heap.size w ((w.alloc (.cells #[.int .i64 W, .int .i64 H, .slice a n c] 28)).alloc (.cells #[.int .i64 0, .int .i64 0, .slice none 0 0] 28)) := ba (ba (Below.refl _ w) _) _
  obtain ⟨c0, c1, c2⟩ := box3 hb1 rfl
  obtain ⟨f0, f1, f2⟩ := fz3 hb1 rfl
  simp only [World.size_alloc] at c0 c1 c2 f0 f1 f2
  have hB : Below w.heap.size w w1 := bt hBa hb1
  clear hb1 hBa
  go_wp2
  refine bodyPost_ret (v := .tuple #[.agg #[.int .i64 0, .int .i64 0, .slice none 0 0], .int .i64 z]) (by simp [results, Try.results28, go_sem, c0, c1, c2]) rfl ⟨rfl, ?_⟩
  exact bs (bs (bs hB (by simp) _) (by simp) _) (by simp) _
set_option maxHeartbeats 4000000 in
theorem Crop_size (W H : Int) (a : Option Addr) (n c : Nat) (f : Nat → Bool) (x y cw chh : Int) (hg : gd W H n = true) (hs : (sd cw && sd chh) = false) (w : World) (hD : DA w a n f) :
    Calls Try.prog 28 #[bv W H a n c, .int .i64 x, .int .i64 y, .int .i64 cw, .int .i64 chh] w fun e w' => e = .returned (.tuple #[bv 0 0 none 0 0, .int .i64 13]) ∧ Below w.heap.size w w' := by
  have C := Lib.hid (Check_any W H a n c)
  have hz : ck W H n = 0 := by have := ck_zero W H n; rw [hg] at this; exact eq_of_beq this
  rw [hz] at C
  have N := Lib.hid (New_no cw chh hs)
  have DR := Lib.hid (fun w hD => draw_any 0 0 none 0 0 (fun _ => false) W H a n c f (RowKit.wrap64 (-x)) (RowKit.wrap64 (-y)) w (by omega) (by omega) rfl (fun i hi => absurd hi (by omega)) hD (fun _ q q' e => by cases e))
  unfold bv at *
  go_enter Try.func28, Try.ntmps28
  go_wp2_with fail
  refine (C.out _).mono ?_
  rintro e w1 ⟨rfl, hb1⟩
  have hBa : Below w.heap.size w ((w.alloc (.cells #[.int .i64 W, .int .i64 H, .slice a n c] 28)).alloc (.cells #[.int .i64 0, .int .i64 0, .slice none 0 0] 28)) := ba (ba (Below.refl _ w) _) _
  obtain ⟨c0, c1, c2⟩ := box3 hb1 rfl
  obtain ⟨f0, f1, f2⟩ := fz3 hb1 rfl
  simp only [World.size_alloc] at c0 c1 c2 f0 f1 f2
  have d0 : w1.cell? ⟨w.heap.size, 0, none⟩ = some (.int .i64 W) := kc hb1 (by simp; omega) (by go_cell)
  have d1 : w1.cell? ⟨w.heap.size, 1, none⟩ = some (.int .i64 H) := kc hb1 (by simp; omega) (by go_cell)
  have d2 : w1.cell? ⟨w.heap.size, 2, none⟩ = some (.slice a n c) := kc hb1 (by simp; omega) (by go_cell)
  have hB : Below w.heap.size w w1 := bt hBa hb1
  replace hD := da_below hD hB
  clear hb1 hBa
  go_wp2_with fail
  refine (N.out _).mono ?_
  rintro e w2 ⟨rfl, hb2⟩
  obtain ⟨f0, f1, f2⟩ := kf3 hb2 ⟨c0, c1, c2⟩ ⟨f0, f1, f2⟩
  obtain ⟨c0, c1, c2⟩ := k3 hb2 ⟨c0, c1, c2⟩
  obtain ⟨d0, d1, d2⟩ := k3 hb2 ⟨d0, d1, d2⟩
  replace hD := da_below hD hb2
  replace hB := bt hB hb2
  clear hb2
  have hsz := block_lt_of_cell c0
  have hsz2 := block_lt_of_cell d0
  have hD3 := Lib.hid (da_below hD (ba (Below.refl _ w2) (.cells #[.int .i64 0, .int .i64 0, .slice none 0 0] 28)))
  go_wp2_with fail
  refine (DR.out _ hD3.out).mono ?_
  rintro e w3 ⟨rfl, _, hfr⟩
  have hb3 := hfr.to_below (Nat.le_refl _) (fun q e => by cases e)
  obtain ⟨p0, p1, p2⟩ := box3 hb3 rfl
  have hb23 : Below w2.heap.size w2 w3 := bt (ba (Below.refl _ w2) _) hb3
  obtain ⟨f0, f1, f2⟩ := kf3 hb23 ⟨c0, c1, c2⟩ ⟨f0, f1, f2⟩
  obtain ⟨c0, c1, c2⟩ := k3 hb23 ⟨c0, c1, c2⟩
  replace hB := bt hB hb23
  clear hb23 hb3 hfr
  go_wp2
  refine bodyPost_ret (v := .tuple #[.agg #[.int .i64 0, .int .i64 0, .slice none 0 0], .int .i64 13]) (by simp [results, Try.results28, go_sem, c0, c1, c2]) rfl ⟨rfl, ?_⟩
  exact bs (bs (bs hB (by simp) _) (by simp) _) (by simp) _
set_option maxHeartbeats 4000000 in
theorem Crop_yes (W H : Int) (a : Option Addr) (n c : Nat) (f : Nat → Bool) (x y cw chh : Int) (m : Nat) (hg : gd W H n = true) (hs : (sd cw && sd chh) = true) (hm : (m : Int) = cw * chh) (w : World) (hD : DA w a n f) :
    Calls Try.prog 28 #[bv W H a n c, .int .i64 x, .int .i64 y, .int .i64 cw, .int .i64 chh] w fun e w' => ∃ b, e = .returned (.tuple #[bv cw chh (some ⟨b, 0, none⟩) m m, .int .i64 0]) ∧ OB w' b m (crp cw W H n f x y) ∧ (w.heap.size ≤ b ∧ b < w'.heap.size) ∧ Below w.heap.size w w' := by
  have C := Lib.hid (Check_any W H a n c)
  have hz : ck W H n = 0 := by have := ck_zero W H n; rw [hg] at this; exact eq_of_beq this
  rw [hz] at C
  have N := Lib.hid (New_yes cw chh m hs hm)
  rw [Bool.and_eq_true] at hs
  have s1 := (sd_iff cw).1 hs.1
  have s2 := (sd_iff chh).1 hs.2
  have PE : Hid (∀ V b, OO V (some ⟨b, 0, none⟩) m (dr cw chh W (RowKit.wrap64 (-x)) (RowKit.wrap64 (-y)) f (fun _ => false) (nd W H n)) → OB V b m (crp cw W H n f x y)) := Lib.hid (fun V b h => ob_congr (ob_oo h) (fun t ht => by
    rw [dr_pst cw chh W H _ _ m n f _ s1 s2 hm (wrap_R _) (wrap_R _) t ht, pst_crp]))
  have DR : Hid (∀ b w, OB w b m (fun _ => false) → DA w a n f → (0 < n → ∀ q', a = some q' → q'.block ≠ b) → _) := Lib.hid (fun b w ho hD hne => draw_any cw chh (some ⟨b, 0, none⟩) m m (fun _ => false) W H a n c f (RowKit.wrap64 (-x)) (RowKit.wrap64 (-y)) w s1 s2 hm (oo_ob ho) hD (fun hn q q' e e' => by cases e; exact hne hn q' e'))
  clear hz hg hs s1 s2
  unfold bv at *
  go_enter Try.func28, Try.ntmps28
  go_wp2_with fail
  refine (C.out _).mono ?_
  rintro e w1 ⟨rfl, hb1⟩
  have hBa : Below w.heap.size w ((w.alloc (.cells #[.int .i64 W, .int .i64 H, .slice a n c] 28)).alloc (.cells #[.int .i64 0, .int .i64 0, .slice none 0 0] 28)) := ba (ba (Below.refl _ w) _) _
  obtain ⟨c0, c1, c2⟩ := box3 hb1 rfl
  obtain ⟨f0, f1, f2⟩ := fz3 hb1 rfl
  simp only [World.size_alloc] at c0 c1 c2 f0 f1 f2
  have d0 : w1.cell? ⟨w.heap.size, 0, none⟩ = some (.int .i64 W) := kc hb1 (by simp; omega) (by go_cell)
  have d1 : w1.cell? ⟨w.heap.size, 1, none⟩ = some (.int .i64 H) := kc hb1 (by simp; omega) (by go_cell)
  have d2 : w1.cell? ⟨w.heap.size, 2, none⟩ = some (.slice a n c) := kc hb1 (by simp; omega) (by go_cell)
  have hB : Below w.heap.size w w1 := bt hBa hb1
  have hAl := addr_old hD
  have hw1 := block_lt_of_cell c0
  replace hD := da_below hD hB
  clear hb1 hBa
  go_wp2_with fail
  refine (N.out _).mono ?_
  rintro e w2 ⟨b, rfl, hob, ⟨hb0, hblt⟩, hb2⟩
  obtain ⟨f0, f1, f2⟩ := kf3 hb2 ⟨c0, c1, c2⟩ ⟨f0, f1, f2⟩
  obtain ⟨c0, c1, c2⟩ := k3 hb2 ⟨c0, c1, c2⟩
  obtain ⟨d0, d1, d2⟩ := k3 hb2 ⟨d0, d1, d2⟩
  have hsz1 := hB.size
  have hsz := block_lt_of_cell c0
  have hsz2 := block_lt_of_cell d0
  replace hD := da_below hD hb2
  replace hB := bt hB hb2
  clear hb2
  have hBb := ba (Below.refl _ w2) (.cells #[.int .i64 cw, .int .i64 chh, .slice (some ⟨b, 0, none⟩) m m] 28)
  have hD3 := Lib.hid (da_below hD hBb)
  have ho3 := Lib.hid (ob_below hob hBb)
  have hne : 0 < n → ∀ q', a = some q' → q'.block ≠ b := fun hn q' e => by
    obtain ⟨b', o, e', hlt⟩ := hAl 0 hn
    rw [e] at e'
    cases e'
    simp only
    omega
  go_wp2_with fail
  refine (DR.out b _ ho3.out hD3.out hne).mono ?_
  rintro e w3 ⟨rfl, hoo, hfr⟩
  replace hoo := PE.out _ _ hoo
  have p0 := (hfr.cell (b := w2.heap.size) (o := 0) (v := .int .i64 cw) (by go_cell) (fun q e => by cases e; simp only; omega)).1
  have p1 := (hfr.cell (b := w2.heap.size) (o := 1) (v := .int .i64 chh) (by go_cell) (fun q e => by cases e; simp only; omega)).1
  have p2 := (hfr.cell (b := w2.heap.size) (o := 2) (v := .slice (some ⟨b, 0, none⟩) m m) (by go_cell) (fun q e => by cases e; simp only; omega)).1
  have hlt3 : b < w3.heap.size := by have := hfr.size; simp at this; omega
  have r0 := hfr.cell (b := w.heap.size + 1) (o := 0) (v := .int .i64 0) (by go_cell) (fun q e => by cases e; simp only; omega)
  have r1 := hfr.cell (b := w.heap.size + 1) (o := 1) (v := .int .i64 0) (by go_cell) (fun q e => by cases e; simp only; omega)
  have r2 := hfr.cell (b := w.heap.size + 1) (o := 2) (v := .slice none 0 0) (by go_cell) (fun q e => by cases e; simp only; omega)
  have f0' : w3.frozen? ⟨w.heap.size + 1, 0, none⟩ = false := r0.2.trans (by go_cell)
  have f1' : w3.frozen? ⟨w.heap.size + 1, 1, none⟩ = false := r1.2.trans (by go_cell)
  have f2' : w3.frozen? ⟨w.heap.size + 1, 2, none⟩ = false := r2.2.trans (by go_cell)
  replace hB : Below w.heap.size w w3 := (ba hB _).trans (hfr.to_below (by simp; omega) (fun q e => by cases e; simp only; omega))
  obtain ⟨c0, _⟩ := r0
  obtain ⟨c1, _⟩ := r1
  obtain ⟨c2, _⟩ := r2
  clear hfr hBb hD3 ho3 f0 f1 f2
  go_wp2
  refine bodyPost_ret (v := .tuple #[.agg #[.int .i64 cw, .int .i64 chh, .slice (some ⟨b, 0, none⟩) m m], .int .i64 0]) (by simp [results, Try.results28, go_sem, c0, c1, c2]) rfl ⟨b, rfl, ?_, ⟨by omega, by simpa using hlt3⟩, ?_⟩
  · exact ob_other (ob_other (ob_other hoo (by omega)) (by omega)) (by omega)
  · exact bs (bs (bs hB (by simp) _) (by simp) _) (by simp) _
end Go.Proofs.Ytfkpodhkbcocmaa.Bm
