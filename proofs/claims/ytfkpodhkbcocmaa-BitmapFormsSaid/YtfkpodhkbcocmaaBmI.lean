/-
  Layer 4 (bitmap): Paste.
-/
import Derived.Test.YtfkpodhkbcocmaaBmH
namespace Go.Proofs.Ytfkpodhkbcocmaa.Bm
open Go.RowKit
theorem crp_self {W H : Int} {n : Nat} {f : Nat → Bool} (hg : gd W H n = true) (t : Nat) (ht : t < n) : crp W W H n f 0 0 t = f t := by
  obtain ⟨g1, g2, g3⟩ := (gd_iff _ _ _).1 hg
  obtain ⟨hW0, u1, u2, v1, v2, huv⟩ := t_side g3 ht g1.1 g2.1
  unfold crp has
  rw [wrap_id (x := 0 + (t : Int) % W) ⟨by omega, by omega⟩, wrap_id (x := 0 + (t : Int) / W) ⟨by omega, by omega⟩, Int.zero_add, Int.zero_add, hg, (ins_iff _ _ _ _).2 ⟨u1, u2, v1, v2⟩, huv, Int.toNat_natCast]
  rfl
theorem ck_i64 (W H : Int) (n : Nat) : ck W H n = 0 ∨ ck W H n = 5 ∨ ck W H n = 13 := by
  unfold ck
  split
  · split
    · exact .inl rfl
    · exact .inr (.inl rfl)
  · exact .inr (.inr rfl)
set_option maxHeartbeats 4000000 in
theorem Paste_bad (W H : Int) (a : Option Addr) (n c : Nat) (W2 H2 : Int) (a2 : Option Addr) (n2 c2 : Nat) (f2 : Nat → Bool) (x y : Int) (hg : gd W H n = false) (w : World) (hD2 : DA w a2 n2 f2) :
    Calls Try.prog 26 #[bv W H a n c, bv W2 H2 a2 n2 c2, .int .i64 x, .int .i64 y] w fun e w' => e = .returned (bv 0 0 none 0 0) ∧ Below w.heap.size w w' := by
  have C := Lib.hid (Crop_bad W H a n c 0 0 W H hg)
  have DR := Lib.hid (fun w hD => draw_any 0 0 none 0 0 (fun _ => false) W2 H2 a2 n2 c2 f2 x y w (by omega) (by omega) rfl (fun i hi => absurd hi (by omega)) hD (fun _ q q' e => by cases e))
  generalize ck W H n = z at *
  unfold bv at *
  go_enter Try.func26, Try.ntmps26
  go_wp2_with fail
  refine (C.out _).mono ?_
  rintro e w1 ⟨rfl, hb1⟩
  have hBa : Below w.heap.size w (((w.alloc (.cells #[.int .i64 W, .int .i64 H, .slice a n c] 28)).alloc (.cells #[.int .i64 W2, .int .i64 H2, .slice a2 n2 c2] 28)).alloc (.cells #[.int .i64 0, .int .i64 0, .slice none 0 0] 28)) := ba (ba (ba (Below.refl _ w) _) _) _
  obtain ⟨c0, c1, c2'⟩ := box3 hb1 rfl
  obtain ⟨f0, f1, f2'⟩ := fz3 hb1 rfl
  simp only [World.size_alloc] at c0 c1 c2' f0 f1 f2'
  have d0 : w1.cell? ⟨w.heap.size + 1, 0, none⟩ = some (.int .i64 W2) := kc hb1 (by simp) (by go_cell)
  have d1 : w1.cell? ⟨w.heap.size + 1, 1, none⟩ = some (.int .i64 H2) := kc hb1 (by simp) (by go_cell)
  have d2 : w1.cell? ⟨w.heap.size + 1, 2, none⟩ = some (.slice a2 n2 c2) := kc hb1 (by simp) (by go_cell)
  have hB : Below w.heap.size w w1 := bt hBa hb1
  have hw1 := block_lt_of_cell c0
  have hw2 := block_lt_of_cell d0
  replace hD2 := da_below hD2 hB
  clear hb1 hBa
  have hD3 := Lib.hid (da_below hD2 (ba (Below.refl _ w1) (.cells #[.int .i64 0, .int .i64 0, .slice none 0 0] 28)))
  go_wp2_with fail
  refine (DR.out _ hD3.out).mono ?_
  rintro e w3 ⟨rfl, _, hfr⟩
  have hb3 := hfr.to_below (Nat.le_refl _) (fun q e => by cases e)
  obtain ⟨p0, p1, p2⟩ := box3 hb3 rfl
  have hb23 : Below w1.heap.size w1 w3 := bt (ba (Below.refl _ w1) _) hb3
  obtain ⟨f0, f1, f2'⟩ := kf3 hb23 ⟨c0, c1, c2'⟩ ⟨f0, f1, f2'⟩
  obtain ⟨c0, c1, c2'⟩ := k3 hb23 ⟨c0, c1, c2'⟩
  replace hB := bt hB hb23
  clear hb23 hb3 hfr
  go_wp2
  refine bodyPost_ret (v := .agg #[.int .i64 0, .int .i64 0, .slice none 0 0]) (by simp [results, Try.results26, go_sem, c0, c1, c2']) rfl ⟨rfl, ?_⟩
  exact bs (bs (bs hB (by simp; omega) _) (by simp; omega) _) (by simp; omega) _
set_option maxHeartbeats 4000000 in
theorem Paste_yes (W H : Int) (a : Option Addr) (n c : Nat) (f : Nat → Bool) (W2 H2 : Int) (a2 : Option Addr) (n2 c2 : Nat) (f2 : Nat → Bool) (x y : Int) (hg : gd W H n = true) (hx : R64 x) (hy : R64 y) (w : World) (hD : DA w a n f) (hD2 : DA w a2 n2 f2) :
    Calls Try.prog 26 #[bv W H a n c, bv W2 H2 a2 n2 c2, .int .i64 x, .int .i64 y] w fun e w' => ∃ b, e = .returned (bv W H (some ⟨b, 0, none⟩) n n) ∧ OB w' b n (pst W W2 H2 n2 f2 f x y) ∧ (w.heap.size ≤ b ∧ b < w'.heap.size) ∧ Below w.heap.size w w' := by
  obtain ⟨s1, s2, s3⟩ := (gd_iff _ _ _).1 hg
  have C := Lib.hid (Crop_yes W H a n c f 0 0 W H n hg (by rw [Bool.and_eq_true]; exact ⟨(sd_iff _).2 s1, (sd_iff _).2 s2⟩) s3)
  have CE : Hid (∀ V b, OB V b n (crp W W H n f 0 0) → OB V b n f) := Lib.hid (fun V b h => ob_congr h (fun t ht => crp_self hg t ht))
  have PE : Hid (∀ V b, OO V (some ⟨b, 0, none⟩) n (dr W H W2 x y f2 f (nd W2 H2 n2)) → OB V b n (pst W W2 H2 n2 f2 f x y)) := Lib.hid (fun V b h => ob_congr (ob_oo h) (fun t ht => dr_pst W H W2 H2 x y n n2 f2 f s1 s2 s3 hx hy t ht))
  have DR : Hid (∀ b w, OB w b n f → DA w a2 n2 f2 → (0 < n2 → ∀ q', a2 = some q' → q'.block ≠ b) → _) := Lib.hid (fun b w ho hD hne => draw_any W H (some ⟨b, 0, none⟩) n n f W2 H2 a2 n2 c2 f2 x y w s1 s2 s3 (oo_ob ho) hD (fun hn q q' e e' => by cases e; exact hne hn q' e'))
  clear hg s1 s2 s3
  have HD := Lib.hid hD
  clear hD
  unfold bv at *
  go_enter Try.func26, Try.ntmps26
  go_wp2_with fail
  refine (C.out _ (da_below HD.out (ba (ba (ba (Below.refl _ w) _) _) _))).mono ?_
  rintro e w1 ⟨b, rfl, hob, ⟨hb0, hblt⟩, hb1⟩
  replace hob := CE.out _ _ hob
  have hBa : Below w.heap.size w (((w.alloc (.cells #[.int .i64 W, .int .i64 H, .slice a n c] 28)).alloc (.cells #[.int .i64 W2, .int .i64 H2, .slice a2 n2 c2] 28)).alloc (.cells #[.int .i64 0, .int .i64 0, .slice none 0 0] 28)) := ba (ba (ba (Below.refl _ w) _) _) _
  obtain ⟨c0, c1, c2'⟩ := box3 hb1 rfl
  obtain ⟨f0, f1, f2'⟩ := fz3 hb1 rfl
  simp only [World.size_alloc] at c0 c1 c2' f0 f1 f2'
  have d0 : w1.cell? ⟨w.heap.size + 1, 0, none⟩ = some (.int .i64 W2) := kc hb1 (by simp) (by go_cell)
  have d1 : w1.cell? ⟨w.heap.size + 1, 1, none⟩ = some (.int .i64 H2) := kc hb1 (by simp) (by go_cell)
  have d2 : w1.cell? ⟨w.heap.size + 1, 2, none⟩ = some (.slice a2 n2 c2) := kc hb1 (by simp) (by go_cell)
  have hB : Below w.heap.size w w1 := bt hBa hb1
  have hw1 := block_lt_of_cell c0
  have hw2 := block_lt_of_cell d0
  have hAl := addr_old hD2
  replace hD2 := da_below hD2 hB
  simp only [World.size_alloc] at hb0
  clear hb1 hBa
  have hBb := ba (Below.refl _ w1) (.cells #[.int .i64 W, .int .i64 H, .slice (some ⟨b, 0, none⟩) n n] 28)
  have hD3 := Lib.hid (da_below hD2 hBb)
  have ho3 := Lib.hid (ob_below hob hBb)
  have hne : 0 < n2 → ∀ q', a2 = some q' → q'.block ≠ b := fun hn q' e => by
    obtain ⟨b', o, e', hlt⟩ := hAl 0 hn
    rw [e] at e'
    cases e'
    simp only
    omega
  go_wp2_with fail
  refine (DR.out b _ ho3.out hD3.out hne).mono ?_
  rintro e w3 ⟨rfl, hoo, hfr⟩
  replace hoo := PE.out _ _ hoo
  have p0 := (hfr.cell (b := w1.heap.size) (o := 0) (v := .int .i64 W) (by go_cell) (fun q e => by cases e; simp only; omega)).1
  have p1 := (hfr.cell (b := w1.heap.size) (o := 1) (v := .int .i64 H) (by go_cell) (fun q e => by cases e; simp only; omega)).1
  have p2 := (hfr.cell (b := w1.heap.size) (o := 2) (v := .slice (some ⟨b, 0, none⟩) n n) (by go_cell) (fun q e => by cases e; simp only; omega)).1
  have hlt3 : b < w3.heap.size := by have := hfr.size; simp at this; omega
  have r0 := hfr.cell (b := w.heap.size + 1 + 1) (o := 0) (v := .int .i64 0) (by go_cell) (fun q e => by cases e; simp only; omega)
  have r1 := hfr.cell (b := w.heap.size + 1 + 1) (o := 1) (v := .int .i64 0) (by go_cell) (fun q e => by cases e; simp only; omega)
  have r2 := hfr.cell (b := w.heap.size + 1 + 1) (o := 2) (v := .slice none 0 0) (by go_cell) (fun q e => by cases e; simp only; omega)
  have f0' : w3.frozen? ⟨w.heap.size + 1 + 1, 0, none⟩ = false := r0.2.trans (by go_cell)
  have f1' : w3.frozen? ⟨w.heap.size + 1 + 1, 1, none⟩ = false := r1.2.trans (by go_cell)
  have f2'' : w3.frozen? ⟨w.heap.size + 1 + 1, 2, none⟩ = false := r2.2.trans (by go_cell)
  replace hB : Below w.heap.size w w3 := (ba hB _).trans (hfr.to_below (by simp; omega) (fun q e => by cases e; simp only; omega))
  obtain ⟨c0, _⟩ := r0
  obtain ⟨c1, _⟩ := r1
  obtain ⟨c2', _⟩ := r2
  clear hfr hBb hD3 ho3 f0 f1 f2'
  go_wp2
  refine bodyPost_ret (v := .agg #[.int .i64 W, .int .i64 H, .slice (some ⟨b, 0, none⟩) n n]) (by simp [results, Try.results26, go_sem, c0, c1, c2']) rfl ⟨b, rfl, ?_, ⟨by omega, by simpa using hlt3⟩, ?_⟩
  · exact ob_other (ob_other (ob_other hoo (by omega)) (by omega)) (by omega)
  · exact bs (bs (bs hB (by simp; omega) _) (by simp; omega) _) (by simp; omega) _
end Go.Proofs.Ytfkpodhkbcocmaa.Bm
