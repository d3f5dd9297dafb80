/-
  Layer 5 (axis): AxisMonotone: mathematics and walk.
-/
import Derived.Test.YtmlkdfieakihlaaAxP
import Derived.Test.YtmlkdfieakihlaaAxS
namespace Go.Proofs.Ytmlkdfieakihlaa.Ax
open Go.RowKit
open Go.Proofs.Ytmlkdfieakihlaa.Ex (RoI)
theorem ro_mono {a a' b : Int} (hb : 1 ≤ b) (h0 : 0 ≤ a) (h : a ≤ a') (h1 : a' ≤ 64 * b) : RoI a b ≤ RoI a' b := by
  rw [(ro_is hb ⟨h0, by omega⟩).1, (ro_is hb ⟨by omega, h1⟩).1]
  exact Int.ediv_le_ediv (by omega) (by omega)
theorem ro_full {b : Int} (hb : 1 ≤ b) : RoI (64 * b) b = 64 := by
  obtain ⟨e, _, h⟩ := ro_is (a := 64 * b) hb ⟨by omega, by omega⟩
  apply Int.le_antisymm h
  rw [e]
  apply Int.le_ediv_of_mul_le (by omega)
  omega
theorem nm_mono {x : Axs} (hx : rgA x) {v w : Int} (h : lim v x.l x.h ≤ lim w x.l x.h) : nm x v ≤ nm x w := by
  obtain ⟨h1, h2, h3, h4⟩ := hx
  have hv := lim_in (v := v) (lo := x.l) (hi := x.h) (by omega)
  have hw := lim_in (v := w) (lo := x.l) (hi := x.h) (by omega)
  unfold nm
  generalize lim v x.l x.h = y at *
  generalize lim w x.l x.h = z at *
  by_cases c1 : y < x.u
  · rw [if_pos c1]
    have r1 := ro_is (a := 64 * (x.u - y)) (b := x.u - x.l) (by omega) (by omega)
    by_cases c2 : z < x.u
    · rw [if_pos c2]
      have := ro_mono (a := 64 * (x.u - z)) (a' := 64 * (x.u - y)) (b := x.u - x.l) (by omega) (by omega) (by omega) (by omega)
      omega
    · rw [if_neg c2]
      split
      · have r2 := ro_is (a := 64 * (z - x.u)) (b := x.h - x.u) (by omega) (by omega)
        omega
      · omega
  · rw [if_neg c1, if_neg (show ¬ z < x.u by omega)]
    by_cases c2 : x.u < y
    · rw [if_pos c2, if_pos (show x.u < z by omega)]
      exact ro_mono (by omega) (by omega) (by omega) (by omega)
    · rw [if_neg c2]
      split
      · exact (ro_is (a := 64 * (z - x.u)) (b := x.h - x.u) (by omega) (by omega)).2.1
      · omega
theorem nm_low {x : Axs} (hx : rgA x) : nm x x.l = if x.l = x.u then 0 else -64 := by
  obtain ⟨h1, h2, h3, h4⟩ := hx
  unfold nm
  rw [show lim x.l x.l x.h = x.l by unfold lim; omega]
  by_cases c : x.l = x.u
  · rw [if_pos c, if_neg (by omega), if_neg (by omega)]
  · rw [if_neg c, if_pos (by omega), ro_full (by omega)]
theorem nm_high {x : Axs} (hx : rgA x) : nm x x.h = if x.h = x.u then 0 else 64 := by
  obtain ⟨h1, h2, h3, h4⟩ := hx
  unfold nm
  rw [show lim x.h x.l x.h = x.h by unfold lim; omega]
  by_cases c : x.h = x.u
  · rw [if_pos c, if_neg (by omega), if_neg (by omega)]
  · rw [if_neg c, if_neg (by omega), if_pos (by omega), ro_full (by omega)]
theorem nm_usual {x : Axs} (hx : rgA x) : nm x x.u = 0 := by
  obtain ⟨h1, h2, h3, h4⟩ := hx
  unfold nm
  rw [show lim x.u x.l x.h = x.u by unfold lim; omega, if_neg (by omega), if_neg (by omega)]
theorem tagN_ok (i : Nat) : tagOk (tagN i) = true := by
  unfold tagN
  split
  · decide +kernel
  · split <;> decide +kernel
theorem md_ck {x : Axs} {i : Nat} (h : mdOk x i) : ck1 x = 0 := by
  obtain ⟨h0, h1, h2, h3, h4⟩ := h
  unfold ck1 ckOne
  rw [h0, tagN_ok]
  have e1 : ranA x = true := by
    unfold ranA
    simp only [Bool.and_eq_true, inU_iff]
    omega
  have e2 : ordA x = true := by
    unfold ordA
    simp only [Bool.and_eq_true, decide_eq_true_eq]
    omega
  rw [e1, e2]
  rfl
def MnRel (V1 : World) (n : Nat) (v : Value) (V : World) : Prop := ∃ k : Nat, v = .int .i64 k ∧ k ≤ n ∧ Below V1.heap.size V1 V
theorem lam {w : World} {a : Option Addr} {n m : Nat} {g : Nat → Int} (h : LA w a n g) (hm : m ≤ n) : LA w a m g := fun i hi => h i (by omega)
set_option maxRecDepth 100000 in
set_option maxHeartbeats 16000000 in
theorem Monotone_any (a : Option Addr) (L c : Nat) (l : Nat → Int) (u v : Int) (hL : L ≤ c ∧ c ≤ 9223372036854775807) (hl : ∀ i, i < L → R64 (l i)) (w : World) (hA : LA w a L l) :
    Calls Try.prog 5 #[.slice a L c, .int .i64 u, .int .i64 v] w fun en w' => en = .returned (.bool true) ∧ Below w.heap.size w w' := by
  obtain ⟨hL1, hL2⟩ := hL
  have SN := Lib.hid sanity_any
  obtain ⟨L', eL⟩ : ∃ L' : Nat, min L 30 = L' := ⟨_, rfl⟩
  have fL : min (L : Int) 30 = (L' : Int) := by omega
  have gL : (L' : Int) ≤ (c : Int) := by omega
  have MD : Hid (∀ V, Below w.heap.size w V → _) := Lib.hid (fun V h => Made_any a L' c l (by omega) (fun i hi => hl i (by omega)) V (lam (la_below hA h) (by omega)))
  clear hA hl
  go_enter Try.func5, Try.ntmps5
  go_wp2_with fail
  refine (SN.out _).mono ?_
  rintro en V0 ⟨rfl, hB⟩
  go_wp2_with fail
  refine (MD.out _ hB).mono ?_
  rintro en V1 ⟨a', n, c', g, rfl, hn, hc1, hc2, hO, hok, hB1⟩
  replace hB := bt hB hB1
  have hG := Lib.hid (oa_aa hO)
  clear hO hB1 MD
  go_wp2_with fail
  go_loopw [29] (fun s V => MnRel V1 n s V) (fun s _ => n - (intOf s).toNat)
  case atStart => exact ⟨0, rfl, by omega, Below.refl _ _⟩
  case round =>
    obtain ⟨k, rfl, hk, hV⟩ := hrel
    rename World => V
    rcases Nat.lt_or_ge k n with hkn | hkn
    · obtain ⟨b, o, rfl, x0, x1, x2, x3⟩ := aa_below hG.out hV k hkn
      have hck := md_ck (hok k hkn)
      have hN : Hid (∀ V', Below V.heap.size V V' → MnRel V1 n (.int .i64 ((k : Int) + 1)) V') := Lib.hid (fun V' h => ⟨k + 1, rfl, by omega, bt hV h⟩)
      have hr := ck1_rg hck
      have k2 : (0 : Int) ≤ (k : Int) := by omega
      have k3 : (k : Int) < (n : Int) := by omega
      clear hok
      generalize g k = x at *
      have NM : Hid (∀ (W : World) (b c : Nat) (u : Int), W.cell? ⟨b, 0, none⟩ = some (.string x.t) → W.cell? ⟨b, 1, none⟩ = some (.int .i64 x.l) → W.cell? ⟨b, 2, none⟩ = some (.int .i64 x.u) → W.cell? ⟨b, 3, none⟩ = some (.int .i64 x.h) → W.cell? ⟨c, 0, none⟩ = some (.int .i64 u) → _) := Lib.hid (fun W b c u h1 h2 h3 h4 h5 => x_norm x u hck W b c ⟨h1, h2, h3, h4⟩ h5)
      have hlm := lim_in (v := min u v) (lo := x.l) (hi := x.h) (by unfold rgA at hr; omega)
      have hlM := lim_in (v := max u v) (lo := x.l) (hi := x.h) (by unfold rgA at hr; omega)
      have m1 : nm x (min u v) ≤ nm x (max u v) := nm_mono hr (by unfold lim; omega)
      have m2 : nm x x.l ≤ nm x (min u v) := nm_mono hr (by rw [show lim x.l x.l x.h = x.l by unfold rgA at hr; unfold lim; omega]; exact hlm.1)
      have m3 : nm x (max u v) ≤ nm x x.h := nm_mono hr (by rw [show lim x.h x.l x.h = x.h by unfold rgA at hr; unfold lim; omega]; exact hlM.2)
      rw [nm_low hr] at m2
      rw [nm_high hr] at m3
      have NA := Lib.hid (fun W b c => NM.out W b c (min u v))
      have NB := Lib.hid (fun W b c => NM.out W b c (max u v))
      have NC := Lib.hid (fun W b c => NM.out W b c x.l)
      have ND := Lib.hid (fun W b c => NM.out W b c x.h)
      have NE := Lib.hid (fun W b c => NM.out W b c x.u)
      rw [nm_low hr] at NC
      rw [nm_high hr] at ND
      rw [nm_usual hr] at NE
      generalize nm x (min u v) = p at *
      generalize nm x (max u v) = q at *
      have g1 : decide (q < p) = false := decide_eq_false (by omega)
      clear NM hck hlm hlM m1
      obtain ⟨ll, hll⟩ : ∃ ll, (if x.l = x.u then (0 : Int) else -64) = ll := ⟨_, rfl⟩
      obtain ⟨hh, hhh⟩ : ∃ hh, (if x.h = x.u then (0 : Int) else 64) = hh := ⟨_, rfl⟩
      rw [hll] at NC m2
      rw [hhh] at ND m3
      have g2 : decide (p < ll) = false := decide_eq_false (by omega)
      have g3 : decide (hh < q) = false := decide_eq_false (by omega)
      have g4 : (x.l == x.u) = !(ll == -64) := by
        rw [← hll]
        by_cases e : x.l = x.u
        · rw [if_pos e, beq_iff_eq.2 e]; rfl
        · rw [if_neg e, beq_no e]; rfl
      have g5 : (x.h == x.u) = !(hh == 64) := by
        rw [← hhh]
        by_cases e : x.h = x.u
        · rw [if_pos e, beq_iff_eq.2 e]; rfl
        · rw [if_neg e, beq_no e]; rfl
      clear m2 m3 hr
      have hX := bxa_new V x 29
      go_upto_region 5 with (fail)
      have hT := bxa_new (V.alloc (.cells #[.string x.t, .int .i64 x.l, .int .i64 x.u, .int .i64 x.h] 29)) x 29
      have hV2 := ba (ba (Below.refl _ V) (.cells #[.string x.t, .int .i64 x.l, .int .i64 x.u, .int .i64 x.h] 29)) (.cells #[.string x.t, .int .i64 x.l, .int .i64 x.u, .int .i64 x.h] 29)
      replace hX := bxa_below hX (ba (Below.refl _ _) (.cells #[.string x.t, .int .i64 x.l, .int .i64 x.u, .int .i64 x.h] 29))
      clear x0 x1 x2 x3
      go_upto_region 6 with (fail)
      simp only [World.size_alloc] at hT
      generalize hVe : (V.alloc (.cells #[.string x.t, .int .i64 x.l, .int .i64 x.u, .int .i64 x.h] 29)).alloc (.cells #[.string x.t, .int .i64 x.l, .int .i64 x.u, .int .i64 x.h] 29) = W0 at *
      generalize hBe : V.heap.size + 1 = O at *
      obtain ⟨B, hBe2⟩ : ∃ B, B = V.heap.size := ⟨_, rfl⟩
      rw [← hBe2] at hX ⊢
      clear hVe hBe hBe2
      obtain ⟨x0, x1, x2, x3⟩ := id hX
      obtain ⟨y0, y1, y2, y3⟩ := id hT
      go_wp2_with fail
      refine (NA.out _ _ _ (kc (ba (Below.refl _ _) _) (block_lt_of_cell y0) y0) (kc (ba (Below.refl _ _) _) (block_lt_of_cell y0) y1) (kc (ba (Below.refl _ _) _) (block_lt_of_cell y0) y2) (kc (ba (Below.refl _ _) _) (block_lt_of_cell y0) y3) (by go_cell)).mono ?_
      rintro en W1 ⟨S1, rfl, c0, hb⟩
      replace hb := bt (ba (Below.refl _ W0) _) hb
      replace hX := bxa_below hX hb
      replace hT := bxa_below hT hb
      replace hV2 := bt hV2 hb
      clear hb x0 x1 x2 x3 y0 y1 y2 y3
      obtain ⟨x0, x1, x2, x3⟩ := id hX
      obtain ⟨y0, y1, y2, y3⟩ := id hT
      go_wp2_with fail
      refine (NB.out _ _ _ (kc (ba (Below.refl _ _) _) (block_lt_of_cell y0) y0) (kc (ba (Below.refl _ _) _) (block_lt_of_cell y0) y1) (kc (ba (Below.refl _ _) _) (block_lt_of_cell y0) y2) (kc (ba (Below.refl _ _) _) (block_lt_of_cell y0) y3) (by go_cell)).mono ?_
      rintro en W2 ⟨S2, rfl, c1, hb⟩
      replace hb := bt (ba (Below.refl _ W1) _) hb
      replace hX := bxa_below hX hb
      replace hT := bxa_below hT hb
      replace hV2 := bt hV2 hb
      replace c0 := kc hb (block_lt_of_cell c0) c0
      clear hb x0 x1 x2 x3 y0 y1 y2 y3
      obtain ⟨x0, x1, x2, x3⟩ := id hX
      obtain ⟨y0, y1, y2, y3⟩ := id hT
      go_wp2_with fail
      refine (NC.out _ _ _ (kc (ba (Below.refl _ _) _) (block_lt_of_cell y0) y0) (kc (ba (Below.refl _ _) _) (block_lt_of_cell y0) y1) (kc (ba (Below.refl _ _) _) (block_lt_of_cell y0) y2) (kc (ba (Below.refl _ _) _) (block_lt_of_cell y0) y3) (by go_cell)).mono ?_
      rintro en W3 ⟨S3, rfl, c2, hb⟩
      replace hb := bt (ba (Below.refl _ W2) _) hb
      replace hX := bxa_below hX hb
      replace hT := bxa_below hT hb
      replace hV2 := bt hV2 hb
      replace c0 := kc hb (block_lt_of_cell c0) c0
      replace c1 := kc hb (block_lt_of_cell c1) c1
      clear hb x0 x1 x2 x3 y0 y1 y2 y3
      obtain ⟨x0, x1, x2, x3⟩ := id hX
      obtain ⟨y0, y1, y2, y3⟩ := id hT
      go_wp2_with fail
      refine (ND.out _ _ _ (kc (ba (Below.refl _ _) _) (block_lt_of_cell y0) y0) (kc (ba (Below.refl _ _) _) (block_lt_of_cell y0) y1) (kc (ba (Below.refl _ _) _) (block_lt_of_cell y0) y2) (kc (ba (Below.refl _ _) _) (block_lt_of_cell y0) y3) (by go_cell)).mono ?_
      rintro en W4 ⟨S4, rfl, c3, hb⟩
      replace hb := bt (ba (Below.refl _ W3) _) hb
      replace hX := bxa_below hX hb
      replace hT := bxa_below hT hb
      replace hV2 := bt hV2 hb
      replace c0 := kc hb (block_lt_of_cell c0) c0
      replace c1 := kc hb (block_lt_of_cell c1) c1
      replace c2 := kc hb (block_lt_of_cell c2) c2
      clear hb x0 x1 x2 x3 y0 y1 y2 y3
      obtain ⟨x0, x1, x2, x3⟩ := id hX
      obtain ⟨y0, y1, y2, y3⟩ := id hT
      go_wp2_with fail
      refine (NE.out _ _ _ (kc (ba (Below.refl _ _) _) (block_lt_of_cell y0) y0) (kc (ba (Below.refl _ _) _) (block_lt_of_cell y0) y1) (kc (ba (Below.refl _ _) _) (block_lt_of_cell y0) y2) (kc (ba (Below.refl _ _) _) (block_lt_of_cell y0) y3) (by go_cell)).mono ?_
      rintro en W5 ⟨S5, rfl, c4, hb⟩
      replace hb := bt (ba (Below.refl _ W4) _) hb
      replace hX := bxa_below hX hb
      replace hT := bxa_below hT hb
      replace hV2 := bt hV2 hb
      replace c0 := kc hb (block_lt_of_cell c0) c0
      replace c1 := kc hb (block_lt_of_cell c1) c1
      replace c2 := kc hb (block_lt_of_cell c2) c2
      replace c3 := kc hb (block_lt_of_cell c3) c3
      clear hb x0 x1 x2 x3 y0 y1 y2 y3
      obtain ⟨x0, x1, x2, x3⟩ := id hX
      go_upto_region 13 with (fail)
      clear g4 g5
      by_cases e1 : x.l = x.u <;> by_cases e2 : x.h = x.u
      · rw [if_pos e1] at hll
        rw [if_pos e2] at hhh
        have f1 : (x.l == x.u) = true := beq_iff_eq.2 e1
        have f2 : (x.h == x.u) = true := beq_iff_eq.2 e2
        clear e1 e2
        subst hll hhh
        go_quiet (fail)
        go_wp2_with fail
        exact ⟨hN.out _ (bd hV2 _), by simp [intOf]; omega⟩
      · rw [if_pos e1] at hll
        rw [if_neg e2] at hhh
        have f1 : (x.l == x.u) = true := beq_iff_eq.2 e1
        have f2 : (x.h == x.u) = false := beq_no e2
        clear e1
        subst hll hhh
        go_quiet (fail)
        go_wp2_with fail
        exact ⟨hN.out _ (bd hV2 _), by simp [intOf]; omega⟩
      · rw [if_neg e1] at hll
        rw [if_pos e2] at hhh
        have f1 : (x.l == x.u) = false := beq_no e1
        have f2 : (x.h == x.u) = true := beq_iff_eq.2 e2
        clear e2
        subst hll hhh
        go_quiet (fail)
        go_wp2_with fail
        exact ⟨hN.out _ (bd hV2 _), by simp [intOf]; omega⟩
      · rw [if_neg e1] at hll
        rw [if_neg e2] at hhh
        have f1 : (x.l == x.u) = false := beq_no e1
        have f2 : (x.h == x.u) = false := beq_no e2
        subst hll hhh
        go_quiet (fail)
        go_wp2_with fail
        exact ⟨hN.out _ (bd hV2 _), by simp [intOf]; omega⟩
    · obtain rfl : k = n := by omega
      have hBV := bt hB hV
      go_wp2
      go_ret
      exact ⟨rfl, hBV⟩
end Go.Proofs.Ytmlkdfieakihlaa.Ax
