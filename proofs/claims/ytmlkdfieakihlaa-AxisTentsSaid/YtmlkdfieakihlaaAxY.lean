/-
  Layer 5 (axis): AxisTents walked.
-/
import Derived.Test.YtmlkdfieakihlaaAxP
import Derived.Test.YtmlkdfieakihlaaAxV
import Derived.Test.YtmlkdfieakihlaaAxYm
namespace Go.Proofs.Ytmlkdfieakihlaa.Ax
open Go.RowKit
open Go.Proofs.Ytmlkdfieakihlaa.Ex (redN redD)
theorem la_less' {w : World} {a : Option Addr} {n m : Nat} {g : Nat → Int} (h : LA w a n g) (hm : m ≤ n) : LA w a m g := fun i hi => h i (by omega)
theorem mul2_in {a b A B : Int} (ha : 0 ≤ a ∧ a ≤ A) (hb : 0 ≤ b ∧ b ≤ B) : 0 ≤ a * b ∧ a * b ≤ A * B := ⟨Int.mul_nonneg ha.1 hb.1, Int.mul_le_mul ha.2 hb.2 hb.1 (by omega)⟩
set_option maxRecDepth 100000 in
set_option maxHeartbeats 16000000 in
theorem Tents_any (a : Option Addr) (L c : Nat) (l : Nat → Int) (d : Int) (hL : L ≤ c ∧ c ≤ 9223372036854775807) (hl : ∀ i, i < L → R64 (l i)) (hd : -32768 ≤ d ∧ d ≤ 32767) (w : World) (hA : LA w a L l) :
    Calls Try.prog 7 #[.slice a L c, .int .i16 d] w fun en w' => en = .returned (.bool true) ∧ Below w.heap.size w w' := by
  obtain ⟨hL1, hL2⟩ := hL
  have SN := Lib.hid sanity_any
  obtain ⟨L', eL⟩ : ∃ L' : Nat, min L 10 = L' := ⟨_, rfl⟩
  have fL : min (L : Int) 10 = (L' : Int) := by omega
  have gL : (L' : Int) ≤ (c : Int) := by omega
  have hv : -64 ≤ d.tmod 65 ∧ d.tmod 65 ≤ 64 := by
    have h1 : (d.tmod 65).natAbs < 65 := by rw [Int.natAbs_tmod]; exact Nat.mod_lt _ (by omega)
    omega
  have RG : Hid (∀ V, Below w.heap.size w V → _) := Lib.hid (fun V h => Region_any a L' c l 1 (by omega) (by omega) (fun i hi => hl i (by omega)) V (la_less' (la_below hA h) (by omega)))
  clear hA hl
  go_enter Try.func7, Try.ntmps7
  go_wp2_with fail
  refine (SN.out _).mono ?_
  rintro en V0 ⟨rfl, hB⟩
  go_wp2_with fail
  refine (RG.out _ hB).mono ?_
  rintro en V1 ⟨a', c', g, rfl, hc1, hc2, hT, hvt, hB1⟩
  have hvx := hvt 0 (by omega)
  replace hB := bt hB hB1
  obtain ⟨b, o, rfl, x0, x1, x2⟩ := id (hT 0 (by omega))
  have SC0 : Hid (∀ (V : World) (c0 : Nat) (u : Int), -64 ≤ u ∧ u ≤ 64 → Below V1.heap.size V1 V → V.cell? ⟨c0, 0, none⟩ = some (.int .i64 u) → Calls Try.prog 21 #[.slice (some ⟨b, o, none⟩) 1 c', .slice (some ⟨c0, 0, none⟩) 1 1] V fun e w' => e = .returned (.agg #[.int .i64 (redN (vlN (g 0) u) (vlD (g 0) u)), .int .i64 (redD (vlN (g 0) u) (vlD (g 0) u))]) ∧ Below V.heap.size V w') := Lib.hid (fun V c0 u hu hB hc => by
    have := Scalar_any (some ⟨b, o, none⟩) 1 c' g (some ⟨c0, 0, none⟩) 1 1 (fun _ => u) (by omega) V (ta_below hT hB) (la_one hc)
    rw [show scal g 1 (ps 1 fun _ => u) = (redN (vlN (g 0) u) (vlD (g 0) u), redD (vlN (g 0) u) (vlD (g 0) u)) from scal_one hvx hu] at this
    exact this)
  have hxr := vt_rg hvx
  clear RG hT hvt hB1 SN
  generalize g 0 = x at *
  have hv1 := vl_in (v := d.tmod 65) hxr
  obtain ⟨f1, f2, f3, f4, f5, f6, f7⟩ := red_facts hv1.1 hv1.2.1 hv1.2.2.1 hv1.2.2.2
  have SV := Lib.hid (fun V c0 => SC0.out V c0 (d.tmod 65) hv)
  have SP := Lib.hid (fun V c0 => SC0.out V c0 x.p (by unfold vtR at hxr; omega))
  rw [show vlN x x.p = 1 from if_pos (Or.inr rfl), show vlD x x.p = 1 from if_pos (Or.inr rfl), red_one1.1, red_one1.2] at SP
  have cases5 : (x.p = 0 ∨ (¬ x.p = 0 ∧ ¬ d.tmod 65 = x.p ∧ (d.tmod 65 ≤ x.l ∨ x.h ≤ d.tmod 65))) ∨ (¬ x.p = 0 ∧ d.tmod 65 = x.p) ∨ (¬ x.p = 0 ∧ ¬ d.tmod 65 = x.p ∧ x.l < d.tmod 65 ∧ d.tmod 65 < x.h) := by
    by_cases h1 : x.p = 0
    · exact .inl (.inl h1)
    · by_cases h2 : d.tmod 65 = x.p
      · exact .inr (.inl ⟨h1, h2⟩)
      · by_cases h3 : d.tmod 65 ≤ x.l ∨ x.h ≤ d.tmod 65
        · exact .inl (.inr ⟨h1, h2, h3⟩)
        · exact .inr (.inr ⟨h1, h2, by omega, by omega⟩)
  have kN0 : x.p = 0 → redN (vlN x (d.tmod 65)) (vlD x (d.tmod 65)) = redD (vlN x (d.tmod 65)) (vlD x (d.tmod 65)) := fun h => f6 (by rw [show vlN x (d.tmod 65) = 1 from if_pos (Or.inl h), show vlD x (d.tmod 65) = 1 from if_pos (Or.inl h)])
  have kN1 : ¬ x.p = 0 → ¬ d.tmod 65 = x.p → (d.tmod 65 ≤ x.l ∨ x.h ≤ d.tmod 65) → redN (vlN x (d.tmod 65)) (vlD x (d.tmod 65)) = 0 := fun h1 h2 h3 => f7 (by unfold vlN; rw [if_neg (by omega), if_pos h3])
  have hW : ¬ x.p = 0 → ¬ d.tmod 65 = x.p → x.l < d.tmod 65 → d.tmod 65 < x.h → ∃ N1 D1 N2 D2 : Int, (1 ≤ D1 ∧ D1 ≤ 128 ∧ 0 ≤ N1 ∧ N1 ≤ D1) ∧ (1 ≤ D2 ∧ D2 ≤ 128 ∧ 0 ≤ N2 ∧ N2 ≤ D2) ∧ 2 * redN (vlN x (d.tmod 65)) (vlD x (d.tmod 65)) * D1 * D2 = redD (vlN x (d.tmod 65)) (vlD x (d.tmod 65)) * (N1 * D2 + N2 * D1) ∧
      (∀ (V : World) (c0 : Nat), Below V1.heap.size V1 V → V.cell? ⟨c0, 0, none⟩ = some (.int .i64 (d.tmod 65 - 1)) → Calls Try.prog 21 #[.slice (some ⟨b, o, none⟩) 1 c', .slice (some ⟨c0, 0, none⟩) 1 1] V fun e w' => e = .returned (.agg #[.int .i64 N1, .int .i64 D1]) ∧ Below V.heap.size V w') ∧
      (∀ (V : World) (c0 : Nat), Below V1.heap.size V1 V → V.cell? ⟨c0, 0, none⟩ = some (.int .i64 (d.tmod 65 + 1)) → Calls Try.prog 21 #[.slice (some ⟨b, o, none⟩) 1 c', .slice (some ⟨c0, 0, none⟩) 1 1] V fun e w' => e = .returned (.agg #[.int .i64 N2, .int .i64 D2]) ∧ Below V.heap.size V w') := by
    intro h1 h2 h3 h4
    have hr := hxr
    unfold vtR at hr
    have va := vl_in (v := d.tmod 65 - 1) hxr
    have vb := vl_in (v := d.tmod 65 + 1) hxr
    obtain ⟨a1, a2, a3, a4, _⟩ := red_facts va.1 va.2.1 va.2.2.1 va.2.2.2
    obtain ⟨b1, b2, b3, b4, _⟩ := red_facts vb.1 vb.2.1 vb.2.2.1 vb.2.2.2
    refine ⟨_, _, _, _, ⟨a1, a4, a2, a3⟩, ⟨b1, b4, b2, b3⟩, ?_, fun V c0 => SC0.out V c0 (d.tmod 65 - 1) (by omega), fun V c0 => SC0.out V c0 (d.tmod 65 + 1) (by omega)⟩
    rcases Int.lt_or_le (d.tmod 65) x.p with h5 | h5
    · have e0 := vl_left hxr h1 (v := d.tmod 65) (by omega) (by omega)
      have e1 := vl_left hxr h1 (v := d.tmod 65 - 1) (by omega) (by omega)
      have e2 := vl_left hxr h1 (v := d.tmod 65 + 1) (by omega) (by omega)
      rw [show d.tmod 65 - 1 - x.l = (d.tmod 65 - x.l) - 1 by omega] at e1
      rw [show d.tmod 65 + 1 - x.l = (d.tmod 65 - x.l) + 1 by omega] at e2
      exact linear (by omega) e0 e1 e2
    · have e0 := vl_right hxr h1 (v := d.tmod 65) (by omega) (by omega)
      have e1 := vl_right hxr h1 (v := d.tmod 65 - 1) (by omega) (by omega)
      have e2 := vl_right hxr h1 (v := d.tmod 65 + 1) (by omega) (by omega)
      rw [show x.h - (d.tmod 65 - 1) = (x.h - d.tmod 65) - -1 by omega] at e1
      rw [show x.h - (d.tmod 65 + 1) = (x.h - d.tmod 65) + -1 by omega] at e2
      exact linear (by omega) e0 e1 e2
  clear f5 f6 f7 hv1 SC0
  generalize redN (vlN x (d.tmod 65)) (vlD x (d.tmod 65)) = N at *
  generalize redD (vlN x (d.tmod 65)) (vlD x (d.tmod 65)) = D at *
  generalize hvd : d.tmod 65 = v at *
  have g1 : decide (D < 1) = false := decide_eq_false (by omega)
  have g2 : decide (N < 0) = false := decide_eq_false (by omega)
  have g3 : decide (D < N) = false := decide_eq_false (by omega)
  simp only [Nat.zero_mul, Nat.add_zero] at x0 x1 x2
  go_wp2_with fail
  have hT := bxt_new V1 x 52
  have hV := ba (Below.refl _ V1) (.cells #[.int .i64 x.l, .int .i64 x.p, .int .i64 x.h] 52)
  refine (SV.out _ _ (ba hV _) (by go_cell)).mono ?_
  rintro en V2 ⟨rfl, hb⟩
  replace hT := bxt_below (bxt_below hT (ba (Below.refl _ _) _)) hb
  replace hV := bt (ba hV _) hb
  obtain ⟨T, hTe⟩ : ∃ T, T = V1.heap.size := ⟨_, rfl⟩
  rw [← hTe] at hT ⊢
  clear hb hTe x0 x1 x2
  have hR := rb_new V2 (N, D) 44
  have hb := ba (Below.refl _ V2) (.cells #[.int .i64 N, .int .i64 D] 44)
  replace hT := bxt_below hT hb
  replace hV := bt hV hb
  obtain ⟨x0, x1, x2⟩ := id hT
  go_wp2_with fail
  refine (SP.out _ _ (ba hV _) (by go_cell)).mono ?_
  rintro en V3 ⟨rfl, hb3⟩
  replace hT := bxt_below (bxt_below hT (ba (Below.refl _ _) _)) hb3
  replace hR := rb_below (rb_below hR (ba (Below.refl _ _) _)) hb3
  replace hV := bt (ba hV _) hb3
  obtain ⟨R, hRe⟩ : ∃ R, R = V2.heap.size := ⟨_, rfl⟩
  rw [← hRe] at hR ⊢
  clear hb hb3 hRe x0 x1 x2
  obtain ⟨x0, x1, x2⟩ := id hT
  obtain ⟨r0, r1, _, _⟩ := id hR
  simp only at r0 r1
  replace hB := bt hB hV
  rcases cases5 with (h | ⟨h1, h2, h3⟩) | ⟨h1, h2⟩ | ⟨h1, h2, h3, h4⟩
  · have e1 : (x.p == 0) = true := beq_iff_eq.2 h
    obtain rfl := kN0 h
    clear h hW kN0 kN1
    go_wp2
    go_ret
    exact ⟨by simp, hB⟩
  · have e1 : (x.p == 0) = false := beq_no h1
    have e2 : (v == x.p) = false := beq_no h2
    obtain rfl := kN1 h1 h2 h3
    clear hW kN0 kN1
    by_cases h4 : v ≤ x.l
    · have e3 : decide (v ≤ x.l) = true := decide_eq_true h4
      clear h1 h3 h4
      go_wp2
      go_ret
      exact ⟨by simp, hB⟩
    · have e3 : decide (v ≤ x.l) = false := decide_eq_false h4
      have e4 : decide (x.h ≤ v) = true := decide_eq_true (by omega)
      clear h1 h3 h4
      go_wp2
      go_ret
      exact ⟨by simp, hB⟩
  · have e1 : (x.p == 0) = false := beq_no h1
    clear hW kN0 kN1
    subst h2
    by_cases h3 : x.p ≤ x.l
    · have e3 : decide (x.p ≤ x.l) = true := decide_eq_true h3
      clear h1 h3
      go_wp2
      go_ret
      exact ⟨by simp, hB⟩
    · have e3 : decide (x.p ≤ x.l) = false := decide_eq_false h3
      by_cases h4 : x.h ≤ x.p
      · have e4 : decide (x.h ≤ x.p) = true := decide_eq_true h4
        clear h1 h3 h4
        go_wp2
        go_ret
        exact ⟨by simp, hB⟩
      · have e4 : decide (x.h ≤ x.p) = false := decide_eq_false h4
        clear h1 h3 h4
        go_wp2
        go_ret
        exact ⟨by simp, hB⟩
  · have e1 : (x.p == 0) = false := beq_no h1
    have e2 : (v == x.p) = false := beq_no h2
    have e3 : decide (v ≤ x.l) = false := decide_eq_false (by omega)
    have e4 : decide (x.h ≤ v) = false := decide_eq_false (by omega)
    have e5 : decide (v - 1 < x.l) = false := decide_eq_false (by omega)
    have e6 : decide (x.h < v + 1) = false := decide_eq_false (by omega)
    have w1 : wrap64 (v - 1) = v - 1 := w64 (by omega)
    have w2 : wrap64 (v + 1) = v + 1 := w64 (by omega)
    obtain ⟨N1, D1, N2, D2, ⟨a1, a2, a3, a4⟩, ⟨b1, b2, b3, b4⟩, hlin, SM, SQ⟩ := hW h1 h2 h3 h4
    have SM' := Lib.hid SM
    have SQ' := Lib.hid SQ
    have m1 := mul2_in (a := 2 * N) (b := D1) (A := 256) (B := 128) (by omega) (by omega)
    have m2 := mul2_in (a := 2 * N * D1) (b := D2) (A := 32768) (B := 128) (by omega) (by omega)
    have m3 := mul2_in (a := N1) (b := D2) (A := 128) (B := 128) (by omega) (by omega)
    have m4 := mul2_in (a := N2) (b := D1) (A := 128) (B := 128) (by omega) (by omega)
    have m5 := mul2_in (a := D) (b := N1 * D2 + N2 * D1) (A := 128) (B := 32768) (by omega) (by omega)
    have u1 : wrap64 (2 * N) = 2 * N := w64 (by omega)
    have u2 : wrap64 (2 * N * D1) = 2 * N * D1 := w64 (by omega)
    have u3 : wrap64 (2 * N * D1 * D2) = 2 * N * D1 * D2 := w64 (by omega)
    have u4 : wrap64 (N1 * D2) = N1 * D2 := w64 (by omega)
    have u5 : wrap64 (N2 * D1) = N2 * D1 := w64 (by omega)
    have u6 : wrap64 (N1 * D2 + N2 * D1) = N1 * D2 + N2 * D1 := w64 (by omega)
    have u7 : wrap64 (D * (N1 * D2 + N2 * D1)) = D * (N1 * D2 + N2 * D1) := w64 (by omega)
    have u8 : (2 * N * D1 * D2 == D * (N1 * D2 + N2 * D1)) = true := beq_iff_eq.2 hlin
    have u9 : decide (D1 < 1) = false := decide_eq_false (by omega)
    have u10 : decide (D2 < 1) = false := decide_eq_false (by omega)
    clear hW kN0 kN1 SM SQ m1 m2 m3 m4 m5 hlin h1 h3 h4
    go_wp2_with fail
    refine (SM'.out _ _ (ba hV _) (by go_cell)).mono ?_
    rintro en V4 ⟨rfl, hb⟩
    replace hR := rb_below (rb_below hR (ba (Below.refl _ _) _)) hb
    replace hb := bt (ba (Below.refl _ _) _) hb
    replace hV := bt hV hb
    replace hB := bt hB hb
    clear x0 x1 x2 r0 r1 hb
    obtain ⟨r0, r1, _, _⟩ := id hR
    simp only at r0 r1
    go_wp2_with fail
    refine (SQ'.out _ _ (ba hV _) (by go_cell)).mono ?_
    rintro en V5 ⟨rfl, hb⟩
    replace hR := rb_below (rb_below hR (ba (Below.refl _ _) _)) hb
    replace hb := bt (ba (Below.refl _ _) _) hb
    replace hB := bt hB hb
    clear r0 r1 hb
    have hRl := rb_lt hR
    have n1 : ¬ R = V5.heap.size := by omega
    have n2 : ¬ R = V5.heap.size + 1 := by omega
    obtain ⟨r0, r1, _, _⟩ := id hR
    simp only at r0 r1
    go_wp2
    go_ret
    exact ⟨by simp [u8], ba (ba hB _) _⟩
end Go.Proofs.Ytmlkdfieakihlaa.Ax
