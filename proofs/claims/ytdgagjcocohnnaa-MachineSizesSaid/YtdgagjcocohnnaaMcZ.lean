/-
  Layer 9 (machine): MachineRounds, walked.
-/
import Derived.Test.YtdgagjcocohnnaaMcX
import Derived.Test.YtdgagjcocohnnaaMcY
import Derived.Test.YtdgagjcocohnnaaOtW
import Derived.Test.YtdgagjcocohnnaaOtMd
namespace Go.Proofs.Ytdgagjcocohnnaa.Mc
open Go.RowKit
open Go.Proofs.Ytdgagjcocohnnaa.Ot (Pt PtAt PA PO OO OT LX pre pre_mono shP scP p0 ot_below pa_below ot_congr oo_ot mo_oo okC Made_any rScale_any rCount_any rSame_any EqO EqC)
theorem sc_at {q : Int} (hq : -30 ≤ q ∧ q ≤ 30) {p : Pt} (hx : 0 ≤ p.x ∧ p.x ≤ 48) (hy : 0 ≤ p.y ∧ p.y ≤ 48) : (-1440 ≤ (scP q p).x ∧ (scP q p).x ≤ 1440) ∧ (-1440 ≤ (scP q p).y ∧ (scP q p).y ≤ 1440) := by
  have key : ∀ z : Int, 0 ≤ z → z ≤ 48 → -1440 ≤ q * z ∧ q * z ≤ 1440 := fun z h1 h2 => by
    have a1 : q * z ≤ 30 * z := Int.mul_le_mul_of_nonneg_right hq.2 h1
    have a2 : -30 * z ≤ q * z := Int.mul_le_mul_of_nonneg_right hq.1 h1
    omega
  have k1 := key p.x hx.1 hx.2
  have k2 := key p.y hy.1 hy.2
  unfold scP
  simp only
  rw [IntWalk.wrap64_in _ ⟨by omega, by omega⟩, IntWalk.wrap64_in _ ⟨by omega, by omega⟩]
  exact ⟨k1, k2⟩
theorem fac_in {f : Int} (h : -128 ≤ f ∧ f ≤ 127) : -30 ≤ f.tmod 31 ∧ f.tmod 31 ≤ 30 := by
  rcases Int.lt_or_le f 0 with h0 | h0
  · have e2 : f.tmod 31 = -((-f) % 31) := by
      rw [← Int.tmod_eq_emod_of_nonneg (show 0 ≤ -f by omega), Int.neg_tmod, Int.neg_neg]
    omega
  · have e2 : f.tmod 31 = f % 31 := Int.tmod_eq_emod_of_nonneg h0
    omega
theorem pre_two {ns : Nat → Nat} {N : Nat} (hN : N ≤ 2) (h : ∀ j, j < N → ns j ≤ 6) : pre ns N ≤ 12 := by
  obtain rfl | rfl | rfl : N = 0 ∨ N = 1 ∨ N = 2 := by omega
  · exact Nat.zero_le _
  · have := h 0 (by omega)
    show pre ns 0 + ns 0 ≤ 12
    show 0 + ns 0 ≤ 12
    omega
  · have := h 0 (by omega)
    have := h 1 (by omega)
    show 0 + ns 0 + ns 1 ≤ 12
    omega
theorem rd_bd {ns : Nat → Nat} {n N : Nat} {g : Nat → Nat → Pt} (hb : ∀ k, k < N → ∀ i, i < ns k → (-1440 ≤ (g k i).x ∧ (g k i).x ≤ 1440) ∧ (-1440 ≤ (g k i).y ∧ (g k i).y ≤ 1440)) : ∀ k, k < N → ∀ i, i < ns k → (-2100 ≤ (rdG ns n g k i).x ∧ (rdG ns n g k i).x ≤ 2100) ∧ (-2100 ≤ (rdG ns n g k i).y ∧ (rdG ns n g k i).y ≤ 2100) := fun k hk i hi => by
  have h := hb k hk i hi
  unfold rdG
  split
  · have := rnd_in (x := (g k i).x) (by omega)
    simp only
    omega
  · omega
/-- What the law compares at a point. -/
theorem rd_pt (ns : Nat → Nat) (n : Nat) (g : Nat → Nat → Pt) (k i : Nat) (h : -1440 ≤ (g k i).x ∧ (g k i).x ≤ 1440) : (rdG ns n g k i).y = (g k i).y ∧ -32 ≤ (rdG ns n g k i).x - (g k i).x ∧ (rdG ns n g k i).x - (g k i).x ≤ 32 ∧ ((rdG ns n g k i).x - (g k i).x = 0 ∨ (rdG ns n g k i).x.tmod 64 = 0) := by
  unfold rdG
  split
  · have := rnd_in (x := (g k i).x) (by omega)
    exact ⟨rfl, by simp only; omega, by simp only; omega, .inr (rnd_64 _)⟩
  · exact ⟨rfl, by omega, by omega, .inl (by omega)⟩
set_option maxRecDepth 100000 in
set_option maxHeartbeats 16000000 in
theorem Rounds_any (la : Option Addr) (lN lc : Nat) (L : Nat → Nat) (l : Nat → Nat → Int) (f u : Int) (hf : -128 ≤ f ∧ f ≤ 127) (hu : 0 ≤ u ∧ u ≤ 255) (w : World) (hL : LX w la lN L l) :
    Calls Try.prog 7 #[.slice la lN lc, .int .i8 f, .int .u8 u] w fun e w' => e = .returned (.bool true) ∧ Below w.heap.size w w' := by
  have HL := Lib.hid hL
  have HF := Lib.hid (fac_in hf)
  have HU := Lib.hid hu
  have f1 := hf.1
  have f2 := hf.2
  have u1 := hu.1
  have u2 := hu.2
  clear hL hf hu
  go_enter Try.func7, Try.ntmps7
  go_wp2_with fail
  refine (sanity_any _).mono ?_
  rintro e V1 ⟨rfl, hB⟩
  go_wp2_with fail
  refine (Made_any la lN lc L l V1 (Go.Proofs.Ytdgagjcocohnnaa.Ot.lx_below HL.out hB)).mono ?_
  rintro e V2 ⟨v, xs, ns, Bm, g, rfl, hM, hck⟩
  replace hB := bt hB hM.be
  obtain ⟨a2, c2, S2, rfl, hc1, hc2, ha2, hO2, _⟩ := mo_oo hM
  obtain ⟨N, hN⟩ : ∃ N, min lN 2 = N := ⟨_, rfl⟩
  have hN2 : N ≤ 2 := by omega
  rw [hN] at hM hck hO2 ha2 hc1 ⊢
  have hns : ∀ j, j < N → ns j ≤ 6 := fun j hj => (hck j hj).2.1
  have hA2 := Go.Proofs.Ytdgagjcocohnnaa.Ot.oo_ot2 hO2 ha2
  have hpr := pre_two hN2 hns
  have SC := Lib.hid (rScale_any a2 N c2 ns g (f.tmod 31) (by omega) (fun k hk => by have := hns k hk; omega) V2 hA2)
  have hq := HF.out
  obtain ⟨q, hqq⟩ : ∃ q, f.tmod 31 = q := ⟨_, rfl⟩
  rw [hqq] at SC hq
  have hb1 := Lib.hid (show ∀ k, k < N → ∀ i, i < ns k → (-1440 ≤ (scP q (g k i)).x ∧ (scP q (g k i)).x ≤ 1440) ∧ (-1440 ≤ (scP q (g k i)).y ∧ (scP q (g k i)).y ≤ 1440) from fun k hk i hi => by
    have := (hck k hk).2.2.2 i hi
    exact sc_at hq ⟨this.1, this.2.1⟩ ⟨this.2.2.1, this.2.2.2⟩)
  have Hns := Lib.hid hns
  clear hM hO2 ha2 hc1 hc2 hA2 hck HL HF hns hN
  go_wp2_with fail
  refine SC.out.mono ?_
  rintro e V3 ⟨a3, c3, S3, B3, rfl, hc3, hc4, ha3, hO3, h3⟩
  replace hB := bt hB h3
  have hA3 := Go.Proofs.Ytdgagjcocohnnaa.Ot.oo_ot2 hO3 ha3
  obtain ⟨g1, hg1⟩ : ∃ g1 : Nat → Nat → Pt, g1 = fun k i => scP q (g k i) := ⟨_, rfl⟩
  have Hb : Hid (∀ k, k < N → ∀ i, i < ns k → (-1440 ≤ (g1 k i).x ∧ (g1 k i).x ≤ 1440) ∧ (-1440 ≤ (g1 k i).y ∧ (g1 k i).y ≤ 1440)) := Lib.hid (by rw [hg1]; exact hb1.out)
  rw [← hg1] at hA3
  clear hO3 ha3 h3 SC hb1 hg1 hqq hq
  have CO := Lib.hid (rCount_any a3 N c3 ns g1 (by omega) (by omega) V3 hA3)
  go_wp2_with fail
  refine CO.out.mono ?_
  rintro e _ ⟨rfl, rfl⟩
  clear CO
  obtain ⟨C, hC⟩ : ∃ C, pre ns N = C := ⟨_, rfl⟩
  rw [hC] at hpr ⊢
  by_cases hC0 : C = 0
  · subst hC0
    go_wp2_with fail
    go_ret
    exact ⟨rfl, hB⟩
  · have cz : ((C : Int) == 0) = false := beq_eq_false_iff_ne.2 (by omega)
    have cz2 : ¬ (C : Int) = 0 := by omega
    obtain ⟨n, hn⟩ : ∃ n : Nat, u.tmod (C : Int) = (n : Int) := ⟨(u.tmod (C : Int)).toNat, by
      have := Int.tmod_nonneg (C : Int) u1
      omega⟩
    have hnC : n < C := by
      have := Int.tmod_lt_of_pos u (show (0 : Int) < (C : Int) by omega)
      omega
    have HNN := Lib.hid hn
    have hC1 : (C : Int) ≤ 12 := by omega
    have hC2 : (1 : Int) ≤ (C : Int) := by omega
    go_upto_region 8 with (fail)
    have hP : PrA (V3.alloc (.cells #[.int .i64 10, .int .i64 (n : Int), .int .i64 0, .int .i64 8, .int .i64 0, .int .i64 0, .int .i64 12, .int .i64 (n : Int), .int .i64 0] 45)).heap.size (V3.alloc (.cells #[.int .i64 10, .int .i64 (n : Int), .int .i64 0, .int .i64 8, .int .i64 0, .int .i64 0, .int .i64 12, .int .i64 (n : Int), .int .i64 0] 45)) (some ⟨V3.heap.size, 0, none⟩) (P3 n) := pra_lit V3 (P3 n) 45
    have hA4 := ot_below hA3 (show Below V3.heap.size V3 (V3.alloc (.cells #[.int .i64 10, .int .i64 (n : Int), .int .i64 0, .int .i64 8, .int .i64 0, .int .i64 0, .int .i64 12, .int .i64 (n : Int), .int .i64 0] 45)) from ba (Below.refl _ _) _)
    have hB4 := bt hB (show Below V3.heap.size V3 (V3.alloc (.cells #[.int .i64 10, .int .i64 (n : Int), .int .i64 0, .int .i64 8, .int .i64 0, .int .i64 0, .int .i64 12, .int .i64 (n : Int), .int .i64 0] 45)) from ba (Below.refl _ _) _)
    generalize (V3.alloc (.cells #[.int .i64 10, .int .i64 (n : Int), .int .i64 0, .int .i64 8, .int .i64 0, .int .i64 0, .int .i64 12, .int .i64 (n : Int), .int .i64 0] 45)) = V4 at *
    generalize V3.heap.size = bp at *
    have hp1 : pre ns N ≤ 1000000 := by omega
    have hnp : n < pre ns N := by omega
    have R1 := Lib.hid (rounds_run a3 N c3 ns g1 n (by omega) hp1 hnp (fun k hk i hi => by have := Hb.out k hk i hi; omega) (some ⟨bp, 0, none⟩) V4 hA4 hP)
    clear hB hA3 cz cz2 HNN hn
    go_wp2_with fail
    refine R1.out.mono ?_
    rintro e V5 ⟨Sa, rfl, hAa, h5⟩
    replace hB4 := bt hB4 h5
    replace hA4 := ot_below hA4 h5
    replace hP := pra_up hP h5
    have R2 := rounds_run (some ⟨Sa, 0, none⟩) N N ns (rdG ns n g1) n (by omega) hp1 hnp (rd_bd Hb.out) (some ⟨bp, 0, none⟩) V5 hAa hP
    rw [rd_two] at R2
    have R2' := Lib.hid R2
    clear R1 R2 h5 hP
    go_wp2_with fail
    refine R2'.out.mono ?_
    rintro e V6 ⟨Sb, rfl, hAb, h6⟩
    replace hB4 := bt hB4 h6
    replace hA4 := ot_below hA4 h6
    replace hAa := ot_below hAa h6
    have HD := Lib.hid (fun k (hk : k < N) i (hi : i < ns k) => rd_pt ns n g1 k i (Hb.out k hk i hi).1)
    have ST : Hid (∀ W b, Below V6.heap.size V6 W → W.cell? ⟨b, 0, none⟩ = some (.int .i64 (n : Int)) → Calls Try.prog 19 #[.slice a3 N c3, .slice (some ⟨Sa, 0, none⟩) N N, .slice (some ⟨b, 0, none⟩) 1 1] W fun e w' => e = .returned (.bool true) ∧ Below W.heap.size W w') := Lib.hid (fun W b h hc => still_any a3 (some ⟨Sa, 0, none⟩) N c3 N ns g1 (rdG ns n g1) n b (by omega) hp1 (fun k hk i hi => by
      unfold rdG
      split
      · rename_i e9
        exact ⟨rfl, fun h9 => absurd e9.symm h9⟩
      · exact ⟨rfl, fun _ => rfl⟩) W (ot_below hA4 h) (ot_below hAa h) hc)
    have SA : Hid (∀ W, Below V6.heap.size V6 W → Calls Try.prog 14 #[.slice (some ⟨Sa, 0, none⟩) N N, .slice (some ⟨Sb, 0, none⟩) N N] W fun e w' => e = .returned (.bool true) ∧ Below W.heap.size W w') := Lib.hid (fun W h => rSame_any (some ⟨Sa, 0, none⟩) (some ⟨Sb, 0, none⟩) N N N N ns ns (rdG ns n g1) (rdG ns n g1) true (Lib.hid ⟨fun _ => ⟨rfl, fun _ _ => ⟨rfl, fun _ _ => rfl⟩⟩, fun _ => rfl⟩) (by omega) (by omega) (fun k hk => by have := Hns.out k hk; omega) (fun k hk => by have := Hns.out k hk; omega) W (ot_below hAa h) (ot_below hAb h))
    clear R2' h6 hAb Hb
    have HA4 := Lib.hid hA4
    have HAa := Lib.hid hAa
    clear hA4 hAa
    go_wp2_with fail
    refine (ST.out _ _ (ba (Below.refl _ _) _) (by go_cell)).mono ?_
    rintro e V7 ⟨rfl, h7⟩
    replace h7 := bt (ba (Below.refl _ _) _) h7
    go_wp2_with fail
    refine (SA.out _ h7).mono ?_
    rintro e V8 ⟨rfl, h8⟩
    replace h8 := bt h7 h8
    replace hB4 := bt hB4 h8
    have hO := Lib.hid (ot_below HA4.out h8)
    have hT := Lib.hid (ot_below HAa.out h8)
    clear ST SA h7 h8 HA4 HAa
    obtain ⟨g2, hg2⟩ : ∃ g2, rdG ns n g1 = g2 := ⟨_, rfl⟩
    rw [hg2] at HD hT
    clear hg2 hpr hC hC0 hC1 hC2 hnC hp1 hnp f1 f2 u1 u2 HU
    go_wp2_with fail
    go_loopw [18] (fun s18 V => ∃ k : Nat, s18 = .int .i64 k ∧ k ≤ N ∧ Below V8.heap.size V8 V) (fun s18 _ => N - (intOf s18).toNat)
    case atStart => exact ⟨0, rfl, Nat.zero_le _, Below.refl _ _⟩
    case round =>
      obtain ⟨k, rfl, hk, hV⟩ := hrel
      rename World => V
      rcases Nat.lt_or_ge k N with hkn | hkn
      · obtain ⟨b1, o1, aa, ca, rfl, x0, x1, x2, x3⟩ := ot_below hO.out hV k hkn
        obtain ⟨b2, o2, ab, cb, e2, y0, y1, y2, y3⟩ := ot_below hT.out hV k hkn
        injection e2 with e2
        injection e2 with e2 e3
        subst e2
        subst e3
        have k2 : (0 : Int) ≤ (k : Int) := by omega
        have k3 : (k : Int) < (N : Int) := by omega
        have hmk := Hns.out k hkn
        have HDk := Lib.hid (HD.out k hkn)
        have HV := Lib.hid hV
        obtain ⟨m, hm⟩ : ∃ m, ns k = m := ⟨_, rfl⟩
        rw [hm] at x0 x1 x3 y0 y1 y3 hmk HDk
        have X3 := Lib.hid x3
        have Y3 := Lib.hid y3
        have X0 := Lib.hid x0
        rw [Nat.zero_add] at y0
        have Y0 := Lib.hid y0
        clear x3 y3 hV hm
        go_wp2_with fail
        go_loopw [19] (fun s19 W => ∃ i : Nat, s19 = .int .i64 i ∧ i ≤ m ∧ Below V.heap.size V W) (fun s19 _ => m - (intOf s19).toNat)
        case atStart => exact ⟨0, rfl, Nat.zero_le _, Below.refl _ _⟩
        case round =>
          clear x0 y0
          obtain ⟨i, rfl, hi, hW⟩ := hrel
          rename World => W
          have x0 := kc hW X0.out
          have y0 := kc hW Y0.out
          have i2 : (0 : Int) ≤ (i : Int) := by omega
          rcases Nat.lt_or_ge i m with him | him
          · obtain ⟨b3, o3, rfl, z0, z1, z2⟩ := pa_below X3.out hW i him
            obtain ⟨b4, o4, rfl, t0, t1, t2⟩ := pa_below Y3.out hW i him
            have i3 : (i : Int) < (m : Int) := by omega
            have hd := HDk.out i him
            have R : Hid (∀ W', Below W.heap.size W W' → ∃ j : Nat, (Value.int .i64 ((i : Int) + 1)) = .int .i64 j ∧ j ≤ m ∧ Below V.heap.size V W') := Lib.hid (fun W' h => ⟨i + 1, rfl, by omega, bt hW h⟩)
            obtain ⟨d1, d2, d3, d4⟩ := hd
            rw [d1] at t1
            clear d1 hi hW
            generalize (g1 k i).x = ox at *
            generalize (g1 k i).y = oy at *
            generalize (g2 k i).x = ax at *
            generalize (g1 k i).o = oo at *
            generalize (g2 k i).o = ao at *
            obtain ⟨D, hD⟩ : ∃ D, ax - ox = D := ⟨_, rfl⟩
            rw [hD] at d2 d3 d4
            have wD : wrap64 D = D := IntWalk.wrap64_in _ ⟨by omega, by omega⟩
            have x0' := Lib.hid x0
            have y0' := Lib.hid y0
            have z0' := Lib.hid z0
            have z1' := Lib.hid z1
            have t0' := Lib.hid t0
            have t1' := Lib.hid t1
            go_upto_region 18 with (fail)
            go_quiet (fail)
            go_upto_region 19 with (fail)
            by_cases hD0 : D = 0
            · subst hD0
              go_quiet (fail)
              go_wp2_with fail
              exact ⟨R.out _ (bd (Below.refl _ _) _), by simp [intOf]; omega⟩
            · have d5 : ax.tmod 64 = 0 := by
                rcases d4 with h | h
                · exact absurd h hD0
                · exact h
              have dz : (D == 0) = false := beq_eq_false_iff_ne.2 hD0
              clear d4
              go_quiet (fail)
              go_wp2_with fail
              exact ⟨R.out _ (bd (Below.refl _ _) _), by simp [intOf]; omega⟩
          · obtain rfl : i = m := by omega
            have R : Hid (∃ j : Nat, (Value.int .i64 ((k : Int) + 1)) = .int .i64 j ∧ j ≤ N ∧ Below V8.heap.size V8 W) := Lib.hid ⟨k + 1, rfl, by omega, bt HV.out hW⟩
            clear hi
            go_wp2_with fail
            exact ⟨R.out, by simp [intOf]; omega⟩
      · obtain rfl : k = N := by omega
        have R := bt hB4 hV
        go_wp2_with fail
        go_ret
        exact ⟨rfl, R⟩
end Go.Proofs.Ytdgagjcocohnnaa.Mc
