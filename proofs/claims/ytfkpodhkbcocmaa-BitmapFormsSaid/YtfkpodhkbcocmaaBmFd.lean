/-
  Layer 4 (bitmap): BitmapForms walked.
-/
import Derived.Test.YtfkpodhkbcocmaaBmFc
namespace Go.Proofs.Ytfkpodhkbcocmaa.Bm
open Go.RowKit
set_option maxRecDepth 100000 in
set_option maxHeartbeats 16000000 in
theorem Forms_any (aA : Option Addr) (nA cA : Nat) (la : Nat → Int) (aB : Option Addr) (nB cB : Nat) (lb : Nat → Int) (q l0 l1 l2 l3 : Int) (hA : nA ≤ 9223372036854775807) (hB : nB ≤ 9223372036854775807) (hq : R64 q) (t0 : R64 l0) (t1 : R64 l1) (t2 : R64 l2) (t3 : R64 l3)
    (rW rH : Int) (ra : Option Addr) (rn rc : Nat) (rf : Nat → Bool) (hrn : rn ≤ rc) (hrc : rc ≤ 9223372036854775807) (s : ByteArray) (hs : s.size ≤ 9223372036854775807) (w : World)
    (hDA : LA w aA nA la) (hla : ∀ i, i < nA → R64 (la i)) (hDB : LA w aB nB lb) (hlb : ∀ i, i < nB → R64 (lb i)) (hDR : DA w ra rn rf) :
    Calls Try.prog 3 #[caseV aA nA cA aB nB cB q l0 l1 l2 l3, bv rW rH ra rn rc, .string s] w fun e w' => e = .returned (.bool true) ∧ Below w.heap.size w w' := by
  have BM := Lib.hid (fun w h1 h2 => bitmaps_any aA nA cA la aB nB cB lb q l0 l1 l2 l3 hA hB hq w h1 hla h2 hlb)
  have SM := Lib.hid (small_any aA nA cA aB nB cB q l0 l1 l2 l3 t0 t1 t2 t3)
  have HA := Lib.hid hDA
  have HB := Lib.hid hDB
  have HR := Lib.hid hDR
  have SA := Lib.hid sanity_any
  have R4 := Lib.hid (And.intro t0 t1)
  have HQ := Lib.hid hq
  have I1 := Lib.hid (md_in nA la)
  have I2 := Lib.hid (md_in nB lb)
  clear hDA hDB hla hlb hDR t0 t1 t2 t3 hA hB hq
  unfold caseV bv at *
  have n1 : (rn : Int) ≤ (rc : Int) := by omega
  have n2 : (rc : Int) ≤ 9223372036854775807 := by omega
  have n3 : (s.size : Int) ≤ 9223372036854775807 := by omega
  have n4 : (0 : Int) ≤ min (s.size : Int) 300 := by omega
  have n5 : min (s.size : Int) 300 ≤ (s.size : Int) := by omega
  obtain ⟨u, hu⟩ : ∃ u, s.extract 0 (min (s.size : Int) 300).toNat = u := ⟨_, rfl⟩
  have hu3 : u.size ≤ 300 := by rw [← hu, ByteArray.size_extract]; omega
  have HU := Lib.hid hu3
  clear hu3
  go_enter Try.func3, Try.ntmps3
  go_wp2_with fail
  refine (SA.out _).mono ?_
  rintro e V1 ⟨rfl, hB1⟩
  have h0 : Below w.heap.size w V1 := bt (ba (ba (Below.refl _ _) _) _) hB1
  have hC : K7 V1 w.heap.size aA nA cA aB nB cB q l0 l1 l2 l3 := ⟨kc hB1 (by simp; omega) (by go_cell), kc hB1 (by simp; omega) (by go_cell), kc hB1 (by simp; omega) (by go_cell), kc hB1 (by simp; omega) (by go_cell), kc hB1 (by simp; omega) (by go_cell), kc hB1 (by simp; omega) (by go_cell), kc hB1 (by simp; omega) (by go_cell)⟩
  have hX : BoxAt V1 (w.heap.size + 1) rW rH ra rn rc := ⟨kc hB1 (by simp) (by go_cell), kc hB1 (by simp) (by go_cell), kc hB1 (by simp) (by go_cell)⟩
  have hXf : V1.frozen? ⟨w.heap.size + 1, 2, none⟩ = false := kf hB1 (by simp) (by go_cell)
  clear hB1
  obtain ⟨x0, x1, x2⟩ := hX
  go_upto_region 3 with (fail)
  generalize hmm : (min (rn : Int) 400).toNat = mm at *
  have hm4 : mm ≤ rn ∧ mm ≤ 400 := by omega
  have hC2 : K7 (V1.setCell ⟨w.heap.size + 1, 2, none⟩ (.slice ra mm rc)) w.heap.size aA nA cA aB nB cB q l0 l1 l2 l3 := by
    obtain ⟨c0, c1, c2, c3, c4, c5, c6⟩ := hC
    exact ⟨by go_cell, by go_cell, by go_cell, by go_cell, by go_cell, by go_cell, by go_cell⟩
  have hX2 : BoxAt (V1.setCell ⟨w.heap.size + 1, 2, none⟩ (.slice ra mm rc)) (w.heap.size + 1) rW rH ra mm rc := ⟨by go_cell, by go_cell, by go_cell⟩
  replace h0 : Below w.heap.size w (V1.setCell ⟨w.heap.size + 1, 2, none⟩ (.slice ra mm rc)) := bs h0 (by simp only; omega) _
  have GR := Lib.hid (show mm ≤ rc ∧ mm ≤ 1000 by omega)
  clear hC hXf x0 x1 x2 hmm n1 n2 hrc hrn
  generalize (V1.setCell ⟨w.heap.size + 1, 2, none⟩ (.slice ra mm rc)) = V2 at *
  go_upto_region 4 with (fail)
  try rw [hu]
  clear hu n3 n4 n5 hs
  obtain ⟨c0, c1, c2, c3, c4, c5, c6⟩ := id hC2
  go_wp2_with fail
  clear c0 c1 c2 c3 c4 c5 c6
  refine (BM.out _ (la_below HA.out h0) (la_below HB.out h0)).mono ?_
  rintro e V3 ⟨ba', bb', X1, X2, g1, k1, c1', f1, rfl, hoa, hob, hDO, hRW, hRH, hm1, hmc, hB3⟩
  have GO := Lib.hid (And.intro hmc hm1)
  clear hRW hRH hm1 hmc
  replace hC2 := k7_below hC2 hB3
  replace hX2 := boxat_below hX2 hB3
  replace h0 := bt h0 hB3
  clear hB3 BM HA HB
  unfold bv
  have hDA := ob_da hoa
  have hDB := ob_da hob
  have GA := Lib.hid (show mdN nA la ≤ mdN nA la ∧ mdN nA la ≤ 1000 by have := I1.out.2.2; omega)
  have GB := Lib.hid (show mdN nB lb ≤ mdN nB lb ∧ mdN nB lb ≤ 1000 by have := I2.out.2.2; omega)
  clear hoa hob I1 I2
  generalize mdW nA la = W1 at *
  generalize mdH nA la = H1 at *
  generalize mdN nA la = N1 at *
  generalize mdF nA la = F1 at *
  generalize mdW nB lb = W2 at *
  generalize mdH nB lb = H2 at *
  generalize mdN nB lb = N2 at *
  generalize mdF nB lb = F2 at *
  generalize (some (⟨ba', 0, none⟩ : Addr)) = a1 at *
  generalize (some (⟨bb', 0, none⟩ : Addr)) = a2 at *
  generalize (some (⟨g1, 0, none⟩ : Addr)) = a3 at *
  go_upto_region 5 with (fail)
  have hB4 : Below V3.heap.size V3 (((V3.alloc (.cells #[.int .i64 W1, .int .i64 H1, .slice a1 N1 N1] 28)).alloc (.cells #[.int .i64 W2, .int .i64 H2, .slice a2 N2 N2] 28)).alloc (.cells #[.int .i64 X1, .int .i64 X2, .slice a3 k1 c1'] 28)) := ba (ba (ba (Below.refl _ _) _) _) _
  have b1 : BoxAt (((V3.alloc (.cells #[.int .i64 W1, .int .i64 H1, .slice a1 N1 N1] 28)).alloc (.cells #[.int .i64 W2, .int .i64 H2, .slice a2 N2 N2] 28)).alloc (.cells #[.int .i64 X1, .int .i64 X2, .slice a3 k1 c1'] 28)) V3.heap.size W1 H1 a1 N1 N1 := ⟨by go_cell, by go_cell, by go_cell⟩
  have b2 : BoxAt (((V3.alloc (.cells #[.int .i64 W1, .int .i64 H1, .slice a1 N1 N1] 28)).alloc (.cells #[.int .i64 W2, .int .i64 H2, .slice a2 N2 N2] 28)).alloc (.cells #[.int .i64 X1, .int .i64 X2, .slice a3 k1 c1'] 28)) (V3.heap.size + 1) W2 H2 a2 N2 N2 := ⟨by go_cell, by go_cell, by go_cell⟩
  have b3 : BoxAt (((V3.alloc (.cells #[.int .i64 W1, .int .i64 H1, .slice a1 N1 N1] 28)).alloc (.cells #[.int .i64 W2, .int .i64 H2, .slice a2 N2 N2] 28)).alloc (.cells #[.int .i64 X1, .int .i64 X2, .slice a3 k1 c1'] 28)) (V3.heap.size + 1 + 1) X1 X2 a3 k1 c1' := ⟨by go_cell, by go_cell, by go_cell⟩
  replace hC2 := k7_below hC2 hB4
  replace hX2 := boxat_below hX2 hB4
  replace h0 := bt h0 hB4
  replace hDA := da_below hDA hB4
  replace hDB := da_below hDB hB4
  replace hDO := da_below hDO hB4
  have hDR := da_cut (da_below HR.out h0) hm4.1
  clear hB4 HR hm4
  generalize (((V3.alloc (.cells #[.int .i64 W1, .int .i64 H1, .slice a1 N1 N1] 28)).alloc (.cells #[.int .i64 W2, .int .i64 H2, .slice a2 N2 N2] 28)).alloc (.cells #[.int .i64 X1, .int .i64 X2, .slice a3 k1 c1'] 28)) = V4 at *
  generalize V3.heap.size = Ba at *
  obtain ⟨x0, x1, x2⟩ := hX2
  obtain ⟨b10, b11, b12⟩ := id b1
  obtain ⟨b20, b21, b22⟩ := b2
  obtain ⟨b30, b31, b32⟩ := b3
  have h5 := l1_lit V4 W1 H1 a1 N1 N1 F1 W2 H2 a2 N2 N2 F2 X1 X2 a3 k1 c1' f1 rW rH ra mm rc rf hDA hDB hDO hDR GA.out GB.out GO.out GR.out 28
  have hB5 : Below V4.heap.size V4 (V4.alloc (.cells #[.int .i64 W1, .int .i64 H1, .slice a1 N1 N1, .int .i64 W2, .int .i64 H2, .slice a2 N2 N2, .int .i64 X1, .int .i64 X2, .slice a3 k1 c1', .int .i64 rW, .int .i64 rH, .slice ra mm rc] 28)) := ba (Below.refl _ _) _
  have RR := Lib.hid h5
  have HAA := Lib.hid (da_below hDA hB5)
  have HB1 := Lib.hid (boxat_below b1 hB5)
  clear h5 hDA hDB hDO hDR b1
  replace hC2 := k7_below hC2 hB5
  replace h0 := bt h0 hB5
  clear hB5 GB GO GR
  go_wp2_with fail
  clear x0 x1 x2 b10 b11 b12 b20 b21 b22 b30 b31 b32
  generalize (V4.alloc (.cells #[.int .i64 W1, .int .i64 H1, .slice a1 N1 N1, .int .i64 W2, .int .i64 H2, .slice a2 N2 N2, .int .i64 X1, .int .i64 X2, .slice a3 k1 c1', .int .i64 rW, .int .i64 rH, .slice ra mm rc] 28)) = V5 at *
  generalize V4.heap.size = Bl at *
  have HC := Lib.hid hC2
  clear hC2
  go_loopw [53] (fun v V => UpT V5 4 v V) (fun v _ => 4 - (intOf v).toNat)
  case atStart => exact ⟨0, rfl, by omega, Below.refl _ _⟩
  case round =>
    obtain ⟨k, rfl, hk, hB⟩ := hrel
    rename World => V
    rcases Nat.lt_or_ge k 4 with hk5 | hk5
    · obtain ⟨Wa, Ha, aa, na, ca, fa, ⟨u0, u1, u2⟩, hna, hDa⟩ := l1_below (RR.out k hk5) hB
      have k2 : (0 : Int) ≤ (k : Int) := by omega
      have k3 : (k : Int) < 4 := by omega
      have NX : Hid (∀ V', Below V.heap.size V V' → UpT V5 4 (.int .i64 ((k : Int) + 1)) V') := Lib.hid (fun V' h => ⟨k + 1, rfl, by omega, bt hB h⟩)
      have hCk := k7_below HC.out hB
      have hAk := da_below HAA.out hB
      have hBk := boxat_below HB1.out hB
      clear hk
      go_upto_region 8 with (fail)
      have hB6 : Below V.heap.size V (V.alloc (.cells #[.int .i64 Wa, .int .i64 Ha, .slice aa na ca] 28)) := ba (Below.refl _ _) _
      have hPx : BoxAt (V.alloc (.cells #[.int .i64 Wa, .int .i64 Ha, .slice aa na ca] 28)) V.heap.size Wa Ha aa na ca := ⟨by go_cell, by go_cell, by go_cell⟩
      replace hCk := k7_below hCk hB6
      replace hDa := da_below hDa hB6
      replace hAk := da_below hAk hB6
      replace hBk := boxat_below hBk hB6
      replace NX := Lib.hid (fun V' h => NX.out V' (bt hB6 h))
      clear u0 u1 u2 hB6 hB
      generalize (V.alloc (.cells #[.int .i64 Wa, .int .i64 Ha, .slice aa na ca] 28)) = V6 at *
      generalize V.heap.size = Bx at *
      have HNA := Lib.hid hna
      clear hna
      obtain ⟨TT, hTT, TXp, TXr⟩ := text_both Wa Ha aa na ca fa HNA.out.1
      have HTT := Lib.hid hTT
      have hDA6 := Lib.hid hDa
      have hAA6 := Lib.hid hAk
      have C1 := Lib.hid (Check_any Wa Ha aa na ca)
      have C2 := Lib.hid (rCheck_any Wa Ha aa na ca)
      have D1 := Lib.hid (fun W h => Count_any Wa Ha aa na ca fa W (da_below hDA6.out h))
      have D2 := Lib.hid (fun W h => rCount_any Wa Ha aa na ca fa (by have := HNA.out.2; omega) W (da_below hDA6.out h))
      have E1 := Lib.hid (fun W h => TXp W (da_below hDA6.out h))
      have E2 := Lib.hid (fun W h => TXr W (da_below hDA6.out h))
      have F1' := Lib.hid (fun W h => Same_any Wa Ha aa na ca fa W1 H1 a1 N1 N1 F1 (by have := HNA.out.2; omega) W (da_below hDA6.out h) (da_below hAA6.out h))
      have F2' := Lib.hid (fun W h => rSame_any Wa Ha aa na ca fa W1 H1 a1 N1 N1 F1 (by have := HNA.out.2; omega) W (da_below hDA6.out h) (da_below hAA6.out h))
      have F3' := Lib.hid (fun W h => Same_any W1 H1 a1 N1 N1 F1 Wa Ha aa na ca fa (by have := GA.out.2; omega) W (da_below hAA6.out h) (da_below hDA6.out h))
      have F4' := Lib.hid (fun W h => rSame_any W1 H1 a1 N1 N1 F1 Wa Ha aa na ca fa (by have := GA.out.2; omega) W (da_below hAA6.out h) (da_below hDA6.out h))
      generalize ck Wa Ha na = z0 at *
      generalize count Wa Ha na fa = z1 at *
      generalize sm Wa Ha na fa W1 H1 N1 F1 = z2 at *
      generalize sm W1 H1 N1 F1 Wa Ha na fa = z3 at *
      unfold StC at E1 E2
      unfold bv at C1 C2 D1 D2 E1 E2 F1' F2' F3' F4'
      have hst : (TT.toList == TT.toList) = true := beq_self_eq_true _
      have x0' : ∀ w', Below V6.heap.size V6 w' → w'.cell? ⟨Bx, 0, none⟩ = some (.int .i64 Wa) := fun _ h => kq h hPx.1
      have x1' : ∀ w', Below V6.heap.size V6 w' → w'.cell? ⟨Bx, 1, none⟩ = some (.int .i64 Ha) := fun _ h => kq h hPx.2.1
      have x2' : ∀ w', Below V6.heap.size V6 w' → w'.cell? ⟨Bx, 2, none⟩ = some (.slice aa na ca) := fun _ h => kq h hPx.2.2
      have y0' : ∀ w', Below V6.heap.size V6 w' → w'.cell? ⟨Ba, 0, none⟩ = some (.int .i64 W1) := fun _ h => kq h hBk.1
      have y1' : ∀ w', Below V6.heap.size V6 w' → w'.cell? ⟨Ba, 1, none⟩ = some (.int .i64 H1) := fun _ h => kq h hBk.2.1
      have y2' : ∀ w', Below V6.heap.size V6 w' → w'.cell? ⟨Ba, 2, none⟩ = some (.slice a1 N1 N1) := fun _ h => kq h hBk.2.2
      clear TXp TXr hTT
      go_region_held3 (fun w' => Below V6.heap.size V6 w') (first
        | (with_reducible exact bd1 (Below.refl _ _))
        | (with_reducible exact bt (by assumption) hba)
        | (with_reducible assumption))
        (first
        | ((with_reducible refine (C1.out _).mono ?_); rintro en wa ⟨rfl, hba⟩; have hbw : Below V6.heap.size V6 wa := bt (by with_reducible assumption) hba)
        | ((with_reducible refine (C2.out _).mono ?_); rintro en wa ⟨rfl, hba⟩; have hbw : Below V6.heap.size V6 wa := bt (by with_reducible assumption) hba)
        | ((with_reducible refine (D1.out _ (by with_reducible assumption)).mono ?_); rintro en wa ⟨rfl, hba⟩; have hbw : Below V6.heap.size V6 wa := bt (by with_reducible assumption) hba)
        | ((with_reducible refine (D2.out _ (by with_reducible assumption)).mono ?_); rintro en wa ⟨rfl, hba⟩; have hbw : Below V6.heap.size V6 wa := bt (by with_reducible assumption) hba)
        | ((with_reducible refine (E1.out _ (by with_reducible assumption)).mono ?_); rintro en wa ⟨rfl, hba⟩; have hbw : Below V6.heap.size V6 wa := bt (by with_reducible assumption) hba)
        | ((with_reducible refine (E2.out _ (by with_reducible assumption)).mono ?_); rintro en wa ⟨rfl, hba⟩; have hbw : Below V6.heap.size V6 wa := bt (by with_reducible assumption) hba)
        | ((with_reducible refine (F1'.out _ (by with_reducible assumption)).mono ?_); rintro en wa ⟨rfl, hba⟩; have hbw : Below V6.heap.size V6 wa := bt (by with_reducible assumption) hba)
        | ((with_reducible refine (F2'.out _ (by with_reducible assumption)).mono ?_); rintro en wa ⟨rfl, hba⟩; have hbw : Below V6.heap.size V6 wa := bt (by with_reducible assumption) hba)
        | ((with_reducible refine (F3'.out _ (by with_reducible assumption)).mono ?_); rintro en wa ⟨rfl, hba⟩; have hbw : Below V6.heap.size V6 wa := bt (by with_reducible assumption) hba)
        | ((with_reducible refine (F4'.out _ (by with_reducible assumption)).mono ?_); rintro en wa ⟨rfl, hba⟩; have hbw : Below V6.heap.size V6 wa := bt (by with_reducible assumption) hba))
      have hCk2 := k7_below hCk hbw
      have hPx2 := boxat_below hPx hbw
      replace NX := Lib.hid (fun V' h => NX.out V' (bt hbw h))
      have HDA7 := Lib.hid (da_below hDA6.out hbw)
      have TXR := E2
      clear x0' x1' x2' y0' y1' y2' C1 C2 D1 D2 E1 F1' F2' F3' F4' hst hba hCk hPx hBk hDA6 hAA6 hDa hAk E2
      have EQ := Lib.hid (fun W h => TXR.out W (bt hbw h))
      clear TXR hbw
      generalize wa = Vs at *
      have c0' : ∀ w', Below Vs.heap.size Vs w' → w'.cell? ⟨w.heap.size, 0, none⟩ = some (.slice aA nA cA) := fun _ h => kq h hCk2.1
      have c1' : ∀ w', Below Vs.heap.size Vs w' → w'.cell? ⟨w.heap.size, 1, none⟩ = some (.slice aB nB cB) := fun _ h => kq h hCk2.2.1
      have c2' : ∀ w', Below Vs.heap.size Vs w' → w'.cell? ⟨w.heap.size, 2, none⟩ = some (.int .i64 q) := fun _ h => kq h hCk2.2.2.1
      have c3' : ∀ w', Below Vs.heap.size Vs w' → w'.cell? ⟨w.heap.size, 3, none⟩ = some (.int .i64 l0) := fun _ h => kq h hCk2.2.2.2.1
      have c4' : ∀ w', Below Vs.heap.size Vs w' → w'.cell? ⟨w.heap.size, 4, none⟩ = some (.int .i64 l1) := fun _ h => kq h hCk2.2.2.2.2.1
      have c5' : ∀ w', Below Vs.heap.size Vs w' → w'.cell? ⟨w.heap.size, 5, none⟩ = some (.int .i64 l2) := fun _ h => kq h hCk2.2.2.2.2.2.1
      have c6' : ∀ w', Below Vs.heap.size Vs w' → w'.cell? ⟨w.heap.size, 6, none⟩ = some (.int .i64 l3) := fun _ h => kq h hCk2.2.2.2.2.2.2
      go_upto_region 10 with (fail)
      go_region_held3 (fun w' => Below Vs.heap.size Vs w') (first
        | (with_reducible exact bd1 (Below.refl _ _))
        | (with_reducible exact bt (by assumption) hba)
        | (with_reducible exact ba (by assumption) _)
        | (with_reducible assumption))
        (((with_reducible refine (SM.out _).mono ?_); rintro en wa ⟨rfl, hba⟩; have hbw : Below Vs.heap.size Vs wa := bt (by with_reducible assumption) hba))
      clear c0' c1' c2' c3' c4' c5' c6'
      have hB7 : Below Vs.heap.size Vs (wa.alloc (.cells #[.int .i64 l0, .int .i64 l1, .int .i64 l2, .int .i64 l3, .int .i64 (sv l0), .int .i64 (sv l1), .int .i64 (sv l2), .int .i64 (sv l3)] 23)) := bt hbw (ba (Below.refl _ _) _)
      have RP' := Lib.hid (fun j hj => l4_lit wa l0 l1 l2 l3 (sv l0) (sv l1) (sv l2) (sv l3) R4.out ⟨sv_r l0, sv_r l1⟩ 23 j hj)
      have HPX := Lib.hid (boxat_below hPx2 hB7)
      have HCK := Lib.hid (k7_below hCk2 hB7)
      replace HDA7 := Lib.hid (da_below HDA7.out hB7)
      replace NX := Lib.hid (fun V' h => NX.out V' (bt hB7 h))
      replace EQ := Lib.hid (fun W h => EQ.out W (bt hB7 h))
      clear hB7 hbw hba hCk2 hPx2
      generalize (wa.alloc (.cells #[.int .i64 l0, .int .i64 l1, .int .i64 l2, .int .i64 l3, .int .i64 (sv l0), .int .i64 (sv l1), .int .i64 (sv l2), .int .i64 (sv l3)] 23)) = V7 at *
      generalize wa.heap.size = Bq at *
      go_wp2_with fail
      go_loopw [100] (fun v V => UpT V7 2 v V) (fun v _ => 2 - (intOf v).toNat)
      case atStart => exact ⟨0, rfl, by omega, Below.refl _ _⟩
      case round =>
        obtain ⟨j, rfl, hj, hB8⟩ := hrel
        rename World => V8
        rcases Nat.lt_or_ge j 2 with hj2 | hj2
        · obtain ⟨p0, p1, p2, p3, ⟨r0, r1⟩, u0, u1, u2, u3⟩ := l4_below (RP'.out j hj2) hB8
          have j2 : (0 : Int) ≤ (j : Int) := by omega
          have j3 : (j : Int) < 2 := by omega
          have N2 : Hid (∀ V', Below V8.heap.size V8 V' → UpT V7 2 (.int .i64 ((j : Int) + 1)) V') := Lib.hid (fun V' h => ⟨j + 1, rfl, by omega, bt hB8 h⟩)
          have hPx := boxat_below HPX.out hB8
          have hDa := da_below HDA7.out hB8
          clear hj r0 r1
          go_upto_region 13 with (fail)
          have hB9 : Below V8.heap.size V8 (V8.alloc (.cells #[.int .i64 p0, .int .i64 p1, .int .i64 p2, .int .i64 p3] 23)) := ba (Below.refl _ _) _
          have hP4 : K4 (V8.alloc (.cells #[.int .i64 p0, .int .i64 p1, .int .i64 p2, .int .i64 p3] 23)) V8.heap.size p0 p1 p2 p3 := ⟨by go_cell, by go_cell, by go_cell, by go_cell⟩
          replace hPx := boxat_below hPx hB9
          replace hDa := da_below hDa hB9
          replace N2 := Lib.hid (fun V' h => N2.out V' (bt hB9 h))
          clear u0 u1 u2 u3 hB9 hB8
          generalize (V8.alloc (.cells #[.int .i64 p0, .int .i64 p1, .int .i64 p2, .int .i64 p3] 23)) = V9 at *
          generalize V8.heap.size = Bp at *
          obtain ⟨Wc, Hc, nc, Fc, er, hnc, CA, CB⟩ := new_both p0 p1
          have HNC := Lib.hid hnc
          have CA' := Lib.hid CA
          have CB' := Lib.hid CB
          unfold BmC2 at CA' CB'
          clear CA CB hnc
          obtain ⟨y0, y1, y2, y3⟩ := id hP4
          go_wp2_with fail
          clear y0 y1 y2 y3
          with_reducible refine (CA'.out _).mono ?_
          rintro e Vc ⟨sVc, rfl, hdc, hbc⟩
          have hB10 : Below V9.heap.size V9 (Vc.alloc (.cells #[.int .i64 Wc, .int .i64 Hc, .slice sVc nc nc] 28)) := bt hbc (ba (Below.refl _ _) _)
          have hS1 : BoxAt (Vc.alloc (.cells #[.int .i64 Wc, .int .i64 Hc, .slice sVc nc nc] 28)) Vc.heap.size Wc Hc sVc nc nc := ⟨by go_cell, by go_cell, by go_cell⟩
          replace hdc := da_below hdc (ba (Below.refl Vc.heap.size Vc) (.cells #[.int .i64 Wc, .int .i64 Hc, .slice sVc nc nc] 28))
          replace hPx := boxat_below hPx hB10
          replace hP4 := k4_below hP4 hB10
          replace hDa := da_below hDa hB10
          replace N2 := Lib.hid (fun V' h => N2.out V' (bt hB10 h))
          obtain ⟨y0, y1, y2, y3⟩ := id hP4
          go_upto_region 14 with (fail)
          clear hbc hB10 CA'
          generalize (Vc.alloc (.cells #[.int .i64 Wc, .int .i64 Hc, .slice sVc nc nc] 28)) = Vd0 at *
          generalize Vc.heap.size = b1 at *
          go_wp2_with fail
          clear y0 y1 y2 y3
          with_reducible refine (CB'.out _).mono ?_
          rintro e Vd ⟨sVd, rfl, hdd, hbd⟩
          have hB11 : Below Vd0.heap.size Vd0 (Vd.alloc (.cells #[.int .i64 Wc, .int .i64 Hc, .slice sVd nc nc] 28)) := bt hbd (ba (Below.refl _ _) _)
          have hS2 : BoxAt (Vd.alloc (.cells #[.int .i64 Wc, .int .i64 Hc, .slice sVd nc nc] 28)) Vd.heap.size Wc Hc sVd nc nc := ⟨by go_cell, by go_cell, by go_cell⟩
          replace hdd := da_below hdd (ba (Below.refl Vd.heap.size Vd) (.cells #[.int .i64 Wc, .int .i64 Hc, .slice sVd nc nc] 28))
          replace hdc := da_below hdc hB11
          replace hS1 := boxat_below hS1 hB11
          replace hPx := boxat_below hPx hB11
          replace hP4 := k4_below hP4 hB11
          replace hDa := da_below hDa hB11
          replace N2 := Lib.hid (fun V' h => N2.out V' (bt hB11 h))
          go_upto_region 15 with (fail)
          clear hbd hB11 CB'
          generalize (Vd.alloc (.cells #[.int .i64 Wc, .int .i64 Hc, .slice sVd nc nc] 28)) = Ve at *
          generalize Vd.heap.size = b2 at *
          have SC := Lib.hid (fun W h => rSame_any Wc Hc sVc nc nc Fc Wc Hc sVd nc nc Fc (by have := HNC.out; omega) W (da_below hdc h) (da_below hdd h))
          rw [sm_yes2] at SC
          have G1 := Lib.hid (fun W h => Get_any Wa Ha aa na ca fa p2 p3 W (da_below hDa h))
          have G2 := Lib.hid (fun W h => rGet_any Wa Ha aa na ca fa p2 p3 W (da_below hDa h))
          generalize has Wa Ha na fa p2 p3 = z4 at *
          unfold bv at SC G1 G2
          have v0' : ∀ w', Below Ve.heap.size Ve w' → w'.cell? ⟨b1, 0, none⟩ = some (.int .i64 Wc) := fun _ h => kq h hS1.1
          have v1' : ∀ w', Below Ve.heap.size Ve w' → w'.cell? ⟨b1, 1, none⟩ = some (.int .i64 Hc) := fun _ h => kq h hS1.2.1
          have v2' : ∀ w', Below Ve.heap.size Ve w' → w'.cell? ⟨b1, 2, none⟩ = some (.slice sVc nc nc) := fun _ h => kq h hS1.2.2
          have w0' : ∀ w', Below Ve.heap.size Ve w' → w'.cell? ⟨b2, 0, none⟩ = some (.int .i64 Wc) := fun _ h => kq h hS2.1
          have w1' : ∀ w', Below Ve.heap.size Ve w' → w'.cell? ⟨b2, 1, none⟩ = some (.int .i64 Hc) := fun _ h => kq h hS2.2.1
          have w2' : ∀ w', Below Ve.heap.size Ve w' → w'.cell? ⟨b2, 2, none⟩ = some (.slice sVd nc nc) := fun _ h => kq h hS2.2.2
          have x0' : ∀ w', Below Ve.heap.size Ve w' → w'.cell? ⟨Bx, 0, none⟩ = some (.int .i64 Wa) := fun _ h => kq h hPx.1
          have x1' : ∀ w', Below Ve.heap.size Ve w' → w'.cell? ⟨Bx, 1, none⟩ = some (.int .i64 Ha) := fun _ h => kq h hPx.2.1
          have x2' : ∀ w', Below Ve.heap.size Ve w' → w'.cell? ⟨Bx, 2, none⟩ = some (.slice aa na ca) := fun _ h => kq h hPx.2.2
          have y2' : ∀ w', Below Ve.heap.size Ve w' → w'.cell? ⟨Bp, 2, none⟩ = some (.int .i64 p2) := fun _ h => kq h hP4.2.2.1
          have y3' : ∀ w', Below Ve.heap.size Ve w' → w'.cell? ⟨Bp, 3, none⟩ = some (.int .i64 p3) := fun _ h => kq h hP4.2.2.2
          clear hdc hdd hS1 hS2 hPx hP4 hDa
          go_region_held3 (fun w' => Below Ve.heap.size Ve w') (first
            | (with_reducible exact bd1 (Below.refl _ _))
            | (with_reducible exact bt (by assumption) hba)
            | (with_reducible assumption))
            (first
            | ((with_reducible refine (SC.out _ (by with_reducible assumption)).mono ?_); rintro en wa ⟨rfl, hba⟩; have hbw : Below Ve.heap.size Ve wa := bt (by with_reducible assumption) hba)
            | ((with_reducible refine (G1.out _ (by with_reducible assumption)).mono ?_); rintro en wa ⟨rfl, hba⟩; have hbw : Below Ve.heap.size Ve wa := bt (by with_reducible assumption) hba)
            | ((with_reducible refine (G2.out _ (by with_reducible assumption)).mono ?_); rintro en wa ⟨rfl, hba⟩; have hbw : Below Ve.heap.size Ve wa := bt (by with_reducible assumption) hba))
          have R := Lib.hid (N2.out _ hbw)
          clear v0' v1' v2' w0' w1' w2' x0' x1' x2' y2' y3' hbw hba SC G1 G2 N2
          go_wp2_with fail
          exact ⟨R.out, by simp [intOf]; omega⟩
        · obtain rfl : j = 2 := by omega
          have hPx := boxat_below HPX.out hB8
          have hCk := k7_below HCK.out hB8
          have EQ2 := EQ.out _ hB8
          replace NX := Lib.hid (fun V' h => NX.out V' (bt hB8 h))
          have M0 := Lib.hid (fun V => mod_any q ((TT.size : Int) + 1) HQ.out (by have := HTT.out; omega) V)
          clear HPX HCK HDA7 RP' hB8 EQ SM hj hj2
          obtain ⟨x0, x1, x2⟩ := hPx
          go_wp2_with fail
          clear x0 x1 x2
          with_reducible refine EQ2.mono ?_
          rintro e Va ⟨rfl, hba⟩
          replace hCk := k7_below hCk hba
          replace NX := Lib.hid (fun V' h => NX.out V' (bt hba h))
          clear EQ2 hba
          obtain ⟨c0, c1, c2, c3, c4, c5, c6⟩ := hCk
          have s0 : (TT.size : Int) ≤ 20000 := by have := HTT.out; omega
          clear c0 c1 c3 c4 c5 c6
          obtain ⟨at', hat⟩ : ∃ at', q % ((TT.size : Int) + 1) = at' := ⟨_, rfl⟩
          have a0 : 0 ≤ at' := by rw [← hat]; exact Int.emod_nonneg _ (by omega)
          have a1 : at' ≤ (TT.size : Int) := by
            have := Int.emod_lt_of_pos q (show (0 : Int) < (TT.size : Int) + 1 by omega)
            rw [hat] at this
            omega
          rw [hat] at M0
          go_upto_region 20 with ((with_reducible refine (M0.out _).mono ?_); rintro e Vb ⟨rfl, rfl⟩)
          clear c2 M0 hat
          have a2 : at'.toNat ≤ TT.size := by omega
          have z1 : (TT.extract 0 at'.toNat).size ≤ 20000 := Nat.le_trans (ext_size _ _ _) HTT.out
          have z2 : (TT.extract at'.toNat TT.size).size ≤ 20000 := Nat.le_trans (ext_size _ _ _) HTT.out
          have z3 : (TT.extract 0 at'.toNat ++ ⟨#[35]⟩ : ByteArray).size ≤ 20001 := by rw [app_size]; have : (⟨#[35]⟩ : ByteArray).size = 1 := rfl; omega
          have z4 : (TT.extract 0 at'.toNat ++ u).size ≤ 20300 := by rw [app_size]; have := HU.out; omega
          have z5 : (TT.extract 0 at'.toNat ++ ⟨#[35]⟩ ++ TT.extract at'.toNat TT.size : ByteArray).size ≤ 40001 := by rw [app_size]; omega
          have c1 := fun w => run_string_add_sum (P := Try.prog) (w := w) (TT.extract 0 at'.toNat) u (by have := HU.out; omega)
          have c2 := fun w => run_string_add_sum (P := Try.prog) (w := w) (TT.extract 0 at'.toNat) ⟨#[35]⟩ (by have : (⟨#[35]⟩ : ByteArray).size = 1 := rfl; omega)
          have c3 := fun w => run_string_add_sum (P := Try.prog) (w := w) (TT.extract 0 at'.toNat ++ ⟨#[35]⟩) (TT.extract at'.toNat TT.size) (by omega)
          have LL := Lib.hid (fun W j hj => ls_lit W TT (TT.extract 0 at'.toNat) (TT.extract 0 at'.toNat ++ u) (TT.extract 0 at'.toNat ++ ⟨#[35]⟩ ++ TT.extract at'.toNat TT.size) u 9 (by have := HTT.out; omega) (by omega) (by omega) (by omega) (by have := HU.out; omega) j hj)
          clear z1 z2 z3 z4 z5
          go_region_held3 (fun w' => Below Vb.heap.size Vb w') (first
            | (with_reducible exact bd1 (Below.refl _ _))
            | (with_reducible exact bd1 (ba (Below.refl _ _) _))
            | (with_reducible exact ba (by assumption) _)
            | (with_reducible assumption))
            (fail)
          have hBd : Below Vb.heap.size Vb (Vb.alloc (.cells #[.string TT, .string (TT.extract 0 at'.toNat), .string (TT.extract 0 at'.toNat ++ u), .string (TT.extract 0 at'.toNat ++ ⟨#[35]⟩ ++ TT.extract at'.toNat TT.size), .string u] 9)).drew := bd1 (ba (Below.refl _ _) _)
          have LD := Lib.hid (fun j hj => ls_below (LL.out Vb j hj) (bd1 (Below.refl _ _)))
          replace NX := Lib.hid (fun V' h => NX.out V' (bt hBd h))
          clear LL c1 c2 c3 a0 a1 a2 s0 hBd
          generalize (Vb.alloc (.cells #[.string TT, .string (TT.extract 0 at'.toNat), .string (TT.extract 0 at'.toNat ++ u), .string (TT.extract 0 at'.toNat ++ ⟨#[35]⟩ ++ TT.extract at'.toNat TT.size), .string u] 9)).drew = Vt at *
          generalize Vb.heap.size = bt' at *
          go_wp2_with fail
          go_loopw [173] (fun v V => UpT Vt 5 v V) (fun v _ => 5 - (intOf v).toNat)
          case atStart => exact ⟨0, rfl, by omega, Below.refl _ _⟩
          case round =>
            obtain ⟨i, rfl, hi, hB13⟩ := hrel
            rename World => Vh
            rcases Nat.lt_or_ge i 5 with hi3 | hi3
            · obtain ⟨t, u0, ht⟩ := ls_below (LD.out i hi3) hB13
              have i2 : (0 : Int) ≤ (i : Int) := by omega
              have i3 : (i : Int) < 5 := by omega
              have N3 : Hid (∀ V', Below Vh.heap.size Vh V' → UpT Vt 5 (.int .i64 ((i : Int) + 1)) V') := Lib.hid (fun V' h => ⟨i + 1, rfl, by omega, bt hB13 h⟩)
              obtain ⟨Wc, Hc, nc, Fc, er, hnc, CA, CB⟩ := parse_both t ht
              have HNC := Lib.hid hnc
              have CA' := Lib.hid CA
              have CB' := Lib.hid CB
              unfold BmCb at CA' CB'
              clear CA CB hnc hi hB13 ht
              go_upto_region 23 with (fail)
              clear u0
              go_wp2_with fail
              with_reducible refine (CA'.out _).mono ?_
              rintro e Vc ⟨sVc, rfl, hdc, hbc⟩
              have hB10 : Below Vh.heap.size Vh (Vc.alloc (.cells #[.int .i64 Wc, .int .i64 Hc, .slice sVc nc nc] 28)) := bt hbc (ba (Below.refl _ _) _)
              have hS1 : BoxAt (Vc.alloc (.cells #[.int .i64 Wc, .int .i64 Hc, .slice sVc nc nc] 28)) Vc.heap.size Wc Hc sVc nc nc := ⟨by go_cell, by go_cell, by go_cell⟩
              replace hdc := da_below hdc (ba (Below.refl Vc.heap.size Vc) (.cells #[.int .i64 Wc, .int .i64 Hc, .slice sVc nc nc] 28))
              replace N3 := Lib.hid (fun V' h => N3.out V' (bt hB10 h))
              go_upto_region 24 with (fail)
              clear hbc hB10 CA'
              generalize (Vc.alloc (.cells #[.int .i64 Wc, .int .i64 Hc, .slice sVc nc nc] 28)) = Vd0 at *
              generalize Vc.heap.size = b1 at *
              go_wp2_with fail
              with_reducible refine (CB'.out _).mono ?_
              rintro e Vd ⟨sVd, rfl, hdd, hbd⟩
              have hB11 : Below Vd0.heap.size Vd0 (Vd.alloc (.cells #[.int .i64 Wc, .int .i64 Hc, .slice sVd nc nc] 28)) := bt hbd (ba (Below.refl _ _) _)
              have hS2 : BoxAt (Vd.alloc (.cells #[.int .i64 Wc, .int .i64 Hc, .slice sVd nc nc] 28)) Vd.heap.size Wc Hc sVd nc nc := ⟨by go_cell, by go_cell, by go_cell⟩
              replace hdd := da_below hdd (ba (Below.refl Vd.heap.size Vd) (.cells #[.int .i64 Wc, .int .i64 Hc, .slice sVd nc nc] 28))
              replace hdc := da_below hdc hB11
              replace hS1 := boxat_below hS1 hB11
              replace N3 := Lib.hid (fun V' h => N3.out V' (bt hB11 h))
              go_upto_region 25 with (fail)
              clear hbd hB11 CB'
              generalize (Vd.alloc (.cells #[.int .i64 Wc, .int .i64 Hc, .slice sVd nc nc] 28)) = Ve at *
              generalize Vd.heap.size = b2 at *
              have SC := Lib.hid (rSame_any Wc Hc sVc nc nc Fc Wc Hc sVd nc nc Fc (by have := HNC.out; omega) Ve hdc hdd)
              rw [sm_yes2] at SC
              unfold bv at SC
              obtain ⟨v0, v1, v2⟩ := hS1
              obtain ⟨w0, w1, w2⟩ := hS2
              cases er
              · go_wp2_with ((with_reducible refine SC.out.mono ?_); rintro e Vf ⟨rfl, hbf⟩)
                exact ⟨N3.out _ hbf, by simp [intOf]; omega⟩
              · go_wp2_with ((with_reducible refine SC.out.mono ?_); rintro e Vf ⟨rfl, hbf⟩)
                exact ⟨N3.out _ hbf, by simp [intOf]; omega⟩
            · obtain rfl : i = 5 := by omega
              go_wp2_with fail
              exact ⟨NX.out _ hB13, by simp [intOf]; omega⟩
    · obtain rfl : k = 4 := by omega
      go_wp2_with fail
      go_ret
      exact ⟨rfl, bt h0 hB⟩
end Go.Proofs.Ytfkpodhkbcocmaa.Bm
