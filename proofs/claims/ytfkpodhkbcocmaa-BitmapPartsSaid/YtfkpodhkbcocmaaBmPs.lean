/-
  Layer 4 (bitmap): BitmapParts walked.
-/
import Derived.Test.YtfkpodhkbcocmaaBmPr
namespace Go.Proofs.Ytfkpodhkbcocmaa.Bm
open Go.RowKit
set_option maxRecDepth 100000 in
set_option maxHeartbeats 16000000 in
theorem Parts_any (aA : Option Addr) (nA cA : Nat) (la : Nat → Int) (aB : Option Addr) (nB cB : Nat) (lb : Nat → Int) (q l0 l1 l2 l3 : Int) (hA : nA ≤ 9223372036854775807) (hB : nB ≤ 9223372036854775807) (hq : R64 q) (t0 : R64 l0) (t1 : R64 l1) (t2 : R64 l2) (t3 : R64 l3)
    (rW rH : Int) (ra : Option Addr) (rn rc : Nat) (rf : Nat → Bool) (hrn : rn ≤ rc) (hrc : rc ≤ 9223372036854775807) (m0 m1 : Int) (w : World)
    (hDA : LA w aA nA la) (hla : ∀ i, i < nA → R64 (la i)) (hDB : LA w aB nB lb) (hlb : ∀ i, i < nB → R64 (lb i)) (hDR : DA w ra rn rf) :
    Calls Try.prog 4 #[caseV aA nA cA aB nB cB q l0 l1 l2 l3, bv rW rH ra rn rc, .agg #[.int .i64 m0, .int .i64 m1]] w fun e w' => e = .returned (.bool true) ∧ Below w.heap.size w w' := by
  have BM := Lib.hid (fun w h1 h2 => bitmaps_any aA nA cA la aB nB cB lb q l0 l1 l2 l3 hA hB hq w h1 hla h2 hlb)
  have SM := Lib.hid (small_any aA nA cA aB nB cB q l0 l1 l2 l3 t0 t1 t2 t3)
  have HA := Lib.hid hDA
  have HB := Lib.hid hDB
  have HR := Lib.hid hDR
  have SA := Lib.hid sanity_any
  have R4 := Lib.hid (And.intro t0 t1)
  clear hDA hDB hla hlb hDR t0 t1 t2 t3 hA hB hq
  unfold caseV bv at *
  have n1 : (rn : Int) ≤ (rc : Int) := by omega
  have n2 : (rc : Int) ≤ 9223372036854775807 := by omega
  go_enter Try.func4, Try.ntmps4
  go_wp2_with fail
  refine (SA.out _).mono ?_
  rintro e V1 ⟨rfl, hB1⟩
  have h0 : Below w.heap.size w V1 := bt (ba (ba (ba (Below.refl _ _) _) _) _) hB1
  have hC : K7 V1 w.heap.size aA nA cA aB nB cB q l0 l1 l2 l3 := ⟨kc hB1 (by simp; omega) (by go_cell), kc hB1 (by simp; omega) (by go_cell), kc hB1 (by simp; omega) (by go_cell), kc hB1 (by simp; omega) (by go_cell), kc hB1 (by simp; omega) (by go_cell), kc hB1 (by simp; omega) (by go_cell), kc hB1 (by simp; omega) (by go_cell)⟩
  have hX : BoxAt V1 (w.heap.size + 1) rW rH ra rn rc := ⟨kc hB1 (by simp) (by go_cell), kc hB1 (by simp) (by go_cell), kc hB1 (by simp) (by go_cell)⟩
  have hXf : V1.frozen? ⟨w.heap.size + 1, 2, none⟩ = false := kf hB1 (by simp) (by go_cell)
  have hT : T2 V1 (w.heap.size + 1 + 1) m0 m1 := ⟨kc hB1 (by simp) (by go_cell), kc hB1 (by simp) (by go_cell)⟩
  clear hB1
  obtain ⟨x0, x1, x2⟩ := hX
  go_upto_region 3 with (fail)
  generalize hmm : (min (rn : Int) 400).toNat = mm at *
  have hm4 : mm ≤ rn := by omega
  have hC2 : K7 (V1.setCell ⟨w.heap.size + 1, 2, none⟩ (.slice ra mm rc)) w.heap.size aA nA cA aB nB cB q l0 l1 l2 l3 := by
    obtain ⟨c0, c1, c2, c3, c4, c5, c6⟩ := hC
    exact ⟨by go_cell, by go_cell, by go_cell, by go_cell, by go_cell, by go_cell, by go_cell⟩
  have hT2 : T2 (V1.setCell ⟨w.heap.size + 1, 2, none⟩ (.slice ra mm rc)) (w.heap.size + 1 + 1) m0 m1 := by
    obtain ⟨c0, c1⟩ := hT
    exact ⟨by go_cell, by go_cell⟩
  have hX2 : BoxAt (V1.setCell ⟨w.heap.size + 1, 2, none⟩ (.slice ra mm rc)) (w.heap.size + 1) rW rH ra mm rc := ⟨by go_cell, by go_cell, by go_cell⟩
  replace h0 : Below w.heap.size w (V1.setCell ⟨w.heap.size + 1, 2, none⟩ (.slice ra mm rc)) := bs h0 (by simp only; omega) _
  clear hC hT hXf x0 x1 x2 hmm n1 n2 hrc hrn
  generalize (V1.setCell ⟨w.heap.size + 1, 2, none⟩ (.slice ra mm rc)) = V2 at *
  obtain ⟨c0, c1, c2, c3, c4, c5, c6⟩ := id hC2
  go_wp2_with fail
  clear c0 c1 c2 c3 c4 c5 c6
  refine (BM.out _ (la_below HA.out h0) (la_below HB.out h0)).mono ?_
  rintro e V3 ⟨ba', bb, X1, X2, g1, k1, c1', f1, rfl, hoa, hob, hDO, hRW, hRH, hm1, hmc, hB3⟩
  clear hRW hRH hm1 hmc
  replace hC2 := k7_below hC2 hB3
  replace hT2 := t2_below hT2 hB3
  replace hX2 := boxat_below hX2 hB3
  replace h0 := bt h0 hB3
  clear hB3 BM HA HB
  unfold bv
  have hDA := ob_da hoa
  have hDB := ob_da hob
  clear hoa hob
  generalize mdW nA la = W1 at *
  generalize mdH nA la = H1 at *
  generalize mdN nA la = N1 at *
  generalize mdF nA la = F1 at *
  generalize mdW nB lb = W2 at *
  generalize mdH nB lb = H2 at *
  generalize mdN nB lb = N2 at *
  generalize mdF nB lb = F2 at *
  generalize (some (⟨ba', 0, none⟩ : Addr)) = a1 at *
  generalize (some (⟨bb, 0, none⟩ : Addr)) = a2 at *
  generalize (some (⟨g1, 0, none⟩ : Addr)) = a3 at *
  go_upto_region 4 with (fail)
  have hB4 : Below V3.heap.size V3 (((V3.alloc (.cells #[.int .i64 W1, .int .i64 H1, .slice a1 N1 N1] 28)).alloc (.cells #[.int .i64 W2, .int .i64 H2, .slice a2 N2 N2] 28)).alloc (.cells #[.int .i64 X1, .int .i64 X2, .slice a3 k1 c1'] 28)) := ba (ba (ba (Below.refl _ _) _) _) _
  have b1 : BoxAt (((V3.alloc (.cells #[.int .i64 W1, .int .i64 H1, .slice a1 N1 N1] 28)).alloc (.cells #[.int .i64 W2, .int .i64 H2, .slice a2 N2 N2] 28)).alloc (.cells #[.int .i64 X1, .int .i64 X2, .slice a3 k1 c1'] 28)) V3.heap.size W1 H1 a1 N1 N1 := ⟨by go_cell, by go_cell, by go_cell⟩
  have b2 : BoxAt (((V3.alloc (.cells #[.int .i64 W1, .int .i64 H1, .slice a1 N1 N1] 28)).alloc (.cells #[.int .i64 W2, .int .i64 H2, .slice a2 N2 N2] 28)).alloc (.cells #[.int .i64 X1, .int .i64 X2, .slice a3 k1 c1'] 28)) (V3.heap.size + 1) W2 H2 a2 N2 N2 := ⟨by go_cell, by go_cell, by go_cell⟩
  have b3 : BoxAt (((V3.alloc (.cells #[.int .i64 W1, .int .i64 H1, .slice a1 N1 N1] 28)).alloc (.cells #[.int .i64 W2, .int .i64 H2, .slice a2 N2 N2] 28)).alloc (.cells #[.int .i64 X1, .int .i64 X2, .slice a3 k1 c1'] 28)) (V3.heap.size + 1 + 1) X1 X2 a3 k1 c1' := ⟨by go_cell, by go_cell, by go_cell⟩
  replace hC2 := k7_below hC2 hB4
  replace hT2 := t2_below hT2 hB4
  replace hX2 := boxat_below hX2 hB4
  replace h0 := bt h0 hB4
  replace hDA := da_below hDA hB4
  replace hDB := da_below hDB hB4
  replace hDO := da_below hDO hB4
  have hDR := da_cut (da_below HR.out h0) hm4
  clear hB4 HR hm4
  generalize (((V3.alloc (.cells #[.int .i64 W1, .int .i64 H1, .slice a1 N1 N1] 28)).alloc (.cells #[.int .i64 W2, .int .i64 H2, .slice a2 N2 N2] 28)).alloc (.cells #[.int .i64 X1, .int .i64 X2, .slice a3 k1 c1'] 28)) = V4 at *
  generalize V3.heap.size = Ba at *
  obtain ⟨x0, x1, x2⟩ := hX2
  obtain ⟨b10, b11, b12⟩ := b1
  obtain ⟨b20, b21, b22⟩ := b2
  obtain ⟨b30, b31, b32⟩ := b3
  have h5 := lp_lit V4 W1 H1 a1 N1 N1 F1 W2 H2 a2 N2 N2 F2 X1 X2 a3 k1 c1' f1 rW rH ra mm rc rf hDA hDB hDO hDR 49
  have hB5 : Below V4.heap.size V4 (V4.alloc (.cells #[.int .i64 W1, .int .i64 H1, .slice a1 N1 N1, .int .i64 W2, .int .i64 H2, .slice a2 N2 N2, .int .i64 W1, .int .i64 H1, .slice a1 N1 N1, .int .i64 X1, .int .i64 X2, .slice a3 k1 c1', .int .i64 X1, .int .i64 X2, .slice a3 k1 c1', .int .i64 W2, .int .i64 H2, .slice a2 N2 N2, .int .i64 rW, .int .i64 rH, .slice ra mm rc, .int .i64 W1, .int .i64 H1, .slice a1 N1 N1, .int .i64 W2, .int .i64 H2, .slice a2 N2 N2, .int .i64 rW, .int .i64 rH, .slice ra mm rc] 49)) := ba (Below.refl _ _) _
  have RR := Lib.hid h5
  clear h5 hDA hDB hDO hDR
  replace hC2 := k7_below hC2 hB5
  replace hT2 := t2_below hT2 hB5
  replace h0 := bt h0 hB5
  clear hB5
  go_wp2_with fail
  clear x0 x1 x2 b10 b11 b12 b20 b21 b22 b30 b31 b32
  generalize (V4.alloc (.cells #[.int .i64 W1, .int .i64 H1, .slice a1 N1 N1, .int .i64 W2, .int .i64 H2, .slice a2 N2 N2, .int .i64 W1, .int .i64 H1, .slice a1 N1 N1, .int .i64 X1, .int .i64 X2, .slice a3 k1 c1', .int .i64 X1, .int .i64 X2, .slice a3 k1 c1', .int .i64 W2, .int .i64 H2, .slice a2 N2 N2, .int .i64 rW, .int .i64 rH, .slice ra mm rc, .int .i64 W1, .int .i64 H1, .slice a1 N1 N1, .int .i64 W2, .int .i64 H2, .slice a2 N2 N2, .int .i64 rW, .int .i64 rH, .slice ra mm rc] 49)) = V5 at *
  generalize V4.heap.size = Bl at *
  have HC := Lib.hid hC2
  have HT := Lib.hid hT2
  clear hC2 hT2
  go_loopw [53] (fun v V => UpT V5 5 v V) (fun v _ => 5 - (intOf v).toNat)
  case atStart => exact ⟨0, rfl, by omega, Below.refl _ _⟩
  case round =>
    obtain ⟨k, rfl, hk, hB⟩ := hrel
    rename World => V
    rcases Nat.lt_or_ge k 5 with hk5 | hk5
    · obtain ⟨Wa, Ha, aa, na, ca, fa, Wb, Hb, ab, nb, cb, fb, ⟨u0, u1, u2⟩, ⟨u3, u4, u5⟩, hDa, hDb⟩ := lp_below (RR.out k hk5) hB
      have k2 : (0 : Int) ≤ (k : Int) := by omega
      have k3 : (k : Int) < 5 := by omega
      have NX : Hid (∀ V', Below V.heap.size V V' → UpT V5 5 (.int .i64 ((k : Int) + 1)) V') := Lib.hid (fun V' h => ⟨k + 1, rfl, by omega, bt hB h⟩)
      have hCk := k7_below HC.out hB
      have hTk := t2_below HT.out hB
      clear hk
      go_upto_region 7 with (fail)
      have hB6 : Below V.heap.size V (V.alloc (.cells #[.int .i64 Wa, .int .i64 Ha, .slice aa na ca, .int .i64 Wb, .int .i64 Hb, .slice ab nb cb] 49)) := ba (Below.refl _ _) _
      have hPx : PX (V.alloc (.cells #[.int .i64 Wa, .int .i64 Ha, .slice aa na ca, .int .i64 Wb, .int .i64 Hb, .slice ab nb cb] 49)) V.heap.size Wa Ha aa na ca Wb Hb ab nb cb := ⟨⟨by go_cell, by go_cell, by go_cell⟩, by go_cell, by go_cell, by go_cell⟩
      replace hCk := k7_below hCk hB6
      replace hTk := t2_below hTk hB6
      replace hDa := da_below hDa hB6
      replace hDb := da_below hDb hB6
      replace NX := Lib.hid (fun V' h => NX.out V' (bt hB6 h))
      clear u0 u1 u2 u3 u4 u5 hB6 hB
      generalize (V.alloc (.cells #[.int .i64 Wa, .int .i64 Ha, .slice aa na ca, .int .i64 Wb, .int .i64 Hb, .slice ab nb cb] 49)) = V6 at *
      generalize V.heap.size = Bx at *
      have c0' : ∀ w', Below V6.heap.size V6 w' → w'.cell? ⟨w.heap.size, 0, none⟩ = some (.slice aA nA cA) := fun _ h => kq h hCk.1
      have c1' : ∀ w', Below V6.heap.size V6 w' → w'.cell? ⟨w.heap.size, 1, none⟩ = some (.slice aB nB cB) := fun _ h => kq h hCk.2.1
      have c2' : ∀ w', Below V6.heap.size V6 w' → w'.cell? ⟨w.heap.size, 2, none⟩ = some (.int .i64 q) := fun _ h => kq h hCk.2.2.1
      have c3' : ∀ w', Below V6.heap.size V6 w' → w'.cell? ⟨w.heap.size, 3, none⟩ = some (.int .i64 l0) := fun _ h => kq h hCk.2.2.2.1
      have c4' : ∀ w', Below V6.heap.size V6 w' → w'.cell? ⟨w.heap.size, 4, none⟩ = some (.int .i64 l1) := fun _ h => kq h hCk.2.2.2.2.1
      have c5' : ∀ w', Below V6.heap.size V6 w' → w'.cell? ⟨w.heap.size, 5, none⟩ = some (.int .i64 l2) := fun _ h => kq h hCk.2.2.2.2.2.1
      have c6' : ∀ w', Below V6.heap.size V6 w' → w'.cell? ⟨w.heap.size, 6, none⟩ = some (.int .i64 l3) := fun _ h => kq h hCk.2.2.2.2.2.2
      go_region_held3 (fun w' => Below V6.heap.size V6 w') (first
        | (with_reducible exact bd1 (Below.refl _ _))
        | (with_reducible exact bt (by assumption) hba)
        | (with_reducible exact ba (by assumption) _)
        | (with_reducible assumption))
        (((with_reducible refine (SM.out _).mono ?_); rintro en wa ⟨rfl, hba⟩; have hbw : Below V6.heap.size V6 wa := bt (by with_reducible assumption) hba))
      clear c0' c1' c2' c3' c4' c5' c6'
      have hB7 : Below V6.heap.size V6 (wa.alloc (.cells #[.int .i64 l0, .int .i64 l1, .int .i64 l2, .int .i64 l3, .int .i64 (sv l0), .int .i64 (sv l1), .int .i64 (sv l2), .int .i64 (sv l3)] 23)) := bt hbw (ba (Below.refl _ _) _)
      have RP := Lib.hid (fun j hj => l4_lit wa l0 l1 l2 l3 (sv l0) (sv l1) (sv l2) (sv l3) R4.out ⟨sv_r l0, sv_r l1⟩ 23 j hj)
      replace hTk := t2_below hTk hB7
      replace hPx := px_below hPx hB7
      replace hDa := da_below hDa hB7
      replace hDb := da_below hDb hB7
      replace NX := Lib.hid (fun V' h => NX.out V' (bt hB7 h))
      clear hB7 hbw hba hCk
      generalize (wa.alloc (.cells #[.int .i64 l0, .int .i64 l1, .int .i64 l2, .int .i64 l3, .int .i64 (sv l0), .int .i64 (sv l1), .int .i64 (sv l2), .int .i64 (sv l3)] 23)) = V7 at *
      generalize wa.heap.size = Bq at *
      have HPX := Lib.hid hPx
      have HTK := Lib.hid hTk
      have HDA := Lib.hid hDa
      have HDB := Lib.hid hDb
      clear hPx hTk hDa hDb
      go_wp2_with fail
      go_loopw [63] (fun v V => UpT V7 2 v V) (fun v _ => 2 - (intOf v).toNat)
      case atStart => exact ⟨0, rfl, by omega, Below.refl _ _⟩
      case round =>
        obtain ⟨j, rfl, hj, hB8⟩ := hrel
        rename World => V8
        rcases Nat.lt_or_ge j 2 with hj2 | hj2
        · obtain ⟨p0, p1, p2, p3, ⟨r0, r1⟩, u0, u1, u2, u3⟩ := l4_below (RP.out j hj2) hB8
          have j2 : (0 : Int) ≤ (j : Int) := by omega
          have j3 : (j : Int) < 2 := by omega
          have N2 : Hid (∀ V', Below V8.heap.size V8 V' → UpT V7 2 (.int .i64 ((j : Int) + 1)) V') := Lib.hid (fun V' h => ⟨j + 1, rfl, by omega, bt hB8 h⟩)
          have hPx := px_below HPX.out hB8
          have hTk := t2_below HTK.out hB8
          have hDa := da_below HDA.out hB8
          have hDb := da_below HDB.out hB8
          clear hj
          go_upto_region 10 with (fail)
          have hB9 : Below V8.heap.size V8 (V8.alloc (.cells #[.int .i64 p0, .int .i64 p1, .int .i64 p2, .int .i64 p3] 23)) := ba (Below.refl _ _) _
          have hP4 : K4 (V8.alloc (.cells #[.int .i64 p0, .int .i64 p1, .int .i64 p2, .int .i64 p3] 23)) V8.heap.size p0 p1 p2 p3 := ⟨by go_cell, by go_cell, by go_cell, by go_cell⟩
          replace hPx := px_below hPx hB9
          replace hTk := t2_below hTk hB9
          replace hDa := da_below hDa hB9
          replace hDb := da_below hDb hB9
          replace N2 := Lib.hid (fun V' h => N2.out V' (bt hB9 h))
          clear u0 u1 u2 u3 hB9 hB8
          generalize (V8.alloc (.cells #[.int .i64 p0, .int .i64 p1, .int .i64 p2, .int .i64 p3] 23)) = V9 at *
          generalize V8.heap.size = Bp at *
          have BP : Hid (∃ (W' H' : Int) (n' : Nat) (F : Nat → Bool), n' ≤ 100000 ∧
              (∀ w, DA w aa na fa → DA w ab nb fb → BmC 26 #[bv Wa Ha aa na ca, bv Wb Hb ab nb cb, .int .i64 p0, .int .i64 p1] w W' H' n' F) ∧
              (∀ w, DA w aa na fa → DA w ab nb fb → BmC 27 #[bv Wa Ha aa na ca, bv Wb Hb ab nb cb, .int .i64 p0, .int .i64 p1] w W' H' n' F)) := Lib.hid (paste_both Wa Ha aa na ca fa Wb Hb ab nb cb fb p0 p1 r0 r1)
          have BC := Lib.hid (crop_both Wa Ha aa na ca fa p0 p1 p2 p3)
          have HPX9 := Lib.hid hPx
          have HTK9 := Lib.hid hTk
          have HP49 := Lib.hid hP4
          have HDA9 := Lib.hid hDa
          have HDB9 := Lib.hid hDb
          obtain ⟨Wp, Hp, np, Fp, hnp, PA, PB⟩ := BP.out
          have PA' := Lib.hid (fun W h => PA W (da_below HDA9.out h) (da_below HDB9.out h))
          have PB' := Lib.hid (fun W h => PB W (da_below HDA9.out h) (da_below HDB9.out h))
          have SP := Lib.hid (fun W b1 b2 h1 h2 => rSame_any Wp Hp b1 np np Fp Wp Hp b2 np np Fp (by omega) W h1 h2)
          rw [sm_yes2] at SP
          unfold BmC bv at PA' PB'
          unfold bv at SP
          have x0' : ∀ w', Below V9.heap.size V9 w' → w'.cell? ⟨Bx, 0, none⟩ = some (.int .i64 Wa) := fun _ h => kq h HPX9.out.1.1
          have x1' : ∀ w', Below V9.heap.size V9 w' → w'.cell? ⟨Bx, 1, none⟩ = some (.int .i64 Ha) := fun _ h => kq h HPX9.out.1.2.1
          have x2' : ∀ w', Below V9.heap.size V9 w' → w'.cell? ⟨Bx, 2, none⟩ = some (.slice aa na ca) := fun _ h => kq h HPX9.out.1.2.2
          have x3' : ∀ w', Below V9.heap.size V9 w' → w'.cell? ⟨Bx, 3, none⟩ = some (.int .i64 Wb) := fun _ h => kq h HPX9.out.2.1
          have x4' : ∀ w', Below V9.heap.size V9 w' → w'.cell? ⟨Bx, 4, none⟩ = some (.int .i64 Hb) := fun _ h => kq h HPX9.out.2.2.1
          have x5' : ∀ w', Below V9.heap.size V9 w' → w'.cell? ⟨Bx, 5, none⟩ = some (.slice ab nb cb) := fun _ h => kq h HPX9.out.2.2.2
          have y0' : ∀ w', Below V9.heap.size V9 w' → w'.cell? ⟨Bp, 0, none⟩ = some (.int .i64 p0) := fun _ h => kq h HP49.out.1
          have y1' : ∀ w', Below V9.heap.size V9 w' → w'.cell? ⟨Bp, 1, none⟩ = some (.int .i64 p1) := fun _ h => kq h HP49.out.2.1
          clear hPx hTk hP4 hDa hDb PA PB hnp BP
          go_region_held3 (fun w' => Below V9.heap.size V9 w') (first
            | (with_reducible exact bd1 (Below.refl _ _))
            | (with_reducible exact bt (by assumption) hba)
            | (with_reducible assumption))
            (first
            | ((with_reducible refine (PA'.out _ (by with_reducible assumption)).mono ?_); rintro en wa ⟨sa, rfl, hda, hba⟩; have hbw : Below V9.heap.size V9 wa := bt (by with_reducible assumption) hba)
            | ((with_reducible refine (PB'.out _ (by with_reducible assumption)).mono ?_); rintro en wb ⟨sb, rfl, hdb, hba⟩; have hbw : Below V9.heap.size V9 wb := bt (by with_reducible assumption) hba; have hda2 := da_below hda hba)
            | ((with_reducible refine (SP.out _ _ _ hda2 hdb).mono ?_); rintro en wc ⟨rfl, hba⟩; have hbw : Below V9.heap.size V9 wc := bt (by with_reducible assumption) hba))
          have hPx := px_below HPX9.out hbw
          have hTk := t2_below HTK9.out hbw
          have hP4 := k4_below HP49.out hbw
          have hDa := da_below HDA9.out hbw
          have hDb := da_below HDB9.out hbw
          replace N2 := Lib.hid (fun V' h => N2.out V' (bt hbw h))
          clear x0' x1' x2' x3' x4' x5' y0' y1' hbw hba hda hdb hda2 HPX9 HTK9 HP49 HDA9 HDB9 PA' PB' SP
          generalize wc = Va at *
          obtain ⟨Wc, Hc, nc, Fc, er, hnc, CA, CB⟩ := BC.out
          have CA' := Lib.hid (CA Va hDa)
          have CB' := Lib.hid CB
          have HNC := Lib.hid hnc
          unfold BmC2 bv at CA' CB'
          obtain ⟨⟨x0, x1, x2⟩, x3, x4, x5⟩ := id hPx
          obtain ⟨y0, y1, y2, y3⟩ := id hP4
          clear CA CB hnc BC
          go_upto_region 12 with (fail)
          clear x3 x4 x5
          go_wp2_with fail
          clear x0 x1 x2 y0 y1 y2 y3
          with_reducible refine CA'.out.mono ?_
          rintro e Vc ⟨sc, rfl, hdc, hbc⟩
          have hB10 : Below Va.heap.size Va (Vc.alloc (.cells #[.int .i64 Wc, .int .i64 Hc, .slice sc nc nc] 28)) := bt hbc (ba (Below.refl _ _) _)
          have hS1 : BoxAt (Vc.alloc (.cells #[.int .i64 Wc, .int .i64 Hc, .slice sc nc nc] 28)) Vc.heap.size Wc Hc sc nc nc := ⟨by go_cell, by go_cell, by go_cell⟩
          replace hdc := da_below hdc (ba (Below.refl Vc.heap.size Vc) (.cells #[.int .i64 Wc, .int .i64 Hc, .slice sc nc nc] 28))
          replace hPx := px_below hPx hB10
          replace hTk := t2_below hTk hB10
          replace hP4 := k4_below hP4 hB10
          replace hDa := da_below hDa hB10
          replace hDb := da_below hDb hB10
          replace N2 := Lib.hid (fun V' h => N2.out V' (bt hB10 h))
          obtain ⟨⟨x0, x1, x2⟩, x3, x4, x5⟩ := id hPx
          obtain ⟨y0, y1, y2, y3⟩ := id hP4
          go_upto_region 13 with (fail)
          clear hbc hB10 CA' x3 x4 x5
          generalize (Vc.alloc (.cells #[.int .i64 Wc, .int .i64 Hc, .slice sc nc nc] 28)) = Vd0 at *
          generalize Vc.heap.size = b1 at *
          go_wp2_with fail
          clear x0 x1 x2 y0 y1 y2 y3
          with_reducible refine (CB'.out _ hDa).mono ?_
          rintro e Vd ⟨sd', rfl, hdd, hbd⟩
          have hB11 : Below Vd0.heap.size Vd0 (Vd.alloc (.cells #[.int .i64 Wc, .int .i64 Hc, .slice sd' nc nc] 28)) := bt hbd (ba (Below.refl _ _) _)
          have hS2 : BoxAt (Vd.alloc (.cells #[.int .i64 Wc, .int .i64 Hc, .slice sd' nc nc] 28)) Vd.heap.size Wc Hc sd' nc nc := ⟨by go_cell, by go_cell, by go_cell⟩
          replace hdd := da_below hdd (ba (Below.refl Vd.heap.size Vd) (.cells #[.int .i64 Wc, .int .i64 Hc, .slice sd' nc nc] 28))
          replace hdc := da_below hdc hB11
          replace hS1 := boxat_below hS1 hB11
          replace hPx := px_below hPx hB11
          replace hTk := t2_below hTk hB11
          replace hP4 := k4_below hP4 hB11
          replace hDa := da_below hDa hB11
          replace hDb := da_below hDb hB11
          replace N2 := Lib.hid (fun V' h => N2.out V' (bt hB11 h))
          go_upto_region 14 with (fail)
          clear hbd hB11 CB'
          generalize (Vd.alloc (.cells #[.int .i64 Wc, .int .i64 Hc, .slice sd' nc nc] 28)) = Ve at *
          generalize Vd.heap.size = b2 at *
          have SC := Lib.hid (rSame_any Wc Hc sc nc nc Fc Wc Hc sd' nc nc Fc (by have := HNC.out; omega) Ve hdc hdd)
          rw [sm_yes2] at SC
          unfold bv at SC
          obtain ⟨v0, v1, v2⟩ := hS1
          obtain ⟨w0, w1, w2⟩ := hS2
          go_upto_region 16 with ((with_reducible refine SC.out.mono ?_); rintro e Vf ⟨rfl, hbf⟩)
          replace hPx := px_below hPx hbf
          replace hTk := t2_below hTk hbf
          replace hP4 := k4_below hP4 hbf
          replace hDa := da_below hDa hbf
          replace hDb := da_below hDb hbf
          replace N2 := Lib.hid (fun V' h => N2.out V' (bt hbf h))
          clear hbf SC hdc hdd v0 v1 v2 w0 w1 w2 HNC
          obtain ⟨z0, z1⟩ := id hTk
          obtain ⟨y0, y1, y2, y3⟩ := id hP4
          go_wp2_with fail
          clear z0 z1 y0 y1 y2 y3 hTk
          have hB12 : Below Vf.heap.size Vf (Vf.alloc (.cells #[.int .i64 m0, .int .i64 m1, .int .i64 p2, .int .i64 p3, .int .i64 0, .int .i64 0] 48)) := ba (Below.refl _ _) _
          have RQ := Lib.hid (fun i hi => l2_lit Vf m0 m1 p2 p3 0 0 48 i hi)
          replace hPx := Lib.hid (px_below hPx hB12)
          replace hP4 := Lib.hid (k4_below hP4 hB12)
          replace hDa := Lib.hid (da_below hDa hB12)
          replace hDb := Lib.hid (da_below hDb hB12)
          replace N2 := Lib.hid (fun V' h => N2.out V' (bt hB12 h))
          clear hB12
          generalize (Vf.alloc (.cells #[.int .i64 m0, .int .i64 m1, .int .i64 p2, .int .i64 p3, .int .i64 0, .int .i64 0] 48)) = Vg at *
          generalize Vf.heap.size = b3 at *
          go_loopw [133] (fun v V => UpT Vg 3 v V) (fun v _ => 3 - (intOf v).toNat)
          case atStart => exact ⟨0, rfl, by omega, Below.refl _ _⟩
          case round =>
            obtain ⟨i, rfl, hi, hB13⟩ := hrel
            rename World => Vh
            rcases Nat.lt_or_ge i 3 with hi3 | hi3
            · obtain ⟨f0, f1, u0, u1⟩ := l2_below (RQ.out i hi3) hB13
              have i2 : (0 : Int) ≤ (i : Int) := by omega
              have i3 : (i : Int) < 3 := by omega
              have N3 : Hid (∀ V', Below Vh.heap.size Vh V' → UpT Vg 3 (.int .i64 ((i : Int) + 1)) V') := Lib.hid (fun V' h => ⟨i + 1, rfl, by omega, bt hB13 h⟩)
              have hPx := px_below hPx.out hB13
              have hP4 := k4_below hP4.out hB13
              have hDa := da_below hDa.out hB13
              have hDb := da_below hDb.out hB13
              clear hi
              go_upto_region 19 with (fail)
              have hB14 : Below Vh.heap.size Vh (Vh.alloc (.cells #[.int .i64 f0, .int .i64 f1] 48)) := ba (Below.refl _ _) _
              have hq0 : (Vh.alloc (.cells #[.int .i64 f0, .int .i64 f1] 48)).cell? ⟨Vh.heap.size, 0, none⟩ = some (.int .i64 f0) := by go_cell
              have hq1 : (Vh.alloc (.cells #[.int .i64 f0, .int .i64 f1] 48)).cell? ⟨Vh.heap.size, 1, none⟩ = some (.int .i64 f1) := by go_cell
              replace hPx := px_below hPx hB14
              replace hP4 := k4_below hP4 hB14
              replace hDa := da_below hDa hB14
              replace hDb := da_below hDb hB14
              replace N3 := Lib.hid (fun V' h => N3.out V' (bt hB14 h))
              clear u0 u1 hB14 hB13
              generalize (Vh.alloc (.cells #[.int .i64 f0, .int .i64 f1] 48)) = V10 at *
              generalize Vh.heap.size = b4 at *
              have OA := Lib.hid (fun W h => Only_any Wa Ha aa na ca fa Wb Hb ab nb cb fb p0 p1 f0 f1 W (da_below hDa h) (da_below hDb h))
              have OB' := Lib.hid (fun W h => rOnly_any Wa Ha aa na ca fa Wb Hb ab nb cb fb p0 p1 f0 f1 W (da_below hDa h) (da_below hDb h))
              generalize only Wa Ha na fa Wb Hb nb fb p0 p1 f0 f1 = z at *
              unfold bv at OA OB'
              have x0' : ∀ w', Below V10.heap.size V10 w' → w'.cell? ⟨Bx, 0, none⟩ = some (.int .i64 Wa) := fun _ h => kq h hPx.1.1
              have x1' : ∀ w', Below V10.heap.size V10 w' → w'.cell? ⟨Bx, 1, none⟩ = some (.int .i64 Ha) := fun _ h => kq h hPx.1.2.1
              have x2' : ∀ w', Below V10.heap.size V10 w' → w'.cell? ⟨Bx, 2, none⟩ = some (.slice aa na ca) := fun _ h => kq h hPx.1.2.2
              have x3' : ∀ w', Below V10.heap.size V10 w' → w'.cell? ⟨Bx, 3, none⟩ = some (.int .i64 Wb) := fun _ h => kq h hPx.2.1
              have x4' : ∀ w', Below V10.heap.size V10 w' → w'.cell? ⟨Bx, 4, none⟩ = some (.int .i64 Hb) := fun _ h => kq h hPx.2.2.1
              have x5' : ∀ w', Below V10.heap.size V10 w' → w'.cell? ⟨Bx, 5, none⟩ = some (.slice ab nb cb) := fun _ h => kq h hPx.2.2.2
              have y0' : ∀ w', Below V10.heap.size V10 w' → w'.cell? ⟨Bp, 0, none⟩ = some (.int .i64 p0) := fun _ h => kq h hP4.1
              have y1' : ∀ w', Below V10.heap.size V10 w' → w'.cell? ⟨Bp, 1, none⟩ = some (.int .i64 p1) := fun _ h => kq h hP4.2.1
              have z0' : ∀ w', Below V10.heap.size V10 w' → w'.cell? ⟨b4, 0, none⟩ = some (.int .i64 f0) := fun _ h => kq h hq0
              have z1' : ∀ w', Below V10.heap.size V10 w' → w'.cell? ⟨b4, 1, none⟩ = some (.int .i64 f1) := fun _ h => kq h hq1
              clear hPx hP4 hDa hDb hq0 hq1
              go_region_held3 (fun w' => Below V10.heap.size V10 w') (first
                | (with_reducible exact bd1 (Below.refl _ _))
                | (with_reducible exact bt (by assumption) hba)
                | (with_reducible assumption))
                (first
                | ((with_reducible refine (OA.out _ (by with_reducible assumption)).mono ?_); rintro en wa ⟨rfl, hba⟩; have hbw : Below V10.heap.size V10 wa := bt (by with_reducible assumption) hba)
                | ((with_reducible refine (OB'.out _ (by with_reducible assumption)).mono ?_); rintro en wb ⟨rfl, hba⟩; have hbw : Below V10.heap.size V10 wb := bt (by with_reducible assumption) hba))
              have R := Lib.hid (N3.out _ hbw)
              clear x0' x1' x2' x3' x4' x5' y0' y1' z0' z1' hbw hba OA OB' N3
              go_wp2_with fail
              exact ⟨R.out, by simp [intOf]; omega⟩
            · obtain rfl : i = 3 := by omega
              go_wp2_with fail
              exact ⟨N2.out _ hB13, by simp [intOf]; omega⟩
        · obtain rfl : j = 2 := by omega
          go_wp2_with fail
          exact ⟨NX.out _ hB8, by simp [intOf]; omega⟩
    · obtain rfl : k = 5 := by omega
      go_wp2_with fail
      go_ret
      exact ⟨rfl, bt h0 hB⟩
end Go.Proofs.Ytfkpodhkbcocmaa.Bm
