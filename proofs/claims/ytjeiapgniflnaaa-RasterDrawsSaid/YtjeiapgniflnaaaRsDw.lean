/-
  Layer 7 (raster): RasterDraws of the law.
-/
import Derived.Test.YtjeiapgniflnaaaRsDd
import Derived.Test.YtjeiapgniflnaaaRsU
namespace Go.Proofs.Ytjeiapgniflnaaa.Rs
open Go.RowKit
open Go.Proofs.Ytjeiapgniflnaaa.Ot
open Go.Proofs.Ytjeiapgniflnaaa.Bm (bv DA da_below)
theorem u4_lit (V : World) (x y z t : Int) (T : TypeId) (j : Nat) (hj : j < 4) : ∃ u : Int, (V.alloc (.cells #[.int .i64 x, .int .i64 y, .int .i64 z, .int .i64 t] T)).cell? ⟨V.heap.size, j, none⟩ = some (.int .i64 u) := by
  obtain rfl | rfl | rfl | rfl := four4 hj
  · exact ⟨x, by go_cell⟩
  · exact ⟨y, by go_cell⟩
  · exact ⟨z, by go_cell⟩
  · exact ⟨t, by go_cell⟩
set_option maxRecDepth 100000 in
set_option maxHeartbeats 16000000 in
theorem Draws_any (la : Option Addr) (lN lc : Nat) (L : Nat → Nat) (l : Nat → Nat → Int) (ra : Option Addr) (rN rc : Nat) (rns : Nat → Nat) (rg : Nat → Nat → Pt) (un : Int) (ru : R64 un) (w : World) (hL : LX w la lN L l) (hA : OT w ra rN rns rg) :
    Calls Try.prog 4 #[.slice la lN lc, .slice ra rN rc, .int .i64 un] w fun e w' => e = .returned (.bool true) ∧ Below w.heap.size w w' := by
  have CT := Lib.hid (fun V h => cut_any ra rN rc rns rg V (ot_below hA h))
  have MD := Lib.hid (fun V h => Made_any la lN lc L l V (lx_below hL h))
  have M0 := Lib.hid (fun V => Ax.mod_any un 10 ru (by omega) V)
  clear hA hL ru
  go_enter Try.func4, Try.ntmps4
  go_wp2_with fail
  with_reducible refine (sanity_any _).mono ?_
  rintro e V1 ⟨rfl, hb0⟩
  go_wp2_with fail
  with_reducible refine (MD.out _ hb0).mono ?_
  rintro e V3 ⟨v3, xs3, ns3, B3, g3, rfl, hM, hok⟩
  obtain ⟨a3, c3, S3, rfl, _, _, ha3, hO3, _⟩ := mo_oo hM
  have h3 := hM.be
  have hO3' := oo_ot2 hO3 ha3
  replace hb0 := bt hb0 h3
  clear h3 hM hO3 ha3 MD
  have MV := Lib.hid (Moved_any a3 (min lN 4) c3 ns3 g3 3 1073741424 5 (by omega) (fun k hk => by have := (hok k hk).1; omega) V3 hO3')
  go_wp2_with fail
  with_reducible refine MV.out.mono ?_
  rintro e V4 ⟨v4, xs4, B4, rfl, hM⟩
  obtain ⟨a4, c4, S4, rfl, _, _, ha4, hO4, _⟩ := mo_oo hM
  have h3 := hM.be
  have hO4' := oo_ot2 hO4 ha4
  replace hO3' := ot_below hO3' h3
  replace hb0 := bt hb0 h3
  clear h3 hM hO4 ha4 MV
  go_wp2_with fail
  with_reducible refine (CT.out _ hb0).mono ?_
  rintro e V5 ⟨v2, xs2, rfl, hF⟩
  obtain ⟨a2, c2, rfl, _, _, hO2⟩ := fw_ot hF
  have h2 := hF.be
  replace hO3' := ot_below hO3' h2
  replace hO4' := ot_below hO4' h2
  replace hb0 := bt hb0 h2
  clear h2 hF CT
  have hB6 : Below V5.heap.size V5 (V5.alloc (.cells #[.slice a3 (min lN 4) c3, .slice a4 (min lN 4) c4, .slice a2 (min rN 4) c2] 23)) := ba (Below.refl _ _) _
  have R1 : ∀ j, j < 3 → WnAt (V5.alloc (.cells #[.slice a3 (min lN 4) c3, .slice a4 (min lN 4) c4, .slice a2 (min rN 4) c2] 23)) V5.heap.size j := fun j hj => by
    obtain rfl | rfl | rfl : j = 0 ∨ j = 1 ∨ j = 2 := by omega
    · exact ⟨a3, _, c3, _, _, by go_cell, by omega, fun j hj => by have := (hok j hj).1; omega, ot_below hO3' hB6⟩
    · exact ⟨a4, _, c4, _, _, by go_cell, by omega, fun j hj => by have := (hok j hj).1; omega, ot_below hO4' hB6⟩
    · exact ⟨a2, _, c2, _, _, by go_cell, by omega, fun j _ => by unfold fwN; omega, ot_below hO2 hB6⟩
  replace hb0 := bt hb0 hB6
  clear hok hO2 hO3' hO4' hB6
  go_wp2_with fail
  generalize (V5.alloc (.cells #[.slice a3 (min lN 4) c3, .slice a4 (min lN 4) c4, .slice a2 (min rN 4) c2] 23)) = V6 at *
  generalize V5.heap.size = Ba at *
  generalize min lN 4 = m2 at *
  generalize min rN 4 = m3 at *
  have RR := Lib.hid R1
  clear R1
  go_loopw [27] (fun v V => UpTo V6 3 v V) (fun v _ => 3 - (intOf v).toNat)
  case atStart => exact ⟨0, rfl, by omega, Below.refl _ _⟩
  case round =>
    obtain ⟨k, rfl, hk, hB⟩ := hrel
    rename World => V
    rcases Nat.lt_or_ge k 3 with hk3 | hk3
    · obtain ⟨a, N, c, ns, g, hc, hN, hns, hO⟩ := wnat_below (RR.out k hk3) hB
      have k2 : (0 : Int) ≤ (k : Int) := by omega
      have k3 : (k : Int) < 3 := by omega
      have NX : Hid (∀ V', Below V.heap.size V V' → UpTo V6 3 (.int .i64 ((k : Int) + 1)) V') := Lib.hid (fun V' h => ⟨k + 1, rfl, by omega, bt hB h⟩)
      have HO : Hid (∀ W, Below V.heap.size V W → OT W a N ns g) := Lib.hid (fun W h => ot_below hO h)
      have DB := Lib.hid (fun u => draws_both N ns g u hN hns)
      clear hO hN hns hk
      go_wp2_with ((with_reducible refine (M0.out _).mono ?_); rintro e V ⟨rfl, rfl⟩)
      have P4 : Hid (∀ j, j < 4 → ∃ u : Int, (V.alloc (.cells #[.int .i64 un, .int .i64 (un % 10 * 4), .int .i64 8, .int .i64 12] 3)).cell? ⟨V.heap.size, j, none⟩ = some (.int .i64 u)) := Lib.hid (fun j hj => u4_lit V _ _ _ _ _ j hj)
      have hBl : Below V.heap.size V (V.alloc (.cells #[.int .i64 un, .int .i64 (un % 10 * 4), .int .i64 8, .int .i64 12] 3)) := ba (Below.refl _ _) _
      clear hc
      generalize (V.alloc (.cells #[.int .i64 un, .int .i64 (un % 10 * 4), .int .i64 8, .int .i64 12] 3)) = V7 at *
      go_loopw [37] (fun v V' => UpTo V7 4 v V') (fun v _ => 4 - (intOf v).toNat)
      case atStart => exact ⟨0, rfl, by omega, Below.refl _ _⟩
      case round =>
        obtain ⟨j, rfl, hj, hB8⟩ := hrel
        rename World => V8
        rcases Nat.lt_or_ge j 4 with hj4 | hj4
        · obtain ⟨u, hu⟩ := P4.out j hj4
          replace hu := kc hB8 hu
          have j2 : (0 : Int) ≤ (j : Int) := by omega
          have j3 : (j : Int) < 4 := by omega
          obtain ⟨Le, Lo, W, H, n, F, er, hn, P, Q⟩ := DB.out u
          have HO8 := HO.out _ (bt hBl hB8)
          have C1 := Lib.hid (P a c V8 HO8)
          have C2 := Lib.hid (fun V' h => Q a c V' (ot_below HO8 h))
          have N2 : Hid (∀ V', Below V8.heap.size V8 V' → UpTo V7 4 (.int .i64 ((j : Int) + 1)) V') := Lib.hid (fun V' h => ⟨j + 1, rfl, by omega, bt hB8 h⟩)
          have Hn := Lib.hid hn
          have HBk := Lib.hid (And.intro hBl (And.intro hB hB8))
          clear P Q HO8 hn
          go_upto_region 10 with ((with_reducible refine C1.out.mono ?_); rintro e V9 ⟨sa, rfl, hD9, hB9⟩)
          have hB10 := bt hB9 (ba (Below.refl V9.heap.size V9) (.cells #[.int .i64 Le, .int .i64 Lo, .int .i64 (W : Int), .int .i64 (H : Int), .slice sa n n] 40))
          have hA10 := pic_new V9 Le Lo W H sa n 40
          have hD10 := da_below hD9 (ba (Below.refl V9.heap.size V9) (.cells #[.int .i64 Le, .int .i64 Lo, .int .i64 (W : Int), .int .i64 (H : Int), .slice sa n n] 40))
          clear hD9 hB9 C1 hu
          generalize V9.alloc (.cells #[.int .i64 Le, .int .i64 Lo, .int .i64 (W : Int), .int .i64 (H : Int), .slice sa n n] 40) = V10 at *
          generalize V9.heap.size = bA at *
          have D2 := Lib.hid (C2.out _ hB10)
          go_upto_region 11 with ((with_reducible refine D2.out.mono ?_); rintro e V11 ⟨sb, rfl, hD11, hB11⟩)
          have hB12 := bt hB11 (ba (Below.refl V11.heap.size V11) (.cells #[.int .i64 Le, .int .i64 Lo, .int .i64 (W : Int), .int .i64 (H : Int), .slice sb n n] 40))
          have hA12 := pic_new V11 Le Lo W H sb n 40
          have hD12 := da_below hD11 (ba (Below.refl V11.heap.size V11) (.cells #[.int .i64 Le, .int .i64 Lo, .int .i64 (W : Int), .int .i64 (H : Int), .slice sb n n] 40))
          have hA := pic_below hA10 hB12
          have hDA := da_below hD10 hB12
          have R := Lib.hid (fun V' h => N2.out V' (bt (bt hB10 hB12) h))
          clear hD11 hB11 hB12 hB10 hA10 hD10 D2 C2 N2
          generalize V11.alloc (.cells #[.int .i64 Le, .int .i64 Lo, .int .i64 (W : Int), .int .i64 (H : Int), .slice sb n n] 40) = V12 at *
          generalize V11.heap.size = bB at *
          have S1 : Hid (Calls Try.prog 19 #[.agg #[.int .i64 Le, .int .i64 Lo, .int .i64 (W : Int), .int .i64 (H : Int), .slice sa n n], .agg #[.int .i64 Le, .int .i64 Lo, .int .i64 (W : Int), .int .i64 (H : Int), .slice sb n n]] V12 fun e w' => e = .returned (.bool true) ∧ Below V12.heap.size V12 w') := Lib.hid (by
            rw [← ps_yes Le Lo (W : Int) (H : Int) n F]
            exact pSame_any Le Lo W H sa n n F Le Lo W H sb n n F (by have := Hn.out; omega) V12 hDA hD12)
          obtain ⟨t0, t1, t2, t3, t4⟩ := hA
          obtain ⟨r0, r1, r2, r3, r4⟩ := hA12
          clear hDA hD12
          go_wp2_with ((with_reducible refine S1.out.mono ?_); rintro e v1 ⟨rfl, hv1⟩)
          exact ⟨R.out _ hv1, by simp [intOf]; omega⟩
        · obtain rfl : j = 4 := by omega
          go_wp2_with fail
          exact ⟨NX.out _ (bt hBl hB8), by simp [intOf]; omega⟩
    · obtain rfl : k = 3 := by omega
      go_wp2_with fail
      go_ret
      exact ⟨rfl, bt hb0 hB⟩
end Go.Proofs.Ytjeiapgniflnaaa.Rs
