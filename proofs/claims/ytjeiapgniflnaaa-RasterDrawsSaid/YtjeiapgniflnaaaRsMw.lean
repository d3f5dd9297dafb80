/-
  Layer 7 (raster): RasterMoves, walked.
-/
import Derived.Test.YtjeiapgniflnaaaRsMm
import Derived.Test.YtjeiapgniflnaaaRsT
namespace Go.Proofs.Ytjeiapgniflnaaa.Rs
open Go.RowKit
open Go.Proofs.Ytjeiapgniflnaaa.Ot
open Go.Proofs.Ytjeiapgniflnaaa.Bm (bv DA da_below sm eqd)
/-- A picture, as a call of Dots returns it. -/
def PicC (u : Int) (N : Nat) (ns : Nat → Nat) (g : Nat → Nat → Pt) (Le Lo : Int) (W H n : Nat) (F : Nat → Bool) : Prop :=
  ∀ a c V, OT V a N ns g → Calls Try.prog 17 #[.slice a N c, .int .i64 u] V fun e w' => ∃ sa, e = .returned (.tuple #[.agg #[.int .i64 Le, .int .i64 Lo, .int .i64 (W : Int), .int .i64 (H : Int), .slice sa n n], .int .i64 0]) ∧ DA w' sa n F ∧ Below V.heap.size V w'
theorem picC_congr {u : Int} {N : Nat} {ns : Nat → Nat} {g g' : Nat → Nat → Pt} {Le Lo : Int} {W H n : Nat} {F : Nat → Bool} (h : PicC u N ns g Le Lo W H n F) (e : ∀ k, k < N → ∀ i, i < ns k → g' k i = g k i) : PicC u N ns g' Le Lo W H n F := fun a c V hO => h a c V (ot_congr hO e)
theorem mv_all {N : Nat} {ns : Nat → Nat} {g : Nat → Nat → Pt} {u v X Y : Int} (hok : ∀ j, j < N → okM (ns j) (g j)) (hN : N ≤ 4) (hu : Un u v) (hX : -1048576 ≤ X ∧ X ≤ 1048576) (hY : -1048576 ≤ Y ∧ Y ≤ 1048576) : ∃ (Le Lo Le' Lo' : Int) (W H n : Nat) (F : Nat → Bool),
    (-8 ≤ Le ∧ Le ≤ 14 ∧ -8 ≤ Lo ∧ Lo ≤ 14) ∧ n ≤ 100000 ∧ (pre ns N = 0 → Le' = 0 ∧ Lo' = 0 ∧ W = 0 ∧ H = 0 ∧ n = 0) ∧ (0 < pre ns N → Le' = Le + X ∧ Lo' = Lo + Y) ∧
    PicC u N ns g Le Lo W H n F ∧ PicC u N ns (fun k i => mvP 1 (u * X) (u * Y) (g k i)) Le' Lo' W H n F ∧ PicC (7 * u) N ns (fun k i => mvP 7 0 0 (g k i)) Le Lo W H n F := by
  have hu2 : 4 ≤ u ∧ u ≤ 16 := by have := hu.1; have := hu.2; omega
  have pX := prod2 (a := u) (b := X) (A := 16) (B := 1048576) (by omega) (by omega)
  have pY := prod2 (a := u) (b := Y) (A := 16) (B := 1048576) (by omega) (by omega)
  have f0 : Far u 1 0 0 := ⟨by omega, by omega, by omega, by omega, by omega⟩
  have f1 : Far u 1 X Y := ⟨by omega, hX, hY, by rw [Int.one_mul]; omega, by rw [Int.one_mul]; omega⟩
  have f7 : Far u 7 0 0 := ⟨by omega, by omega, by omega, by omega, by omega⟩
  have e0 : ∀ k, k < N → ∀ i, i < ns k → g k i = tmG 1 (1 * u * 0) (1 * u * 0) g k i := fun k hk i hi => by
    unfold tmG tmP
    simp only [Int.one_mul, Int.mul_zero, Int.add_zero]
  have e1 : ∀ k, k < N → ∀ i, i < ns k → mvP 1 (u * X) (u * Y) (g k i) = tmG 1 (1 * u * X) (1 * u * Y) g k i := fun k hk i hi => by
    obtain ⟨_, h1, h2, h3, h4⟩ := (hok k hk).2 i hi
    unfold tmG tmP mvP
    rw [Int.one_mul, Int.one_mul, Int.one_mul, w_id (x := (g k i).x) (by omega), w_id (x := (g k i).y) (by omega), w_id (by omega), w_id (by omega)]
  have e7 : ∀ k, k < N → ∀ i, i < ns k → mvP 7 0 0 (g k i) = tmG 7 (7 * u * 0) (7 * u * 0) g k i := fun k hk i hi => by
    obtain ⟨_, h1, h2, h3, h4⟩ := (hok k hk).2 i hi
    unfold tmG tmP mvP
    rw [Int.mul_zero, w_id (x := 7 * (g k i).x) (by omega), w_id (x := 7 * (g k i).y) (by omega), w_id (by omega), w_id (by omega)]
  rcases Nat.eq_zero_or_pos (pre ns N) with h0 | h0
  · have D : ∀ t X Y, Far u t X Y → PicC (t * u) N ns (tmG t (t * u * X) (t * u * Y) g) 0 0 0 0 0 (fun _ => false) := fun t X Y hf a c V hO => by
      refine (Dots_none a N c ns _ (t * u) (un_tu hu hf.t1).1 (ok_tmP hok hf.t1 hf.x2 hf.y2) h0 (by omega) V hO).mono ?_
      rintro e w' ⟨sa, h1, h2⟩
      exact ⟨sa, h1, fun i hi => absurd hi (by omega), h2⟩
    have D0 := D 1 0 0 f0
    have D1 := D 1 X Y f1
    have D7 := D 7 0 0 f7
    rw [Int.one_mul] at D0 D1
    refine ⟨0, 0, 0, 0, 0, 0, 0, fun _ => false, by omega, by omega, fun _ => ⟨rfl, rfl, rfl, rfl, rfl⟩, fun h => absurd h (by omega), picC_congr D0 (fun k hk i hi => ?_), picC_congr D1 (fun k hk i hi => ?_), picC_congr D7 (fun k hk i hi => e7 k hk i hi)⟩
    · have := e0 k hk i hi
      rwa [Int.one_mul] at this
    · have := e1 k hk i hi
      rwa [Int.one_mul] at this
  · obtain ⟨Le, Lo, W, H, n, F, hb, hn, D⟩ := Dots_mv hok hN hu h0
    have D0 : PicC (1 * u) N ns (tmG 1 (1 * u * 0) (1 * u * 0) g) (Le + 0) (Lo + 0) W H n F := D 1 0 0 f0
    have D1 : PicC (1 * u) N ns (tmG 1 (1 * u * X) (1 * u * Y) g) (Le + X) (Lo + Y) W H n F := D 1 X Y f1
    have D7 : PicC (7 * u) N ns (tmG 7 (7 * u * 0) (7 * u * 0) g) (Le + 0) (Lo + 0) W H n F := D 7 0 0 f7
    rw [Int.one_mul] at D0 D1
    rw [Int.add_zero, Int.add_zero] at D0 D7
    refine ⟨Le, Lo, Le + X, Lo + Y, W, H, n, F, hb, hn, fun h => absurd h (by omega), fun _ => ⟨rfl, rfl⟩, picC_congr D0 (fun k hk i hi => ?_), picC_congr D1 (fun k hk i hi => ?_), picC_congr D7 (fun k hk i hi => e7 k hk i hi)⟩
    · have := e0 k hk i hi
      rwa [Int.one_mul] at this
    · have := e1 k hk i hi
      rwa [Int.one_mul] at this
theorem ps_yes (Le Lo W H : Int) (n : Nat) (F : Nat → Bool) : ps Le Lo W H n F Le Lo W H n F = true := by
  unfold ps Bm.sm Bm.eqd
  simp
theorem sm_yes (W H : Int) (n : Nat) (F : Nat → Bool) : Bm.sm W H n F W H n F = true := by
  unfold Bm.sm Bm.eqd
  simp
theorem pre_dec (ns : Nat → Nat) (k : Nat) : decide (pre ns (k + 1) = 0) = (decide (pre ns k = 0) && decide (ns k = 0)) := by
  rw [pre, ← Bool.decide_and, decide_eq_decide]
  omega
def NR (V0 : World) (m : Nat) (ns : Nat → Nat) (s18 s86 : Value) (V : World) : Prop := ∃ k : Nat, s86 = .int .i64 (k : Int) ∧ k ≤ m ∧ s18 = .bool (decide (pre ns k = 0)) ∧ V0 = V
theorem tmod_in (a : Int) : -1048576 ≤ a.tmod 1048576 ∧ a.tmod 1048576 ≤ 1048576 := by
  have h1 := Int.tmod_lt_of_pos a (show (0 : Int) < 1048576 by omega)
  have h2 := Int.lt_tmod_of_pos a (show (0 : Int) < 1048576 by omega)
  omega
set_option maxRecDepth 100000 in
set_option maxHeartbeats 16000000 in
theorem Moves_any (la : Option Addr) (lN lc : Nat) (L : Nat → Nat) (l : Nat → Nat → Int) (un a0 a1 : Int) (ru : R64 un) (w : World) (hL : LX w la lN L l) :
    Calls Try.prog 6 #[.slice la lN lc, .int .i64 un, .agg #[.int .i64 a0, .int .i64 a1]] w fun e w' => e = .returned (.bool true) ∧ Below w.heap.size w w' := by
  have MD := Lib.hid (fun V h => Made_any la lN lc L l V (lx_below hL h))
  have M0 := Lib.hid (fun V => Ax.mod_any un 4 ru (by omega) V)
  have hb0 : Below w.heap.size w (w.alloc (.cells #[.int .i64 a0, .int .i64 a1] 46)) := ba (Below.refl _ _) _
  have x0 : (w.alloc (.cells #[.int .i64 a0, .int .i64 a1] 46)).cell? ⟨w.heap.size, 0, none⟩ = some (.int .i64 a0) := by go_cell
  have x1 : (w.alloc (.cells #[.int .i64 a0, .int .i64 a1] 46)).cell? ⟨w.heap.size, 1, none⟩ = some (.int .i64 a1) := by go_cell
  clear hL ru
  go_enter Try.func6, Try.ntmps6
  go_wp2_with fail
  with_reducible refine (sanity_any _).mono ?_
  rintro e V1 ⟨rfl, h1⟩
  replace x0 := kc h1 x0
  replace x1 := kc h1 x1
  replace hb0 := bt hb0 h1
  clear h1
  go_wp2_with fail
  with_reducible refine (MD.out _ hb0).mono ?_
  rintro e V3 ⟨v3, xs3, ns, B3, g, rfl, hM, hok⟩
  obtain ⟨a3, c3, S3, rfl, n1, n2, ha3, hO3, _⟩ := mo_oo hM
  have h3 := hM.be
  have hO3' := oo_ot2 hO3 ha3
  replace x0 := kc h3 x0
  replace x1 := kc h3 x1
  replace hb0 := bt hb0 h3
  clear h3 hM hO3 ha3 MD
  have m4 : min lN 4 ≤ 4 := by omega
  generalize min lN 4 = m at *
  have hun : Un (4 + un % 4 * 4) (un % 4 + 1) := ⟨by omega, by omega, by omega⟩
  have hX := tmod_in a0
  have hY := tmod_in a1
  obtain ⟨Le, Lo, Le', Lo', W, H, n, F, hbd, hn, hz, hp, P0, P1, P7⟩ := mv_all hok m4 hun hX hY
  have HNS : Hid (∀ k, k < m → ns k ≤ 8) := Lib.hid (fun k hk => (hok k hk).1)
  have HBD := Lib.hid (And.intro hbd (And.intro hX hY))
  have HZP := Lib.hid (And.intro hn (And.intro hz hp))
  have HP := Lib.hid (And.intro P0 (And.intro P1 P7))
  have HUN := Lib.hid hun
  have HO := Lib.hid hO3'
  clear hok hbd hn hz hp P0 P1 P7 hun hX hY hO3'
  go_wp2_with fail
  with_reducible refine (M0.out _).mono ?_
  rintro e V4 ⟨rfl, rfl⟩
  generalize un % 4 + 1 = v at *
  go_upto_region 6 with (fail)
  have hu2 : 4 ≤ 4 + un % 4 * 4 ∧ 4 + un % 4 * 4 ≤ 16 := by omega
  generalize 4 + un % 4 * 4 = u at *
  generalize a0.tmod 1048576 = X at *
  generalize a1.tmod 1048576 = Y at *
  have uw : wrap64 (u * X) = u * X ∧ wrap64 (u * Y) = u * Y ∧ wrap64 (7 * u) = 7 * u := by
    obtain ⟨_, h1, h2⟩ := HBD.out
    have p1 := prod2 (a := u) (b := X) (A := 16) (B := 1048576) (by omega) (by omega)
    have p2 := prod2 (a := u) (b := Y) (A := 16) (B := 1048576) (by omega) (by omega)
    exact ⟨w_id (by omega), w_id (by omega), w_id (by omega)⟩
  obtain ⟨uw1, uw2, uw3⟩ := uw
  clear hu2 x0 x1 M0
  have hB4 := Lib.hid hb0
  have C1 := Lib.hid (HP.out.1 a3 c3 V4 HO.out)
  clear hb0
  go_upto_region 7 with ((with_reducible refine C1.out.mono ?_); rintro e V5 ⟨sa, rfl, hD5, hB5⟩)
  have hB6 := bt hB5 (ba (Below.refl V5.heap.size V5) (.cells #[.int .i64 Le, .int .i64 Lo, .int .i64 (W : Int), .int .i64 (H : Int), .slice sa n n] 40))
  have hA6 := pic_new V5 Le Lo W H sa n 40
  have hD6 := da_below hD5 (ba (Below.refl V5.heap.size V5) (.cells #[.int .i64 Le, .int .i64 Lo, .int .i64 (W : Int), .int .i64 (H : Int), .slice sa n n] 40))
  clear hB5 hD5 C1
  generalize V5.alloc (.cells #[.int .i64 Le, .int .i64 Lo, .int .i64 (W : Int), .int .i64 (H : Int), .slice sa n n] 40) = V6 at *
  generalize V5.heap.size = bA at *
  have M1 := Lib.hid (Moved_any a3 m c3 ns g 1 (u * X) (u * Y) (by omega) (fun k hk => by have := HNS.out k hk; omega) V6 (ot_below HO.out hB6))
  have HB6 := Lib.hid (And.intro hB6 (And.intro hA6 hD6))
  clear hB6 hA6 hD6
  go_wp2_with fail
  with_reducible refine M1.out.mono ?_
  rintro e V7 ⟨v7, xs7, B7, rfl, hM⟩
  obtain ⟨a7, c7, S7, rfl, _, _, ha7, hO7, _⟩ := mo_oo hM
  have h7 := Lib.hid hM.be
  have C2 := Lib.hid (HP.out.2.1 a7 c7 V7 (oo_ot2 hO7 ha7))
  clear hM hO7 ha7 M1
  go_upto_region 8 with ((with_reducible refine C2.out.mono ?_); rintro e V8 ⟨sb, rfl, hD8, hB8⟩)
  have hA8 := pic_new V8 Le' Lo' W H sb n 40
  have hD9 := da_below hD8 (ba (Below.refl V8.heap.size V8) (.cells #[.int .i64 Le', .int .i64 Lo', .int .i64 (W : Int), .int .i64 (H : Int), .slice sb n n] 40))
  have hB9 := bt (bt h7.out hB8) (ba (Below.refl V8.heap.size V8) (.cells #[.int .i64 Le', .int .i64 Lo', .int .i64 (W : Int), .int .i64 (H : Int), .slice sb n n] 40))
  have hA9 := pic_below HB6.out.2.1 hB9
  have hDA9 := da_below HB6.out.2.2 hB9
  have hB10 := bt HB6.out.1 hB9
  clear hD8 hB8 hB9 h7 C2 HB6
  generalize V8.alloc (.cells #[.int .i64 Le', .int .i64 Lo', .int .i64 (W : Int), .int .i64 (H : Int), .slice sb n n] 40) = V9 at *
  generalize V8.heap.size = bB at *
  have M7 := Lib.hid (Moved_any a3 m c3 ns g 7 0 0 (by omega) (fun k hk => by have := HNS.out k hk; omega) V9 (ot_below HO.out hB10))
  have HB9 := Lib.hid (And.intro hB10 (And.intro hA9 (And.intro hDA9 (And.intro hA8 hD9))))
  clear hB10 hA9 hDA9 hA8 hD9
  go_wp2_with fail
  with_reducible refine M7.out.mono ?_
  rintro e V10 ⟨v8, xs8, B8, rfl, hM⟩
  obtain ⟨a8, c8, S8, rfl, _, _, ha8, hO8, _⟩ := mo_oo hM
  have h10 := Lib.hid hM.be
  have C7 := Lib.hid (HP.out.2.2 a8 c8 V10 (oo_ot2 hO8 ha8))
  clear hM hO8 ha8 M7
  go_upto_region 9 with ((with_reducible refine C7.out.mono ?_); rintro e V11 ⟨sc, rfl, hD11, hB11⟩)
  have hC12 := pic_new V11 Le Lo W H sc n 40
  have hDC := da_below hD11 (ba (Below.refl V11.heap.size V11) (.cells #[.int .i64 Le, .int .i64 Lo, .int .i64 (W : Int), .int .i64 (H : Int), .slice sc n n] 40))
  have hB12 := bt (bt h10.out hB11) (ba (Below.refl V11.heap.size V11) (.cells #[.int .i64 Le, .int .i64 Lo, .int .i64 (W : Int), .int .i64 (H : Int), .slice sc n n] 40))
  obtain ⟨g1, g2, g3, g4, g5⟩ := HB9.out
  have hA := pic_below g2 hB12
  have hDA := da_below g3 hB12
  have hBp := pic_below g4 hB12
  have hDB := da_below g5 hB12
  have hBw := Lib.hid (bt hB4.out (bt g1 hB12))
  have HO12 := Lib.hid (ot_below HO.out (bt g1 hB12))
  clear hD11 hB11 h10 C7 HB9 g1 g2 g3 g4 g5 hB12 hB4 HO
  generalize V11.alloc (.cells #[.int .i64 Le, .int .i64 Lo, .int .i64 (W : Int), .int .i64 (H : Int), .slice sc n n] 40) = V12 at *
  generalize V11.heap.size = bC at *
  have S1 : Hid (Calls Try.prog 19 #[.agg #[.int .i64 Le, .int .i64 Lo, .int .i64 (W : Int), .int .i64 (H : Int), .slice sa n n], .agg #[.int .i64 Le, .int .i64 Lo, .int .i64 (W : Int), .int .i64 (H : Int), .slice sc n n]] V12 fun e w' => e = .returned (.bool true) ∧ Below V12.heap.size V12 w') := Lib.hid (by
    rw [← ps_yes Le Lo (W : Int) (H : Int) n F]
    exact pSame_any Le Lo W H sa n n F Le Lo W H sc n n F (by have := HZP.out.1; omega) V12 hDA hDC)
  have S2 : Hid (∀ V, Below V12.heap.size V12 V → Calls Try.prog 21 #[.agg #[.int .i64 (W : Int), .int .i64 (H : Int), .slice sa n n], .agg #[.int .i64 (W : Int), .int .i64 (H : Int), .slice sb n n]] V fun e w' => e = .returned (.bool true) ∧ Below V.heap.size V w') := Lib.hid (fun V h => by
    rw [← sm_yes (W : Int) (H : Int) n F]
    exact Bm.rSame_any W H sa n n F W H sb n n F (by have := HZP.out.1; omega) V (da_below hDA h) (da_below hDB h))
  have HPP := Lib.hid (And.intro hA (And.intro hBp hDB))
  obtain ⟨t0, t1, t2, t3, t4⟩ := hA
  obtain ⟨r0, r1, r2, r3, r4⟩ := hBp
  obtain ⟨s0, s1, s2, s3, s4⟩ := hC12
  clear hDA hDB hDC uw1 uw2 uw3
  have CC : Hid (∀ V, Below V12.heap.size V12 V → PicAt V bA Le Lo W H sa n ∧ PicAt V bB Le' Lo' W H sb n) := Lib.hid (fun V h => ⟨pic_below HPP.out.1 h, pic_below HPP.out.2.1 h⟩)
  go_wp2_with (first
    | ((with_reducible refine S1.out.mono ?_); rintro e v1 ⟨rfl, hv1⟩; obtain ⟨⟨y0, y1, y2, y3, y4⟩, z0, z1, z2, z3, z4⟩ := CC.out _ hv1)
    | ((with_reducible refine (S2.out _ hv1).mono ?_); rintro e v2 ⟨rfl, hv2⟩))
  have hV2 := bt hv1 hv2
  have HOe := Lib.hid (ot_below HO12.out hV2)
  have HCe := Lib.hid (CC.out _ hV2)
  have HBe := Lib.hid (bt hBw.out hV2)
  have HDe := Lib.hid (da_below HPP.out.2.2 hV2)
  clear hv1 hv2 hV2 HO12 CC hBw HPP S1 S2 t0 t1 t2 t3 t4 r0 r1 r2 r3 r4 s0 s1 s2 s3 s4 y0 y1 y2 y3 y4 z0 z1 z2 z3 z4
  go_loopw [18, 86] (fun s18 s86 V => NR v2 m ns s18 s86 V) (fun _ s86 _ => m - (intOf s86).toNat)
  case atStart => exact ⟨0, rfl, by omega, rfl, rfl⟩
  case round =>
    obtain ⟨k, rfl, hk, rfl, rfl⟩ := hrel
    rcases Nat.lt_or_ge k m with hkm | hkm
    · obtain ⟨b, off, a', c', rfl, hc, h1, h2, _⟩ := HOe.out k hkm
      have k2 := nat0 k
      have k3 := natlt hkm
      have k6 : (k : Int) < 4 := by omega
      have hd := pre_dec ns k
      have NX : Hid (∀ q, decide (pre ns (k + 1) = 0) = q → NR v2 m ns (.bool q) (.int .i64 ((k : Int) + 1)) v2) := Lib.hid (fun q h => ⟨k + 1, rfl, hkm, by rw [h], rfl⟩)
      have hlt := ltn' hkm
      clear h1 h2 hk
      generalize decide (pre ns (k + 1) = 0) = d1 at *
      generalize decide (pre ns k = 0) = d0 at *
      generalize ns k = q at *
      rcases d0 with _ | _
      · have R := Lib.hid (NX.out false (by rw [hd, Bool.false_and]))
        clear NX hd
        go_wp2_with fail
        exact ⟨R.out, hlt⟩
      · rcases Nat.eq_zero_or_pos q with h0 | h0
        · subst h0
          have R := Lib.hid (NX.out true (by rw [hd]; rfl))
          clear NX hd
          go_wp2_with fail
          exact ⟨R.out, hlt⟩
        · have R := Lib.hid (NX.out false (by rw [hd, Bool.true_and, decide_eq_false (by omega)]))
          obtain ⟨n8, n7⟩ := nne h0
          clear NX hd
          go_wp2_with fail
          exact ⟨R.out, hlt⟩
    · obtain rfl : k = m := by omega
      obtain ⟨⟨y0, y1, y2, y3, y4⟩, z0, z1, z2, z3, z4⟩ := HCe.out
      rcases Nat.eq_zero_or_pos (pre ns k) with h0 | h0
      · obtain ⟨rfl, rfl, rfl, rfl, rfl⟩ := HZP.out.2.1 h0
        have S3 : Hid (Calls Try.prog 19 #[.agg #[.int .i64 0, .int .i64 0, .int .i64 0, .int .i64 0, .slice sb 0 0], .agg #[.int .i64 0, .int .i64 0, .int .i64 0, .int .i64 0, .slice none 0 0]] v2 fun e w' => e = .returned (.bool true) ∧ Below v2.heap.size v2 w') := Lib.hid (by
          rw [← ps_yes 0 0 0 0 0 F]
          exact pSame_any 0 0 0 0 sb 0 0 F 0 0 0 0 none 0 0 F (by omega) v2 (fun i hi => absurd hi (by omega)) (fun i hi => absurd hi (by omega)))
        have z2' : v2.cell? ⟨bB, 2, none⟩ = some (.int .i64 0) := z2
        have z3' : v2.cell? ⟨bB, 3, none⟩ = some (.int .i64 0) := z3
        rw [decide_eq_true h0]
        clear y0 y1 y2 y3 y4 z2 z3
        go_wp2_with ((with_reducible refine S3.out.mono ?_); rintro e v3 ⟨rfl, hv3⟩)
        go_ret
        exact ⟨rfl, bt HBe.out hv3⟩
      · obtain ⟨e1, e2⟩ := HZP.out.2.2 h0
        have w1 : wrap64 (Le + X) = Le' := by rw [e1]; exact w_id (by have := HBD.out; omega)
        have w2 : wrap64 (Lo + Y) = Lo' := by rw [e2]; exact w_id (by have := HBD.out; omega)
        rw [decide_eq_false (show ¬ pre ns k = 0 by omega)]
        clear e1 e2
        go_wp2_with fail
        go_ret
        exact ⟨rfl, HBe.out⟩
end Go.Proofs.Ytjeiapgniflnaaa.Rs
