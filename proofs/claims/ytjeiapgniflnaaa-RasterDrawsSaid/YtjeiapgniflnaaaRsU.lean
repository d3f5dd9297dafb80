/-
  Layer 7 (raster): RasterWinds, walked.
-/
import Derived.Test.YtjeiapgniflnaaaRsT
import Derived.Test.YtjeiapgniflnaaaRsQ
import Derived.Test.YtjeiapgniflnaaaRsP
namespace Go.Proofs.Ytjeiapgniflnaaa.Rs
open Go.RowKit
open Go.Proofs.Ytjeiapgniflnaaa.Ot
theorem pre_le {ns : Nat → Nat} {b : Nat} : ∀ {N : Nat}, (∀ k, k < N → ns k ≤ b) → pre ns N ≤ N * b
  | 0, _ => by unfold pre; omega
  | N + 1, h => by
    have h1 := pre_le (ns := ns) (b := b) (N := N) (fun k hk => h k (by omega))
    have h2 := h N (by omega)
    unfold pre
    rw [Nat.succ_mul]
    omega
/-- An outline in a cell, small enough. -/
def WnAt (V : World) (b k : Nat) : Prop := ∃ (a : Option Addr) (N c : Nat) (ns : Nat → Nat) (g : Nat → Nat → Pt), V.cell? ⟨b, k, none⟩ = some (.slice a N c) ∧ N ≤ 4 ∧ (∀ j, j < N → ns j ≤ 12) ∧ OT V a N ns g
theorem wnat_below {V W : World} {b k : Nat} (h : WnAt V b k) (hB : Below V.heap.size V W) : WnAt W b k := by
  obtain ⟨a, N, c, ns, g, h1, h2, h3, h4⟩ := h
  exact ⟨a, N, c, ns, g, kc hB h1, h2, h3, ot_below h4 hB⟩
/-- Three numbers in memory. -/
def Z3 (V : World) (b o : Nat) : Prop := ∃ x y z : Int, V.cell? ⟨b, o, none⟩ = some (.int .i64 x) ∧ V.cell? ⟨b, o + 1, none⟩ = some (.int .i64 y) ∧ V.cell? ⟨b, o + 2, none⟩ = some (.int .i64 z)
theorem z3_below {V W : World} {b o : Nat} (h : Z3 V b o) (hB : Below V.heap.size V W) : Z3 W b o := by
  obtain ⟨x, y, z, h1, h2, h3⟩ := h
  exact ⟨x, y, z, kc hB h1, kc hB h2, kc hB h3⟩
def Small (V : World) (s : Value) (W : World) : Prop := ∃ B, s = .pointer (some ⟨B, 0, none⟩) ∧ Z3 W B 0 ∧ Below V.heap.size V W
theorem small_set (V : World) (x y z : Int) (T : TypeId) : Small V (.pointer (some ⟨V.heap.size, 0, none⟩)) (V.alloc (.cells #[.int .i64 x, .int .i64 y, .int .i64 z] T)).drew :=
  ⟨V.heap.size, rfl, ⟨x, y, z, by go_cell, by go_cell, by go_cell⟩, bd1 (ba (Below.refl _ _) _)⟩
theorem z3_lit (V : World) (x0 y0 z0 x1 y1 z1 x2 y2 z2 x3 y3 z3 : Int) (T : TypeId) (j : Nat) (hj : j < 4) : Z3 (V.alloc (.cells #[.int .i64 x0, .int .i64 y0, .int .i64 z0, .int .i64 x1, .int .i64 y1, .int .i64 z1, .int .i64 x2, .int .i64 y2, .int .i64 z2, .int .i64 x3, .int .i64 y3, .int .i64 z3] T)) V.heap.size (j * 3) := by
  obtain rfl | rfl | rfl | rfl : j = 0 ∨ j = 1 ∨ j = 2 ∨ j = 3 := by omega
  · exact ⟨x0, y0, z0, by go_cell, by go_cell, by go_cell⟩
  · exact ⟨x1, y1, z1, by go_cell, by go_cell, by go_cell⟩
  · exact ⟨x2, y2, z2, by go_cell, by go_cell, by go_cell⟩
  · exact ⟨x3, y3, z3, by go_cell, by go_cell, by go_cell⟩
theorem u3_lit (V : World) (x y z : Int) (T : TypeId) (j : Nat) (hj : j < 3) : ∃ u : Int, (V.alloc (.cells #[.int .i64 x, .int .i64 y, .int .i64 z] T)).cell? ⟨V.heap.size, j, none⟩ = some (.int .i64 u) := by
  obtain rfl | rfl | rfl : j = 0 ∨ j = 1 ∨ j = 2 := by omega
  · exact ⟨x, by go_cell⟩
  · exact ⟨y, by go_cell⟩
  · exact ⟨z, by go_cell⟩
/-- A loop's round over a literal. -/
def UpTo (w0 : World) (n : Nat) (v : Value) (V : World) : Prop := ∃ j : Nat, v = .int .i64 (j : Int) ∧ j ≤ n ∧ Below w0.heap.size w0 V
set_option maxRecDepth 100000 in
set_option maxHeartbeats 16000000 in
theorem Winds_any (ra : Option Addr) (rN rc : Nat) (rns : Nat → Nat) (rg : Nat → Nat → Pt) (la : Option Addr) (lN lc : Nat) (L : Nat → Nat) (l : Nat → Nat → Int) (q0 q1 q2 : Int) (r0 : R64 q0) (r1 : R64 q1) (r2 : R64 q2) (w : World) (hA : OT w ra rN rns rg) (hL : LX w la lN L l) :
    Calls Try.prog 3 #[.slice la lN lc, .slice ra rN rc, .agg #[.int .i64 q0, .int .i64 q1, .int .i64 q2]] w fun e w' => e = .returned (.bool true) ∧ Below w.heap.size w w' := by
  have CT := Lib.hid (fun V h => cut_any ra rN rc rns rg V (ot_below hA h))
  have MD := Lib.hid (fun V h => Made_any la lN lc L l V (lx_below hL h))
  have M0 := Lib.hid (fun V => Ax.mod_any q0 5 r0 (by omega) V)
  have M1 := Lib.hid (fun V => Ax.mod_any q1 90 r1 (by omega) V)
  have M2 := Lib.hid (fun V => Ax.mod_any q2 90 r2 (by omega) V)
  clear hA hL r0 r1 r2
  have hb0 : Below w.heap.size w (w.alloc (.cells #[.int .i64 q0, .int .i64 q1, .int .i64 q2] 24)) := ba (Below.refl _ _) _
  have x0 : (w.alloc (.cells #[.int .i64 q0, .int .i64 q1, .int .i64 q2] 24)).cell? ⟨w.heap.size, 0, none⟩ = some (.int .i64 q0) := by go_cell
  have x1 : (w.alloc (.cells #[.int .i64 q0, .int .i64 q1, .int .i64 q2] 24)).cell? ⟨w.heap.size, 1, none⟩ = some (.int .i64 q1) := by go_cell
  have x2 : (w.alloc (.cells #[.int .i64 q0, .int .i64 q1, .int .i64 q2] 24)).cell? ⟨w.heap.size, 2, none⟩ = some (.int .i64 q2) := by go_cell
  go_enter Try.func3, Try.ntmps3
  go_wp2_with fail
  refine (sanity_any _).mono ?_
  rintro e V1 ⟨rfl, h1⟩
  replace x0 := kc h1 x0
  replace x1 := kc h1 x1
  replace x2 := kc h1 x2
  replace hb0 := bt hb0 h1
  clear h1
  go_wp2_with fail
  refine (CT.out _ hb0).mono ?_
  rintro e V2 ⟨v2, xs2, rfl, hF⟩
  obtain ⟨a2, c2, rfl, _, _, hO2⟩ := fw_ot hF
  have h2 := hF.be
  replace x0 := kc h2 x0
  replace x1 := kc h2 x1
  replace x2 := kc h2 x2
  replace hb0 := bt hb0 h2
  clear h2 hF CT
  go_wp2_with fail
  refine (MD.out _ hb0).mono ?_
  rintro e V3 ⟨v3, xs3, ns3, B3, g3, rfl, hM, hok⟩
  obtain ⟨a3, c3, S3, rfl, _, _, ha3, hO3, _⟩ := mo_oo hM
  have h3 := hM.be
  have hO3' := oo_ot2 hO3 ha3
  replace hO2 := ot_below hO2 h3
  replace x0 := kc h3 x0
  replace x1 := kc h3 x1
  replace x2 := kc h3 x2
  replace hb0 := bt hb0 h3
  clear h3 hM hO3 ha3 MD
  have MV := Lib.hid (Moved_any a3 (min lN 4) c3 ns3 g3 1 1073741794 (-1073741794) (by omega) (fun k hk => by have := (hok k hk).1; omega) V3 hO3')
  go_wp2_with fail
  refine MV.out.mono ?_
  rintro e V4 ⟨v4, xs4, B4, rfl, hM⟩
  obtain ⟨a4, c4, S4, rfl, _, _, ha4, hO4, _⟩ := mo_oo hM
  have h3 := hM.be
  have hO4' := oo_ot2 hO4 ha4
  replace hO2 := ot_below hO2 h3
  replace hO3' := ot_below hO3' h3
  replace x0 := kc h3 x0
  replace x1 := kc h3 x1
  replace x2 := kc h3 x2
  replace hb0 := bt hb0 h3
  clear h3 hM hO4 ha4 MV
  have hw4 := hb0.size
  go_upto_region 5 with (fail)
  go_cut [10] (fun s10 V => Small V4 s10 V)
  case first =>
    have X0 : ∀ w', Below V4.heap.size V4 w' → w'.cell? ⟨w.heap.size, 0, none⟩ = some (.int .i64 q0) := fun _ h => kc h x0
    have X1 : ∀ w', Below V4.heap.size V4 w' → w'.cell? ⟨w.heap.size, 1, none⟩ = some (.int .i64 q1) := fun _ h => kc h x1
    have X2 : ∀ w', Below V4.heap.size V4 w' → w'.cell? ⟨w.heap.size, 2, none⟩ = some (.int .i64 q2) := fun _ h => kc h x2
    clear x0 x1 x2 hO2 hO3' hO4' hb0 hok
    go_region_held3 (fun w' => Below V4.heap.size V4 w') (first
      | (with_reducible exact bd1 (Below.refl _ _))
      | (with_reducible exact bd1 (ba (Below.refl _ _) _))
      | (with_reducible assumption)
      | (with_reducible exact ba (by assumption) _)
      | (with_reducible exact bs (bs (bs (ba (bd1 (Below.refl _ _)) _) (Nat.le_refl _) _) (Nat.le_refl _) _) (Nat.le_refl _) _)
      | (with_reducible exact bs (bs (bs (bd1 (ba (Below.refl _ _) _)) (Nat.le_refl _) _) (Nat.le_refl _) _) (Nat.le_refl _) _))
      (first
      | ((with_reducible refine (M0.out _).mono ?_); rintro en wa ⟨rfl, rfl⟩)
      | ((with_reducible refine (M1.out _).mono ?_); rintro en wa ⟨rfl, rfl⟩)
      | ((with_reducible refine (M2.out _).mono ?_); rintro en wa ⟨rfl, rfl⟩))
    all_goals (go_wp2_with fail; go_meet; exact small_set _ _ _ _ _)
  case rest =>
    obtain ⟨Bs, rfl, hz, hB⟩ := hcut
    rename World => V5
    replace hO2 := ot_below hO2 hB
    replace hO3' := ot_below hO3' hB
    replace hO4' := ot_below hO4' hB
    replace x0 := kc hB x0
    replace x1 := kc hB x1
    replace x2 := kc hB x2
    replace hb0 := bt hb0 hB
    clear M0 M1 M2 hB hw4
    have hB6 : Below V5.heap.size V5 (V5.alloc (.cells #[.slice a3 (min lN 4) c3, .slice a4 (min lN 4) c4, .slice a2 (min rN 4) c2] 23)) := ba (Below.refl _ _) _
    have R1 : ∀ j, j < 3 → WnAt (V5.alloc (.cells #[.slice a3 (min lN 4) c3, .slice a4 (min lN 4) c4, .slice a2 (min rN 4) c2] 23)) V5.heap.size j := fun j hj => by
      obtain rfl | rfl | rfl : j = 0 ∨ j = 1 ∨ j = 2 := by omega
      · exact ⟨a3, _, c3, _, _, by go_cell, by omega, fun j hj => by have := (hok j hj).1; omega, ot_below hO3' hB6⟩
      · exact ⟨a4, _, c4, _, _, by go_cell, by omega, fun j hj => by have := (hok j hj).1; omega, ot_below hO4' hB6⟩
      · exact ⟨a2, _, c2, _, _, by go_cell, by omega, fun j _ => by unfold fwN; omega, ot_below hO2 hB6⟩
    replace hz := z3_below hz hB6
    replace x0 := kc hB6 x0
    replace x1 := kc hB6 x1
    replace x2 := kc hB6 x2
    replace hb0 := bt hb0 hB6
    clear hok hO2 hO3' hO4' hB6
    go_wp2_with fail
    generalize (V5.alloc (.cells #[.slice a3 (min lN 4) c3, .slice a4 (min lN 4) c4, .slice a2 (min rN 4) c2] 23)) = V6 at *
    generalize V5.heap.size = Ba at *
    generalize min lN 4 = m2 at *
    generalize min rN 4 = m3 at *
    have RR := Lib.hid R1
    have HZ := Lib.hid hz
    have HX := Lib.hid (And.intro x0 (And.intro x1 x2))
    clear R1 hz x0 x1 x2
    go_loopw [42] (fun v V => UpTo V6 3 v V) (fun v _ => 3 - (intOf v).toNat)
    case atStart => exact ⟨0, rfl, by omega, Below.refl _ _⟩
    case round =>
      obtain ⟨k, rfl, hk, hB⟩ := hrel
      rename World => V
      rcases Nat.lt_or_ge k 3 with hk3 | hk3
      · obtain ⟨a, N, c, ns, g, hc, hN, hns, hO⟩ := wnat_below (RR.out k hk3) hB
        obtain ⟨s0, s1, s2, y0, y1, y2⟩ := z3_below HZ.out hB
        obtain ⟨x0, x1, x2⟩ := HX.out
        replace x0 := kc hB x0
        replace x1 := kc hB x1
        replace x2 := kc hB x2
        have k2 : (0 : Int) ≤ (k : Int) := by omega
        have k3 : (k : Int) < 3 := by omega
        have NX : Hid (∀ V', Below V.heap.size V V' → UpTo V6 3 (.int .i64 ((k : Int) + 1)) V') := Lib.hid (fun V' h => ⟨k + 1, rfl, by omega, bt hB h⟩)
        have HO : Hid (∀ W, Below V.heap.size V W → OT W a N ns g) := Lib.hid (fun W h => ot_below hO h)
        have HH : Hid (N ≤ 1000000 ∧ pre ns N ≤ 1000000) := Lib.hid ⟨by omega, by have := pre_le hns; omega⟩
        clear hO hN hns hk
        go_wp2_with fail
        have P4 : Hid (∀ j, j < 4 → Z3 (V.alloc (.cells #[.int .i64 q0, .int .i64 q1, .int .i64 q2, .int .i64 s0, .int .i64 s1, .int .i64 s2, .int .i64 (wrap64 (q0.tmod 100 * 4)), .int .i64 s1, .int .i64 s2, .int .i64 4, .int .i64 (wrap64 (268435456 + q1.tmod 20)), .int .i64 (wrap64 (-268435456 + q2.tmod 20))] 24)) V.heap.size (j * 3)) := Lib.hid (fun j hj => z3_lit V _ _ _ _ _ _ _ _ _ _ _ _ _ j hj)
        have hBl : Below V.heap.size V (V.alloc (.cells #[.int .i64 q0, .int .i64 q1, .int .i64 q2, .int .i64 s0, .int .i64 s1, .int .i64 s2, .int .i64 (wrap64 (q0.tmod 100 * 4)), .int .i64 s1, .int .i64 s2, .int .i64 4, .int .i64 (wrap64 (268435456 + q1.tmod 20)), .int .i64 (wrap64 (-268435456 + q2.tmod 20))] 24)) := ba (Below.refl _ _) _
        clear hc x0 x1 x2 y0 y1 y2
        generalize (V.alloc (.cells #[.int .i64 q0, .int .i64 q1, .int .i64 q2, .int .i64 s0, .int .i64 s1, .int .i64 s2, .int .i64 (wrap64 (q0.tmod 100 * 4)), .int .i64 s1, .int .i64 s2, .int .i64 4, .int .i64 (wrap64 (268435456 + q1.tmod 20)), .int .i64 (wrap64 (-268435456 + q2.tmod 20))] 24)) = V7 at *
        go_loopw [68] (fun v V' => UpTo V7 4 v V') (fun v _ => 4 - (intOf v).toNat)
        case atStart => exact ⟨0, rfl, by omega, Below.refl _ _⟩
        case round =>
          obtain ⟨j, rfl, hj, hB8⟩ := hrel
          rename World => V8
          rcases Nat.lt_or_ge j 4 with hj4 | hj4
          · obtain ⟨p0, p1, p2, z0, z1, z2⟩ := z3_below (P4.out j hj4) hB8
            have j2 : (0 : Int) ≤ (j : Int) := by omega
            have j3 : (j : Int) < 4 := by omega
            have hB9 : Below V8.heap.size V8 (V8.alloc (.cells #[.int .i64 p0, .int .i64 p1, .int .i64 p2] 24)) := ba (Below.refl _ _) _
            have y0 : (V8.alloc (.cells #[.int .i64 p0, .int .i64 p1, .int .i64 p2] 24)).cell? ⟨V8.heap.size, 0, none⟩ = some (.int .i64 p0) := by go_cell
            have y1 : (V8.alloc (.cells #[.int .i64 p0, .int .i64 p1, .int .i64 p2] 24)).cell? ⟨V8.heap.size, 1, none⟩ = some (.int .i64 p1) := by go_cell
            have y2 : (V8.alloc (.cells #[.int .i64 p0, .int .i64 p1, .int .i64 p2] 24)).cell? ⟨V8.heap.size, 2, none⟩ = some (.int .i64 p2) := by go_cell
            have N2 : Hid (∀ V', Below V8.heap.size V8 V' → UpTo V7 4 (.int .i64 ((j : Int) + 1)) V') := Lib.hid (fun V' h => ⟨j + 1, rfl, by omega, bt hB8 h⟩)
            have HO9 := Lib.hid (HO.out _ (bt hBl (bt hB8 hB9)))
            go_upto_region 12 with (fail)
            clear z0 z1 z2
            generalize V8.alloc (.cells #[.int .i64 p0, .int .i64 p1, .int .i64 p2] 24) = V9 at *
            have CW : Hid (∀ W x y, Below V9.heap.size V9 W → Calls Try.prog 13 #[.slice a N c, .int .i64 x, .int .i64 y] W fun e w' => e = .returned (.int .i64 (wdg N ns g x y)) ∧ Below V9.heap.size V9 w') :=
              Lib.hid (fun W x y h => (Winding_any a N c ns g x y HH.out.1 HH.out.2 W (ot_below HO9.out h)).mono fun e w' ⟨h1, h2⟩ => ⟨h1, bt h h2⟩)
            have CR : Hid (∀ W x y, Below V9.heap.size V9 W → Calls Try.prog 14 #[.slice a N c, .int .i64 x, .int .i64 y] W fun e w' => e = .returned (.int .i64 (wdg N ns g x y)) ∧ Below V9.heap.size V9 w') :=
              Lib.hid (fun W x y h => (rWinding_any a N c ns g x y HH.out.1 HH.out.2 W (ot_below HO9.out h)).mono fun e w' ⟨h1, h2⟩ => ⟨h1, bt h h2⟩)
            have Y0 : ∀ w', Below V9.heap.size V9 w' → w'.cell? ⟨V8.heap.size, 0, none⟩ = some (.int .i64 p0) := fun _ h => kc h y0
            have Y1 : ∀ w', Below V9.heap.size V9 w' → w'.cell? ⟨V8.heap.size, 1, none⟩ = some (.int .i64 p1) := fun _ h => kc h y1
            have Y2 : ∀ w', Below V9.heap.size V9 w' → w'.cell? ⟨V8.heap.size, 2, none⟩ = some (.int .i64 p2) := fun _ h => kc h y2
            clear y0 y1 y2
            go_region_held3 (fun w' => Below V9.heap.size V9 w') (first
              | (with_reducible exact bd1 (Below.refl _ _))
              | (with_reducible assumption))
              (first
              | ((with_reducible refine (CW.out _ _ _ (by with_reducible assumption)).mono ?_); rintro en wa ⟨rfl, hv1⟩)
              | ((with_reducible refine (CR.out _ _ _ (by with_reducible assumption)).mono ?_); rintro en wb ⟨rfl, hv2⟩))
            have y0 := Y0 _ hv2
            have hB10 : Below V9.heap.size V9 (wb.alloc (.cells #[.int .i64 p0, .int .i64 4, .int .i64 8] 3)) := ba hv2 _
            have U3 : Hid (∀ u, u < 3 → ∃ z : Int, (wb.alloc (.cells #[.int .i64 p0, .int .i64 4, .int .i64 8] 3)).cell? ⟨wb.heap.size, u, none⟩ = some (.int .i64 z)) := Lib.hid (fun u hu => u3_lit wb p0 4 8 3 u hu)
            have YY := Lib.hid (And.intro Y1 Y2)
            clear CW CR Y0 Y1 Y2
            go_wp2_with fail
            generalize wb.alloc (.cells #[.int .i64 p0, .int .i64 4, .int .i64 8] 3) = V10 at *
            go_loopw [112] (fun v V' => UpTo V10 3 v V') (fun v _ => 3 - (intOf v).toNat)
            case atStart => exact ⟨0, rfl, by omega, Below.refl _ _⟩
            case round =>
              obtain ⟨i, rfl, hi, hB11⟩ := hrel
              rename World => V11
              rcases Nat.lt_or_ge i 3 with hi3 | hi3
              · obtain ⟨u, hu⟩ := U3.out i hi3
                replace hu := kc hB11 hu
                have i2 : (0 : Int) ≤ (i : Int) := by omega
                have i3 : (i : Int) < 3 := by omega
                have hB12 := bt hB10 hB11
                have HO11 := Lib.hid (ot_below HO9.out hB12)
                have N3 : Hid (∀ V', Below V11.heap.size V11 V' → UpTo V10 3 (.int .i64 ((i : Int) + 1)) V') := Lib.hid (fun V' h => ⟨i + 1, rfl, by omega, bt hB11 h⟩)
                have CC : Hid (∀ W u x y, Below V11.heap.size V11 W → Calls Try.prog 15 #[.slice a N c, .int .i64 u, .int .i64 x, .int .i64 y] W fun e w' => e = .returned (.int .i64 (cvr N ns g u x y : Nat)) ∧ Below V11.heap.size V11 w') :=
                  Lib.hid (fun W u x y h => (Cover_any a N c ns g u x y HH.out.1 HH.out.2 W (ot_below HO11.out h)).mono fun e w' ⟨h1, h2⟩ => ⟨h1, bt h h2⟩)
                have CD : Hid (∀ W u x y, Below V11.heap.size V11 W → Calls Try.prog 16 #[.slice a N c, .int .i64 u, .int .i64 x, .int .i64 y] W fun e w' => e = .returned (.int .i64 (cvr N ns g u x y : Nat)) ∧ Below V11.heap.size V11 w') :=
                  Lib.hid (fun W u x y h => (rCover_any a N c ns g u x y HH.out.1 HH.out.2 W (ot_below HO11.out h)).mono fun e w' ⟨h1, h2⟩ => ⟨h1, bt h h2⟩)
                have Y1 : ∀ w', Below V11.heap.size V11 w' → w'.cell? ⟨V8.heap.size, 1, none⟩ = some (.int .i64 p1) := fun _ h => YY.out.1 _ (bt hB12 h)
                have Y2 : ∀ w', Below V11.heap.size V11 w' → w'.cell? ⟨V8.heap.size, 2, none⟩ = some (.int .i64 p2) := fun _ h => YY.out.2 _ (bt hB12 h)
                go_upto_region 17 with (fail)
                clear hu
                go_region_held3 (fun w' => Below V11.heap.size V11 w') (first
                  | (with_reducible exact bd1 (Below.refl _ _))
                  | (with_reducible assumption))
                  (first
                  | ((with_reducible refine (CC.out _ _ _ _ (by with_reducible assumption)).mono ?_); rintro en wc ⟨rfl, hv3⟩)
                  | ((with_reducible refine (CD.out _ _ _ _ (by with_reducible assumption)).mono ?_); rintro en wd ⟨rfl, hv4⟩))
                have R := Lib.hid (N3.out _ hv4)
                clear CC CD Y1 Y2 N3
                go_wp2_with fail
                exact ⟨R.out, by simp [intOf]; omega⟩
              · obtain rfl : i = 3 := by omega
                have R := Lib.hid (N2.out _ (bt hB9 (bt hB10 hB11)))
                go_wp2_with fail
                exact ⟨R.out, by simp [intOf]; omega⟩
          · obtain rfl : j = 4 := by omega
            go_wp2_with fail
            exact ⟨NX.out _ (bt hBl hB8), by simp [intOf]; omega⟩
      · obtain rfl : k = 3 := by omega
        go_wp2_with fail
        go_ret
        exact ⟨rfl, bt hb0 hB⟩
end Go.Proofs.Ytjeiapgniflnaaa.Rs
