/-
  Layer 6 (outline): OutlineShifts, walked.
-/
import Derived.Test.YtcogoomajfahkaaOtAf
namespace Go.Proofs.Ytcogoomajfahkaa.Ot
open Go.RowKit
open Go.Proofs.Ytcogoomajfahkaa.Ax (LA ps)
def ShRel (w : World) (Bv Ba : Nat) (x y : Int) (oa : Option Addr) (oN : Nat) (ns : Nat → Nat) (g : Nat → Nat → Pt) (da : Option Addr) (dN : Nat) (d : Nat → De) (pa : Option Addr) (pn : Nat) (pl : Nat → Int) (v : Value) (V : World) : Prop := ∃ k : Nat, v = .int .i64 (k : Int) ∧ k ≤ 2 ∧ V.cell? ⟨Bv, 0, none⟩ = some (.int .i64 x) ∧ V.cell? ⟨Bv, 1, none⟩ = some (.int .i64 y) ∧ (∀ j, j < 2 → FewAt V Ba j) ∧ CaseAt V oa oN ns g da dN d pa pn pl ∧ Below w.heap.size w V
set_option maxRecDepth 100000 in
set_option maxHeartbeats 16000000 in
theorem Shifts_any (ra : Option Addr) (rN rc : Nat) (rns : Nat → Nat) (rg : Nat → Nat → Pt) (oa : Option Addr) (oN oc : Nat) (oL : Nat → Nat) (ol : Nat → Nat → Int) (da : Option Addr) (dN dc : Nat) (dL : Nat → Nat) (dl : Nat → Nat → Int) (ta : Option Addr) (tn tc : Nat) (tl : Nat → Int) (x y n : Int) (htc : tc ≤ 9223372036854775807) (hr : ∀ i, i < tn → R64 (tl i)) (w : World) (hA : OT w ra rN rns rg) (hO : LX w oa oN oL ol) (hD : LX w da dN dL dl) (hT : LA w ta tn tl) :
    Calls Try.prog 7 #[.slice ra rN rc, .agg #[.slice oa oN oc, .slice da dN dc, .slice ta tn tc], .agg #[.int .i64 x, .int .i64 y], .int .i64 n] w fun e w' => e = .returned (.bool true) ∧ Below w.heap.size w w' := by
  have FW := Lib.hid (fun V h => few_any ra rN rc rns rg V (ot_below hA h))
  have MD := Lib.hid (fun V h => made_any oa oN oc oL ol da dN dc dL dl ta tn tc tl hr V (lx_below hO h) (lx_below hD h) (Ax.la_below hT h))
  clear hA hO hD hT hr htc
  have hb0 : Below w.heap.size w ((w.alloc (.cells #[.slice oa oN oc, .slice da dN dc, .slice ta tn tc] 46)).alloc (.cells #[.int .i64 x, .int .i64 y] 39)) := ba (ba (Below.refl _ _) _) _
  have c0 : ((w.alloc (.cells #[.slice oa oN oc, .slice da dN dc, .slice ta tn tc] 46)).alloc (.cells #[.int .i64 x, .int .i64 y] 39)).cell? ⟨w.heap.size, 0, none⟩ = some (.slice oa oN oc) := by go_cell
  have c1 : ((w.alloc (.cells #[.slice oa oN oc, .slice da dN dc, .slice ta tn tc] 46)).alloc (.cells #[.int .i64 x, .int .i64 y] 39)).cell? ⟨w.heap.size, 1, none⟩ = some (.slice da dN dc) := by go_cell
  have c2 : ((w.alloc (.cells #[.slice oa oN oc, .slice da dN dc, .slice ta tn tc] 46)).alloc (.cells #[.int .i64 x, .int .i64 y] 39)).cell? ⟨w.heap.size, 2, none⟩ = some (.slice ta tn tc) := by go_cell
  have x0 : ((w.alloc (.cells #[.slice oa oN oc, .slice da dN dc, .slice ta tn tc] 46)).alloc (.cells #[.int .i64 x, .int .i64 y] 39)).cell? ⟨w.heap.size + 1, 0, none⟩ = some (.int .i64 x) := by go_cell
  have x1 : ((w.alloc (.cells #[.slice oa oN oc, .slice da dN dc, .slice ta tn tc] 46)).alloc (.cells #[.int .i64 x, .int .i64 y] 39)).cell? ⟨w.heap.size + 1, 1, none⟩ = some (.int .i64 y) := by go_cell
  go_enter Try.func7, Try.ntmps7
  go_wp2_with fail
  refine (sanity_any _).mono ?_
  rintro e V1 ⟨rfl, h1⟩
  replace c0 := kc h1 c0
  replace c1 := kc h1 c1
  replace c2 := kc h1 c2
  replace x0 := kc h1 x0
  replace x1 := kc h1 x1
  replace hb0 := bt hb0 h1
  clear h1
  go_wp2_with fail
  refine (MD.out _ hb0).mono ?_
  rintro e V2 ⟨oa', oN', oc', ns, g, da', dN', dc', d, pa, pn, pc, pl, rfl, hCA, h2⟩
  replace x0 := kc h2 x0
  replace x1 := kc h2 x1
  replace hb0 := bt hb0 h2
  clear h2 c0 c1 c2 MD
  go_wp2_with fail
  refine (FW.out _ hb0).mono ?_
  rintro e V3 ⟨v2, xs2, rfl, hF⟩
  obtain ⟨a2, c2, rfl, _, _, hO2⟩ := fw_ot hF
  have h3 := hF.be
  replace x0 := kc h3 x0
  replace x1 := kc h3 x1
  replace hb0 := bt hb0 h3
  replace hCA := case_below hCA h3
  clear h3 hF FW
  have hB4 : Below V3.heap.size V3 (V3.alloc (.cells #[.slice a2 (min rN 10) c2, .slice oa' oN' oc'] 40)) := ba (Below.refl _ _) _
  have R0 : ShRel w (w.heap.size + 1) V3.heap.size x y oa' oN' ns g da' dN' d pa pn pl (.int .i64 0) (V3.alloc (.cells #[.slice a2 (min rN 10) c2, .slice oa' oN' oc'] 40)) := ⟨0, rfl, by omega, kc hB4 x0, kc hB4 x1, fun j hj => by
    have : j = 0 ∨ j = 1 := by omega
    rcases this with rfl | rfl
    · exact ⟨a2, _, c2, _, _, by go_cell, by omega, fun j _ => by unfold fwN; omega, ot_below hO2 hB4⟩
    · exact ⟨oa', _, oc', _, _, by go_cell, by have := hCA.o2; omega, (case_pre hCA).1, ot_below hCA.ot hB4⟩, case_below hCA hB4, bt hb0 hB4⟩
  clear hO2 x0 x1 hb0 hB4 hCA
  go_wp2_with fail
  generalize (V3.alloc (.cells #[.slice a2 (min rN 10) c2, .slice oa' oN' oc'] 40)) = V4 at *
  generalize V3.heap.size = Ba at *
  generalize min rN 10 = m2 at *
  go_loopw [14] (fun v V => ShRel w (w.heap.size + 1) Ba x y oa' oN' ns g da' dN' d pa pn pl v V) (fun v _ => 2 - (intOf v).toNat)
  case atStart => exact R0
  case round =>
    clear R0
    obtain ⟨k, rfl, hk, hx, hy, hfew, hCA, hB⟩ := hrel
    rename World => V
    rcases Nat.lt_or_ge k 2 with hk2 | hk2
    · obtain ⟨a, N, c, ms, f, hc, hN, hns, hO⟩ := hfew k hk2
      have hN6 : N ≤ 1000000 := by omega
      have hs6 : ∀ j, j < N → ms j ≤ 1000000 := fun j hj => by have := hns j hj; omega
      have hp6 : pre ms N ≤ 1000000 := by have := pre_le hns; omega
      have hf5 : ∀ j, j < N → flN ms f j ≤ 280 := fun j hj => by have := hns j hj; have := flN_le ms f j; omega
      have hf6 : ∀ j, j < N → flN ms f j ≤ 1000000 := fun j hj => by have := hf5 j hj; omega
      have hp7 : pre (flN ms f) N ≤ 1000000 := by have := pre_le hf5; omega
      have k2 := nat0 k
      have k3 : (k : Int) < 2 := natlt hk2
      obtain ⟨X32, hX⟩ : ∃ z, wrap64 (32 * x) = z := ⟨_, rfl⟩
      obtain ⟨Y32, hY⟩ : ∃ z, wrap64 (32 * y) = z := ⟨_, rfl⟩
      have hX2 : IntKind.i64.wrap (32 * x) = X32 := (IntWalk.i64_left _).trans hX
      have hY2 : IntKind.i64.wrap (32 * y) = Y32 := (IntWalk.i64_left _).trans hY
      have NX : Hid (∀ V', Below V.heap.size V V' → ShRel w (w.heap.size + 1) Ba x y oa' oN' ns g da' dN' d pa pn pl (.int .i64 ((k : Int) + 1)) V') := Lib.hid (fun V' h => ⟨k + 1, rfl, by omega, kc h hx, kc h hy, fun j hj => few_below (hfew j hj) h, case_below hCA h, bt hB h⟩)
      have SH : Hid (∀ W, Below V.heap.size V W → Calls Try.prog 23 #[.slice a N c, .int .i64 x, .int .i64 y] W fun e w' => ∃ S, e = .returned (.slice (some ⟨S, 0, none⟩) N N) ∧ OT w' (some ⟨S, 0, none⟩) N ms (fun k i => aff 1 x y (f k i)) ∧ Below W.heap.size W w' ∧ Below V.heap.size V w') :=
        Lib.hid (fun W h => (Shift_any a N c ms f x y hN6 hp6 W (ot_below hO h)).mono fun e w' ⟨S, B, h1, h2, h3⟩ => ⟨S, h1, ot_congr (oo_ot h2) (fun _ _ => rfl) (fun _ _ _ _ => (aff_sh _ _ _).symm), h3, bt h h3⟩)
      have FL1 : Hid (∀ S W, OT W (some ⟨S, 0, none⟩) N ms (fun k i => aff 1 x y (f k i)) → Below V.heap.size V W → Calls Try.prog 25 #[.slice (some ⟨S, 0, none⟩) N N] W fun e w' => ∃ S, e = .returned (.slice (some ⟨S, 0, none⟩) N N) ∧ OT w' (some ⟨S, 0, none⟩) N (flN ms f) (fun k i => aff 1 (32 * x) (32 * y) (flP ms f k i)) ∧ Below W.heap.size W w' ∧ Below V.heap.size V w') :=
        Lib.hid (fun S W hS h => (Flat_any (some ⟨S, 0, none⟩) N N ms _ hN6 hs6 W hS).mono fun e w' ⟨S, B, h1, h2, h3⟩ => ⟨S, h1, ot_congr (oo_ot h2) (fun k _ => flN_aff 1 x y ms f k) (fun k _ i hi => flP_aff 1 x y ms f k i (by rw [← flN_aff 1 x y]; exact hi)), h3, bt h h3⟩)
      have FL : Hid (∀ W, Below V.heap.size V W → Calls Try.prog 25 #[.slice a N c] W fun e w' => ∃ S, e = .returned (.slice (some ⟨S, 0, none⟩) N N) ∧ OT w' (some ⟨S, 0, none⟩) N (flN ms f) (flP ms f) ∧ Below W.heap.size W w' ∧ Below V.heap.size V w') :=
        Lib.hid (fun W h => (Flat_any a N c ms f hN6 hs6 W (ot_below hO h)).mono fun e w' ⟨S, B, h1, h2, h3⟩ => ⟨S, h1, oo_ot h2, h3, bt h h3⟩)
      have SH2 : Hid (∀ S W, OT W (some ⟨S, 0, none⟩) N (flN ms f) (flP ms f) → Below V.heap.size V W → Calls Try.prog 23 #[.slice (some ⟨S, 0, none⟩) N N, .int .i64 X32, .int .i64 Y32] W fun e w' => ∃ S, e = .returned (.slice (some ⟨S, 0, none⟩) N N) ∧ OT w' (some ⟨S, 0, none⟩) N (flN ms f) (fun k i => aff 1 (32 * x) (32 * y) (flP ms f k i)) ∧ Below W.heap.size W w' ∧ Below V.heap.size V w') :=
        Lib.hid (fun S W hS h => (Shift_any (some ⟨S, 0, none⟩) N N (flN ms f) (flP ms f) X32 Y32 hN6 hp7 W hS).mono fun e w' ⟨S, B, h1, h2, h3⟩ => ⟨S, h1, ot_congr (oo_ot h2) (fun _ _ => rfl) (fun _ _ _ _ => by rw [aff_sh, ← hX, ← hY, shP_w]), h3, bt h h3⟩)
      have SC : Hid (∀ W, Below V.heap.size V W → Calls Try.prog 21 #[.slice a N c, .int .i64 n] W fun e w' => ∃ S, e = .returned (.slice (some ⟨S, 0, none⟩) N N) ∧ OT w' (some ⟨S, 0, none⟩) N ms (fun k i => aff n 0 0 (f k i)) ∧ Below W.heap.size W w' ∧ Below V.heap.size V w') :=
        Lib.hid (fun W h => (Scale_any a N c ms f n hN6 hp6 W (ot_below hO h)).mono fun e w' ⟨S, B, h1, h2, h3⟩ => ⟨S, h1, ot_congr (oo_ot h2) (fun _ _ => rfl) (fun _ _ _ _ => (aff_sc _ _).symm), h3, bt h h3⟩)
      have FL2 : Hid (∀ S W, OT W (some ⟨S, 0, none⟩) N ms (fun k i => aff n 0 0 (f k i)) → Below V.heap.size V W → Calls Try.prog 25 #[.slice (some ⟨S, 0, none⟩) N N] W fun e w' => ∃ S, e = .returned (.slice (some ⟨S, 0, none⟩) N N) ∧ OT w' (some ⟨S, 0, none⟩) N (flN ms f) (fun k i => aff n 0 0 (flP ms f k i)) ∧ Below W.heap.size W w' ∧ Below V.heap.size V w') :=
        Lib.hid (fun S W hS h => (Flat_any (some ⟨S, 0, none⟩) N N ms _ hN6 hs6 W hS).mono fun e w' ⟨S, B, h1, h2, h3⟩ => ⟨S, h1, ot_congr (oo_ot h2) (fun k _ => flN_aff n 0 0 ms f k) (fun k _ i hi => flP_aff n 0 0 ms f k i (by rw [← flN_aff n 0 0]; exact hi)), h3, bt h h3⟩)
      have SC2 : Hid (∀ S W, OT W (some ⟨S, 0, none⟩) N (flN ms f) (flP ms f) → Below V.heap.size V W → Calls Try.prog 21 #[.slice (some ⟨S, 0, none⟩) N N, .int .i64 n] W fun e w' => ∃ S, e = .returned (.slice (some ⟨S, 0, none⟩) N N) ∧ OT w' (some ⟨S, 0, none⟩) N (flN ms f) (fun k i => aff n 0 0 (flP ms f k i)) ∧ Below W.heap.size W w' ∧ Below V.heap.size V w') :=
        Lib.hid (fun S W hS h => (Scale_any (some ⟨S, 0, none⟩) N N (flN ms f) (flP ms f) n hN6 hp7 W hS).mono fun e w' ⟨S, B, h1, h2, h3⟩ => ⟨S, h1, ot_congr (oo_ot h2) (fun _ _ => rfl) (fun _ _ _ _ => (aff_sc _ _).symm), h3, bt h h3⟩)
      have RS : Hid (∀ (g' : Nat → Nat → Pt) W a1 c1 a2 c2, OT W a1 N (flN ms f) g' → OT W a2 N (flN ms f) g' → Below V.heap.size V W → Calls Try.prog 20 #[.slice a1 N c1, .slice a2 N c2] W fun e w' => e = .returned (.bool true) ∧ Below W.heap.size W w' ∧ Below V.heap.size V w') :=
        Lib.hid (fun g' W a1 c1 a2 c2 h1 h2 h => (x_rs hN6 hf6 W h1 h2).mono fun e w' ⟨h3, h4⟩ => ⟨h3, h4, bt h h4⟩)
      have RS1 := Lib.hid (RS.out (fun k i => aff 1 (32 * x) (32 * y) (flP ms f k i)))
      have RS2 := Lib.hid (RS.out (fun k i => aff n 0 0 (flP ms f k i)))
      have X0 : ∀ w', Below V.heap.size V w' → w'.cell? ⟨w.heap.size + 1, 0, none⟩ = some (.int .i64 x) := fun _ h => kc h hx
      have X1 : ∀ w', Below V.heap.size V w' → w'.cell? ⟨w.heap.size + 1, 1, none⟩ = some (.int .i64 y) := fun _ h => kc h hy
      clear hx hy hfew hN6 hs6 hp6 hf6 hf5 hp7 hns hO hN RS hk hCA hX hY
      go_upto_region 8 with (fail)
      clear hc
      go_region_held3 (fun w' => Below V.heap.size V w') (first
        | (with_reducible exact bd1 (Below.refl _ _))
        | (with_reducible assumption))
        (first
        | ((with_reducible refine (SH.out _ (by with_reducible assumption)).mono ?_); rintro en wa ⟨S1, rfl, ho1, hb1, hv1⟩)
        | ((with_reducible refine (FL1.out _ _ ho1 (by with_reducible assumption)).mono ?_); rintro en wb ⟨S2, rfl, ho2, hb2, hv2⟩)
        | ((with_reducible refine (FL.out _ (by with_reducible assumption)).mono ?_); have hmark := ho6; clear hmark; rintro en wh ⟨S7, rfl, ho7, hb8, hv8⟩)
        | ((with_reducible refine (FL.out _ (by with_reducible assumption)).mono ?_); rintro en wc ⟨S3, rfl, ho3, hb3, hv3⟩)
        | ((with_reducible refine (SH2.out _ _ ho3 (by with_reducible assumption)).mono ?_); rintro en wd ⟨S4, rfl, ho4, hb4, hv4⟩)
        | ((with_reducible refine (RS1.out _ _ _ _ _ (ot_below ho2 (bt hb3 hb4)) ho4 (by with_reducible assumption)).mono ?_); rintro en we ⟨rfl, hb5, hv5⟩)
        | ((with_reducible refine (SC.out _ (by with_reducible assumption)).mono ?_); rintro en wf ⟨S5, rfl, ho5, hb6, hv6⟩)
        | ((with_reducible refine (FL2.out _ _ ho5 (by with_reducible assumption)).mono ?_); rintro en wg ⟨S6, rfl, ho6, hb7, hv7⟩)
        | ((with_reducible refine (SC2.out _ _ ho7 (by with_reducible assumption)).mono ?_); rintro en wi ⟨S8, rfl, ho8, hb9, hv9⟩)
        | ((with_reducible refine (RS2.out _ _ _ _ _ (ot_below ho6 (bt hb8 hb9)) ho8 (by with_reducible assumption)).mono ?_); rintro en wj ⟨rfl, hb10, hv10⟩))
      all_goals
        have R := Lib.hid (NX.out _ hv10)
        clear NX SH FL1 FL SH2 SC FL2 SC2 RS1 RS2 X0 X1 ho1 ho2 ho3 ho4 ho5 ho6 ho7 ho8
        go_wp2_with fail
        exact ⟨R.out, by simp [intOf]; omega⟩
    · obtain rfl : k = 2 := by omega
      obtain ⟨hs70, hp140⟩ := case_pre hCA
      have hoN := hCA.o2
      have hN6 : oN' ≤ 1000000 := by omega
      have hs6 : ∀ j, j < oN' → ns j ≤ 1000000 := fun j hj => by have := hs70 j hj; omega
      have hp6 : pre ns oN' ≤ 1000000 := by omega
      have hck := case_ck (dN := dN') (by have := hCA.d3; omega) hCA.dd
      have hd6 : dN' ≤ 1000000 := by have := hCA.d3; omega
      have SH := Lib.hid (Shift_any oa' oN' oc' ns g x y hN6 hp6 V hCA.ot)
      have IN1 : Hid (∀ S W, Below V.heap.size V W → OT W (some ⟨S, 0, none⟩) oN' ns (fun k i => shP x y (g k i)) → _) := Lib.hid (fun S W h hS => Instance_yes (some ⟨S, 0, none⟩) oN' oN' ns (fun k i => shP x y (g k i)) da' dN' dc' d pa pn pc pl hN6 hp6 hd6 W hS (da_below hCA.da h) (Ax.la_below hCA.la h) hck)
      have IN2 : Hid (∀ W, Below V.heap.size V W → _) := Lib.hid (fun W h => Instance_yes oa' oN' oc' ns g da' dN' dc' d pa pn pc pl hN6 hp6 hd6 W (ot_below hCA.ot h) (da_below hCA.da h) (Ax.la_below hCA.la h) hck)
      have SH2 : Hid (∀ S W, OT W (some ⟨S, 0, none⟩) oN' ns (inst ns g d (ps pn pl) dN') → _) := Lib.hid (fun S W hS => Shift_any (some ⟨S, 0, none⟩) oN' oN' ns (inst ns g d (ps pn pl) dN') x y hN6 hp6 W hS)
      have RS : Hid (∀ (g' : Nat → Nat → Pt) W a1 c1 a2 c2, OT W a1 oN' ns g' → OT W a2 oN' ns g' → _) := Lib.hid (fun g' W a1 c1 a2 c2 h1 h2 => x_rs (a := a1) (a' := a2) (c := c1) (c' := c2) (g := g') hN6 hs6 W h1 h2)
      clear hfew hN6 hs6 hp6 hck hd6 hs70 hp140 hoN hCA hk hk2
      go_wp2_with fail
      refine SH.out.mono ?_
      rintro e W1 ⟨S1, B1, rfl, hO1, hb1⟩
      have hv1 := hb1
      clear SH
      go_wp2_with fail
      refine (IN1.out _ _ hv1 (oo_ot hO1)).mono ?_
      rintro e W2 ⟨S2, B2, rfl, hO2, hb2⟩
      have hv2 := bt hv1 hb2
      have ho2 := oo_ot hO2
      clear IN1 hO1 hO2
      go_wp2_with fail
      refine (IN2.out _ hv2).mono ?_
      rintro e W3 ⟨S3, B3, rfl, hO3, hb3⟩
      have hv3 := bt hv2 hb3
      have ho3 := oo_ot hO3
      replace ho2 := ot_below ho2 hb3
      have y0 := kc hv3 hx
      have y1 := kc hv3 hy
      clear IN2 hO3
      go_wp2_with fail
      refine (SH2.out _ _ ho3).mono ?_
      rintro e W4 ⟨S4, B4, rfl, hO4, hb4⟩
      have hv4 := bt hv3 hb4
      have ho4 := oo_ot hO4
      replace ho2 := ot_congr (ot_below ho2 hb4) (fun _ _ => rfl) (fun k _ i _ => inst_sh x y ns g d (ps pn pl) dN' k i)
      clear SH2 hO4
      go_wp2_with fail
      refine (RS.out _ _ _ _ _ _ ho2 ho4).mono ?_
      rintro e W5 ⟨rfl, hb5⟩
      have hBf := bt hB (bt hv4 hb5)
      clear RS ho2 ho4 ho3
      go_wp2_with fail
      go_ret
      exact ⟨rfl, hBf⟩
end Go.Proofs.Ytcogoomajfahkaa.Ot
