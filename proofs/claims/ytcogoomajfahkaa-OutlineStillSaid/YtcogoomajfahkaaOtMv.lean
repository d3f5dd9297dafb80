/-
  Layer 6 (outline): OutlineMoves, walked.
-/
import Derived.Test.YtcogoomajfahkaaOtW
import Derived.Test.YtcogoomajfahkaaOtFl
import Derived.Test.YtcogoomajfahkaaOtMd
import Derived.Test.YtcogoomajfahkaaOtP
namespace Go.Proofs.Ytcogoomajfahkaa.Ot
open Go.RowKit
theorem flN_le (ns : Nat → Nat) (g : Nat → Nat → Pt) (k : Nat) : flN ns g k ≤ ns k * 4 := plK_le _ _ _
theorem pre_le {ns : Nat → Nat} {b : Nat} : ∀ {N : Nat}, (∀ k, k < N → ns k ≤ b) → pre ns N ≤ N * b
  | 0, _ => by unfold pre; omega
  | N + 1, h => by
    have h1 := pre_le (ns := ns) (b := b) (N := N) (fun k hk => h k (by omega))
    have h2 := h N (by omega)
    unfold pre
    rw [Nat.succ_mul]
    omega
/-- Two outlines that are the same are the same. -/
theorem x_rs {a a' : Option Addr} {c c' N : Nat} {ns : Nat → Nat} {g : Nat → Nat → Pt} (hN : N ≤ 1000000) (hs : ∀ k, k < N → ns k ≤ 1000000) (w : World) (hA : OT w a N ns g) (hB : OT w a' N ns g) :
    Calls Try.prog 20 #[.slice a N c, .slice a' N c'] w fun e w' => e = .returned (.bool true) ∧ Below w.heap.size w w' :=
  rSame_any a a' N c N c' ns ns g g true (Lib.hid ⟨fun _ => ⟨rfl, fun _ _ => ⟨rfl, fun _ _ => rfl⟩⟩, fun _ => rfl⟩) hN hN hs hs w hA hB
/-- The outlines that a law tries: few contours with few points. -/
def FewAt (V : World) (b k : Nat) : Prop := ∃ (a : Option Addr) (N c : Nat) (ns : Nat → Nat) (g : Nat → Nat → Pt), V.cell? ⟨b, k, none⟩ = some (.slice a N c) ∧ N ≤ 10 ∧ (∀ j, j < N → ns j ≤ 70) ∧ OT V a N ns g
theorem few_below {V W : World} {b k : Nat} (h : FewAt V b k) (hB : Below V.heap.size V W) : FewAt W b k := by
  obtain ⟨a, N, c, ns, g, h1, h2, h3, h4⟩ := h
  exact ⟨a, N, c, ns, g, kc hB h1, h2, h3, ot_below h4 hB⟩
def MvRel (w : World) (Bv Ba : Nat) (x y : Int) (v : Value) (V : World) : Prop := ∃ k : Nat, v = .int .i64 (k : Int) ∧ k ≤ 2 ∧ V.cell? ⟨Bv, 0, none⟩ = some (.int .i64 x) ∧ V.cell? ⟨Bv, 1, none⟩ = some (.int .i64 y) ∧ (∀ j, j < 2 → FewAt V Ba j) ∧ Below w.heap.size w V
set_option maxRecDepth 100000 in
set_option maxHeartbeats 16000000 in
theorem Moves_any (ra : Option Addr) (rN rc : Nat) (rns : Nat → Nat) (rg : Nat → Nat → Pt) (la : Option Addr) (lN lc : Nat) (L : Nat → Nat) (l : Nat → Nat → Int) (n x y : Int) (w : World) (hA : OT w ra rN rns rg) (hL : LX w la lN L l) :
    Calls Try.prog 4 #[.slice ra rN rc, .slice la lN lc, .int .i64 n, .agg #[.int .i64 x, .int .i64 y]] w fun e w' => e = .returned (.bool true) ∧ Below w.heap.size w w' := by
  have FW := Lib.hid (fun V h => few_any ra rN rc rns rg V (ot_below hA h))
  have MD := Lib.hid (fun V h => Made_any la lN lc L l V (lx_below hL h))
  clear hA hL
  have hb0 : Below w.heap.size w (w.alloc (.cells #[.int .i64 x, .int .i64 y] 39)) := ba (Below.refl _ _) _
  have x0 : (w.alloc (.cells #[.int .i64 x, .int .i64 y] 39)).cell? ⟨w.heap.size, 0, none⟩ = some (.int .i64 x) := by go_cell
  have x1 : (w.alloc (.cells #[.int .i64 x, .int .i64 y] 39)).cell? ⟨w.heap.size, 1, none⟩ = some (.int .i64 y) := by go_cell
  go_enter Try.func4, Try.ntmps4
  go_wp2_with fail
  refine (sanity_any _).mono ?_
  rintro e V1 ⟨rfl, h1⟩
  replace x0 := kc h1 x0
  replace x1 := kc h1 x1
  replace hb0 := bt hb0 h1
  clear h1
  go_wp2_with fail
  refine (FW.out _ hb0).mono ?_
  rintro e V2 ⟨v2, xs2, rfl, hF⟩
  obtain ⟨a2, c2, rfl, _, _, hO2⟩ := fw_ot hF
  have h2 := hF.be
  replace x0 := kc h2 x0
  replace x1 := kc h2 x1
  replace hb0 := bt hb0 h2
  clear h2 hF FW
  go_wp2_with fail
  refine (MD.out _ hb0).mono ?_
  rintro e V3 ⟨v3, xs3, ns3, B3, g3, rfl, hM, hok⟩
  obtain ⟨a3, c3, S3, rfl, _, _, ha3, hO3, _⟩ := mo_oo hM
  have h3 := hM.be
  have hO3' := oo_ot2 hO3 ha3
  replace hO2 := ot_below hO2 h3
  replace x0 := kc h3 x0
  replace x1 := kc h3 x1
  replace hb0 := bt hb0 h3
  have hB4 : Below V3.heap.size V3 (V3.alloc (.cells #[.slice a2 (min rN 10) c2, .slice a3 (min lN 2) c3] 40)) := ba (Below.refl _ _) _
  have R0 : MvRel w w.heap.size V3.heap.size x y (.int .i64 0) (V3.alloc (.cells #[.slice a2 (min rN 10) c2, .slice a3 (min lN 2) c3] 40)) := ⟨0, rfl, by omega, kc hB4 x0, kc hB4 x1, fun j hj => by
    have : j = 0 ∨ j = 1 := by omega
    rcases this with rfl | rfl
    · exact ⟨a2, _, c2, _, _, by go_cell, by omega, fun j _ => by unfold fwN; omega, ot_below hO2 hB4⟩
    · exact ⟨a3, _, c3, _, _, by go_cell, by omega, fun j hj => by have := (hok j hj).2.1; omega, ot_below hO3' hB4⟩, bt hb0 hB4⟩
  clear h3 hM hok ha3 hO3 hO3' hO2 x0 x1 hb0 hB4 MD
  go_wp2_with fail
  generalize (V3.alloc (.cells #[.slice a2 (min rN 10) c2, .slice a3 (min lN 2) c3] 40)) = V4 at *
  generalize V3.heap.size = Ba at *
  generalize min rN 10 = m2 at *
  generalize min lN 2 = m3 at *
  go_loopw [11] (fun v V => MvRel w w.heap.size Ba x y v V) (fun v _ => 2 - (intOf v).toNat)
  case atStart => exact R0
  case round =>
    clear R0
    obtain ⟨k, rfl, hk, hx, hy, hfew, hB⟩ := hrel
    rename World => V
    rcases Nat.lt_or_ge k 2 with hk2 | hk2
    · obtain ⟨a, N, c, ns, g, hc, hN, hns, hO⟩ := hfew k hk2
      have hN6 : N ≤ 1000000 := by omega
      have hs6 : ∀ j, j < N → ns j ≤ 1000000 := fun j hj => by have := hns j hj; omega
      have hp6 : pre ns N ≤ 1000000 := by have := pre_le hns; omega
      have hf6 : ∀ j, j < N → flN ns g j ≤ 1000000 := fun j hj => by have := hns j hj; have := flN_le ns g j; omega
      have k2 : (0 : Int) ≤ (k : Int) := by omega
      have k3 : (k : Int) < 2 := by omega
      have NX : Hid (∀ V', Below V.heap.size V V' → MvRel w w.heap.size Ba x y (.int .i64 ((k : Int) + 1)) V') := Lib.hid (fun V' h => ⟨k + 1, rfl, by omega, kc h hx, kc h hy, fun j hj => few_below (hfew j hj) h, bt hB h⟩)
      have SC : Hid (∀ W, Below V.heap.size V W → Calls Try.prog 21 #[.slice a N c, .int .i64 n] W fun e w' => ∃ S, e = .returned (.slice (some ⟨S, 0, none⟩) N N) ∧ OT w' (some ⟨S, 0, none⟩) N ns (fun k i => scP n (g k i)) ∧ Below W.heap.size W w' ∧ Below V.heap.size V w') :=
        Lib.hid (fun W h => (Scale_any a N c ns g n hN6 hp6 W (ot_below hO h)).mono fun e w' ⟨S, B, h1, h2, h3⟩ => ⟨S, h1, oo_ot h2, h3, bt h h3⟩)
      have RSC : Hid (∀ W, Below V.heap.size V W → Calls Try.prog 22 #[.slice a N c, .int .i64 n] W fun e w' => ∃ a' c', e = .returned (.slice a' N c') ∧ OT w' a' N ns (fun k i => scP n (g k i)) ∧ Below W.heap.size W w' ∧ Below V.heap.size V w') :=
        Lib.hid (fun W h => (rScale_any a N c ns g n hN6 hs6 W (ot_below hO h)).mono fun e w' ⟨a', c', S, B, h1, _, _, h2, h3, h4⟩ => ⟨a', c', h1, oo_ot2 h3 h2, h4, bt h h4⟩)
      have SH : Hid (∀ W, Below V.heap.size V W → Calls Try.prog 23 #[.slice a N c, .int .i64 x, .int .i64 y] W fun e w' => ∃ S, e = .returned (.slice (some ⟨S, 0, none⟩) N N) ∧ OT w' (some ⟨S, 0, none⟩) N ns (fun k i => shP x y (g k i)) ∧ Below W.heap.size W w' ∧ Below V.heap.size V w') :=
        Lib.hid (fun W h => (Shift_any a N c ns g x y hN6 hp6 W (ot_below hO h)).mono fun e w' ⟨S, B, h1, h2, h3⟩ => ⟨S, h1, oo_ot h2, h3, bt h h3⟩)
      have RSH : Hid (∀ W, Below V.heap.size V W → Calls Try.prog 24 #[.slice a N c, .int .i64 x, .int .i64 y] W fun e w' => ∃ a' c', e = .returned (.slice a' N c') ∧ OT w' a' N ns (fun k i => shP x y (g k i)) ∧ Below W.heap.size W w' ∧ Below V.heap.size V w') :=
        Lib.hid (fun W h => (rShift_any a N c ns g x y hN6 hs6 W (ot_below hO h)).mono fun e w' ⟨a', c', S, B, h1, _, _, h2, h3, h4⟩ => ⟨a', c', h1, oo_ot2 h3 h2, h4, bt h h4⟩)
      have FL : Hid (∀ W, Below V.heap.size V W → Calls Try.prog 25 #[.slice a N c] W fun e w' => ∃ S, e = .returned (.slice (some ⟨S, 0, none⟩) N N) ∧ OT w' (some ⟨S, 0, none⟩) N (flN ns g) (flP ns g) ∧ Below W.heap.size W w' ∧ Below V.heap.size V w') :=
        Lib.hid (fun W h => (Flat_any a N c ns g hN6 hs6 W (ot_below hO h)).mono fun e w' ⟨S, B, h1, h2, h3⟩ => ⟨S, h1, oo_ot h2, h3, bt h h3⟩)
      have RFL : Hid (∀ W, Below V.heap.size V W → Calls Try.prog 26 #[.slice a N c] W fun e w' => ∃ a' c', e = .returned (.slice a' N c') ∧ OT w' a' N (flN ns g) (flP ns g) ∧ Below W.heap.size W w' ∧ Below V.heap.size V w') :=
        Lib.hid (fun W h => (rFlat_any a N c ns g hN6 hs6 W (ot_below hO h)).mono fun e w' ⟨v, xs, B, h1, h2⟩ => by
          obtain ⟨a', c', S, hv, _, _, ha, hOO, _⟩ := mo_oo h2
          exact ⟨a', c', by rw [h1, hv], oo_ot2 hOO ha, h2.be, bt h h2.be⟩)
      have RS : Hid (∀ (ns' : Nat → Nat) (g' : Nat → Nat → Pt), (∀ j, j < N → ns' j ≤ 1000000) → ∀ W a1 c1 a2 c2, OT W a1 N ns' g' → OT W a2 N ns' g' → Below V.heap.size V W → Calls Try.prog 20 #[.slice a1 N c1, .slice a2 N c2] W fun e w' => e = .returned (.bool true) ∧ Below W.heap.size W w' ∧ Below V.heap.size V w') :=
        Lib.hid (fun ns' g' hs W a1 c1 a2 c2 h1 h2 h => (x_rs hN6 hs W h1 h2).mono fun e w' ⟨h3, h4⟩ => ⟨h3, h4, bt h h4⟩)
      have RS1 := Lib.hid (RS.out ns (fun k i => scP n (g k i)) hs6)
      have RS2 := Lib.hid (RS.out ns (fun k i => shP x y (g k i)) hs6)
      have RS3 := Lib.hid (RS.out (flN ns g) (flP ns g) hf6)
      have X0 : ∀ w', Below V.heap.size V w' → w'.cell? ⟨w.heap.size, 0, none⟩ = some (.int .i64 x) := fun _ h => kc h hx
      have X1 : ∀ w', Below V.heap.size V w' → w'.cell? ⟨w.heap.size, 1, none⟩ = some (.int .i64 y) := fun _ h => kc h hy
      clear hx hy hfew hN6 hs6 hp6 hf6 hns hO hN RS hk
      go_upto_region 7 with (fail)
      clear hc
      go_region_held3 (fun w' => Below V.heap.size V w') (first
        | (with_reducible exact bd1 (Below.refl _ _))
        | (with_reducible assumption))
        (first
        | ((with_reducible refine (SC.out _ (by with_reducible assumption)).mono ?_); rintro en wa ⟨S1, rfl, ho1, hb1, hv1⟩)
        | ((with_reducible refine (RSC.out _ (by with_reducible assumption)).mono ?_); rintro en wb ⟨a1, c1, rfl, ho2, hb2, hv2⟩)
        | ((with_reducible refine (RS1.out _ _ _ _ _ (ot_below ho1 hb2) ho2 (by with_reducible assumption)).mono ?_); rintro en wc ⟨rfl, hb3, hv3⟩)
        | ((with_reducible refine (SH.out _ (by with_reducible assumption)).mono ?_); rintro en wd ⟨S2, rfl, ho3, hb4, hv4⟩)
        | ((with_reducible refine (RSH.out _ (by with_reducible assumption)).mono ?_); rintro en we ⟨a2, c2, rfl, ho4, hb5, hv5⟩)
        | ((with_reducible refine (RS2.out _ _ _ _ _ (ot_below ho3 hb5) ho4 (by with_reducible assumption)).mono ?_); rintro en wf ⟨rfl, hb6, hv6⟩)
        | ((with_reducible refine (FL.out _ (by with_reducible assumption)).mono ?_); rintro en wg ⟨S3, rfl, ho5, hb7, hv7⟩)
        | ((with_reducible refine (RFL.out _ (by with_reducible assumption)).mono ?_); rintro en wh ⟨a3, c3, rfl, ho6, hb8, hv8⟩)
        | ((with_reducible refine (RS3.out _ _ _ _ _ (ot_below ho5 hb8) ho6 (by with_reducible assumption)).mono ?_); rintro en wi ⟨rfl, hb9, hv9⟩))
      all_goals
        have R := Lib.hid (NX.out _ hv9)
        clear NX SC RSC SH RSH FL RFL RS1 RS2 RS3 X0 X1 ho1 ho2 ho3 ho4 ho5 ho6
        go_wp2_with fail
        exact ⟨R.out, by simp [intOf]; omega⟩
    · obtain rfl : k = 2 := by omega
      clear hx hy hfew
      go_wp2_with fail
      go_ret
      exact ⟨rfl, hB⟩
end Go.Proofs.Ytcogoomajfahkaa.Ot
