/-
  Layer 4 (bitmap): BitmapDots walked.
-/
import Derived.Test.YtohmmljcgpamiaaBmD1
import Derived.Deep.RegionHeld3
namespace Go.Proofs.Ytohmmljcgpamiaa.Bm
open Go.RowKit
/-- A bitmap in a variable. -/
def Bx (V : World) (B : Nat) (W H n b : Nat) (f : Nat → Bool) : Prop := BoxAt V B W H (some ⟨b, 0, none⟩) n n ∧ OB V b n f
theorem bx_below {V V' : World} {B W H n b : Nat} {f : Nat → Bool} (h : Bx V B W H n b f) (hB : Below V.heap.size V V') : Bx V' B W H n b f := ⟨boxat_below h.1 hB, ob_below h.2 hB⟩
theorem bx_lt {V : World} {B W H n b : Nat} {f : Nat → Bool} (h : Bx V B W H n b f) : B < V.heap.size := block_lt_of_cell h.1.1
theorem bx_new {V : World} {W H n b : Nat} {f : Nat → Bool} (h : OB V b n f) (T : TypeId) : Bx (V.alloc (.cells #[.int .i64 W, .int .i64 H, .slice (some ⟨b, 0, none⟩) n n] T)) V.heap.size W H n b f :=
  ⟨⟨by go_cell, by go_cell, by go_cell⟩, ob_below h (ba (Below.refl _ _) _)⟩
def C7 (V : World) (B : Nat) (aA : Option Addr) (nA cA : Nat) (aB : Option Addr) (nB cB : Nat) (q l0 l1 l2 l3 : Int) : Prop :=
  V.cell? ⟨B, 0, none⟩ = some (.slice aA nA cA) ∧ V.cell? ⟨B, 1, none⟩ = some (.slice aB nB cB) ∧ V.cell? ⟨B, 2, none⟩ = some (.int .i64 q) ∧ V.cell? ⟨B, 3, none⟩ = some (.int .i64 l0) ∧ V.cell? ⟨B, 4, none⟩ = some (.int .i64 l1) ∧ V.cell? ⟨B, 5, none⟩ = some (.int .i64 l2) ∧ V.cell? ⟨B, 6, none⟩ = some (.int .i64 l3)
theorem c7_below {V V' : World} {B : Nat} {aA : Option Addr} {nA cA : Nat} {aB : Option Addr} {nB cB : Nat} {q l0 l1 l2 l3 : Int} (h : C7 V B aA nA cA aB nB cB q l0 l1 l2 l3) (hB : Below V.heap.size V V') : C7 V' B aA nA cA aB nB cB q l0 l1 l2 l3 := by
  obtain ⟨h0, h1, h2, h3, h4, h5, h6⟩ := h
  exact ⟨kc hB (block_lt_of_cell h0) h0, kc hB (block_lt_of_cell h1) h1, kc hB (block_lt_of_cell h2) h2, kc hB (block_lt_of_cell h3) h3, kc hB (block_lt_of_cell h4) h4, kc hB (block_lt_of_cell h5) h5, kc hB (block_lt_of_cell h6) h6⟩
def P4 (V : World) (B : Nat) (p0 p1 p2 p3 : Int) : Prop := V.cell? ⟨B, 0, none⟩ = some (.int .i64 p0) ∧ V.cell? ⟨B, 1, none⟩ = some (.int .i64 p1) ∧ V.cell? ⟨B, 2, none⟩ = some (.int .i64 p2) ∧ V.cell? ⟨B, 3, none⟩ = some (.int .i64 p3)
theorem p4_below {V V' : World} {B : Nat} {p0 p1 p2 p3 : Int} (h : P4 V B p0 p1 p2 p3) (hB : Below V.heap.size V V') : P4 V' B p0 p1 p2 p3 := by
  obtain ⟨h0, h1, h2, h3⟩ := h
  exact ⟨kc hB (block_lt_of_cell h0) h0, kc hB (block_lt_of_cell h1) h1, kc hB (block_lt_of_cell h2) h2, kc hB (block_lt_of_cell h3) h3⟩
/-- Three bitmaps are put into variables. -/
theorem three {V : World} {W H n b W2 H2 n2 b2 : Nat} {f f2 : Nat → Bool} {W3 H3 : Int} {g n3 c3 : Nat} (h : OB V b n f) (h2 : OB V b2 n2 f2) (T : TypeId) :
    Bx (((V.alloc (.cells #[.int .i64 W, .int .i64 H, .slice (some ⟨b, 0, none⟩) n n] T)).alloc (.cells #[.int .i64 W2, .int .i64 H2, .slice (some ⟨b2, 0, none⟩) n2 n2] T)).alloc (.cells #[.int .i64 W3, .int .i64 H3, .slice (some ⟨g, 0, none⟩) n3 c3] T)) V.heap.size W H n b f ∧
    Bx (((V.alloc (.cells #[.int .i64 W, .int .i64 H, .slice (some ⟨b, 0, none⟩) n n] T)).alloc (.cells #[.int .i64 W2, .int .i64 H2, .slice (some ⟨b2, 0, none⟩) n2 n2] T)).alloc (.cells #[.int .i64 W3, .int .i64 H3, .slice (some ⟨g, 0, none⟩) n3 c3] T)) (V.heap.size + 1) W2 H2 n2 b2 f2 ∧
    Below V.heap.size V (((V.alloc (.cells #[.int .i64 W, .int .i64 H, .slice (some ⟨b, 0, none⟩) n n] T)).alloc (.cells #[.int .i64 W2, .int .i64 H2, .slice (some ⟨b2, 0, none⟩) n2 n2] T)).alloc (.cells #[.int .i64 W3, .int .i64 H3, .slice (some ⟨g, 0, none⟩) n3 c3] T)) := by
  have h1 := bx_below (bx_below (bx_new (W := W) (H := H) h T) (ba (Below.refl _ _) (.cells #[.int .i64 W2, .int .i64 H2, .slice (some ⟨b2, 0, none⟩) n2 n2] T))) (ba (Below.refl _ _) (.cells #[.int .i64 W3, .int .i64 H3, .slice (some ⟨g, 0, none⟩) n3 c3] T))
  have h3 := bx_below (bx_new (W := W2) (H := H2) (ob_below h2 (ba (Below.refl _ V) (.cells #[.int .i64 W, .int .i64 H, .slice (some ⟨b, 0, none⟩) n n] T))) T) (ba (Below.refl _ _) (.cells #[.int .i64 W3, .int .i64 H3, .slice (some ⟨g, 0, none⟩) n3 c3] T))
  rw [World.size_alloc] at h3
  exact ⟨h1, h3, ba (ba (ba (Below.refl _ _) _) _) _⟩
theorem sm_yes2 {W H : Int} {n : Nat} {f : Nat → Bool} : sm W H n f W H n f = true := by
  unfold sm eqd
  rw [decide_eq_true rfl, decide_eq_true rfl, decide_eq_true ⟨rfl, fun _ _ => rfl⟩]; rfl
theorem count_le2 {W H n : Nat} {f : Nat → Bool} (hn : n ≤ 192) : count W H n f ≤ 1000 := by
  unfold count
  have h1 := cn_le f (nd W H n)
  have h2 : nd W H n ≤ n := by unfold nd; split <;> omega
  omega
theorem mdN_eq2 (L : Nat) (l : Nat → Int) : mdN L l = mdW L l * mdH L l := rfl
def JR (W H : Nat) (f : Nat → Bool) (V13 : World) (s16 s17 : Value) (V : World) : Prop := ∃ (r : Nat) (j : Int), r ≤ H + 2 ∧ j = (r : Int) - 1 ∧ s17 = .int .i64 j ∧ s16 = .int .i64 (seen W H f r 0 : Nat) ∧ Below V13.heap.size V13 V
def IR (W H : Nat) (f : Nat → Bool) (V13 : World) (r : Nat) (s16 s18 : Value) (V : World) : Prop := ∃ (c : Nat) (i : Int), c ≤ W + 2 ∧ i = (c : Int) - 1 ∧ s18 = .int .i64 i ∧ s16 = .int .i64 (seen W H f r c : Nat) ∧ Below V13.heap.size V13 V
theorem ir_next {W H : Nat} {f : Nat → Bool} {V13 V : World} {r c : Nat} {i j : Int} (hc : c < W + 2) (hi : i = (c : Int) - 1) (hj : j = (r : Int) - 1) (hB : Below V13.heap.size V13 V) {k : Nat} {m : Nat} (hk : seen W H f r c = k) (hm : m = k + (if D W H f i j then 1 else 0)) :
    IR W H f V13 r (.int .i64 (m : Nat)) (.int .i64 (i + 1)) V :=
  ⟨c + 1, i + 1, by omega, by omega, rfl, by rw [seen_next hc, hk, hm, ← hi, ← hj], hB⟩
theorem jr_next {W H : Nat} {f : Nat → Bool} {V13 V : World} {r c : Nat} {j : Int} (hr : r < H + 2) (hc : c = W + 2) (hj : j = (r : Int) - 1) (hB : Below V13.heap.size V13 V) {k : Nat} (hk : seen W H f r c = k) : JR W H f V13 (.int .i64 (k : Nat)) (.int .i64 (j + 1)) V :=
  ⟨r + 1, j + 1, by omega, by omega, rfl, by rw [← seen_row, ← hc, hk], hB⟩
def YR (h : Nat) (V13 : World) (s20 : Value) (V : World) : Prop := ∃ j : Nat, j ≤ h ∧ s20 = .int .i64 j ∧ Below V13.heap.size V13 V
theorem yr_next {h j : Nat} {V13 V : World} (hj : j < h) (hB : Below V13.heap.size V13 V) : YR h V13 (.int .i64 ((j : Int) + 1)) V := ⟨j + 1, by omega, by congr 1, hB⟩
set_option maxRecDepth 100000 in
set_option maxHeartbeats 8000000 in
theorem Dots_any (aA : Option Addr) (nA cA : Nat) (la : Nat → Int) (aB : Option Addr) (nB cB : Nat) (lb : Nat → Int) (q l0 l1 l2 l3 : Int) (hA : nA ≤ 9223372036854775807) (hB : nB ≤ 9223372036854775807) (hq : R64 q) (t0 : R64 l0) (t1 : R64 l1) (t2 : R64 l2) (t3 : R64 l3) (w : World)
    (hDA : LA w aA nA la) (hla : ∀ i, i < nA → R64 (la i)) (hDB : LA w aB nB lb) (hlb : ∀ i, i < nB → R64 (lb i)) :
    Calls Try.prog 5 #[caseV aA nA cA aB nB cB q l0 l1 l2 l3] w fun e w' => e = .returned (.bool true) ∧ Below w.heap.size w w' := by
  have BM := Lib.hid (fun w h1 h2 => bitmaps_any aA nA cA la aB nB cB lb q l0 l1 l2 l3 hA hB hq w h1 hla h2 hlb)
  have SM := Lib.hid (small_any aA nA cA aB nB cB q l0 l1 l2 l3 t0 t1 t2 t3)
  have HA := Lib.hid hDA
  have HB := Lib.hid hDB
  have SA := Lib.hid sanity_any
  have I1 := Lib.hid (md_in nA la)
  have I2 := Lib.hid (md_in nB lb)
  clear hDA hDB hla hlb t0 t1 t2 t3
  unfold caseV at *
  go_enter Try.func5, Try.ntmps5
  go_wp2_with fail
  refine (SA.out _).mono ?_
  rintro e V1 ⟨rfl, hB1⟩
  have h0 : Below w.heap.size w V1 := bt (ba (Below.refl _ _) _) hB1
  have hC : C7 V1 w.heap.size aA nA cA aB nB cB q l0 l1 l2 l3 := ⟨kc hB1 (by simp) (by go_cell), kc hB1 (by simp) (by go_cell), kc hB1 (by simp) (by go_cell), kc hB1 (by simp) (by go_cell), kc hB1 (by simp) (by go_cell), kc hB1 (by simp) (by go_cell), kc hB1 (by simp) (by go_cell)⟩
  clear hB1
  obtain ⟨c0, c1, c2, c3, c4, c5, c6⟩ := id hC
  go_wp2_with fail
  clear c0 c1 c2 c3 c4 c5 c6
  refine (BM.out _ (la_below HA.out h0) (la_below HB.out h0)).mono ?_
  rintro e V2 ⟨ba', bb, X1, X2, g1, m1, c1', f1, rfl, hoa, hob, hDO, hRW, hRH, hm1, hmc, hB2⟩
  clear hDO hRW hRH hm1 hmc
  replace hC := c7_below hC hB2
  replace h0 := bt h0 hB2
  clear hB2
  unfold bv
  go_upto_region 3 with (fail)
  obtain ⟨hXa, hXb, hB3⟩ := three (W := mdW nA la) (H := mdH nA la) (W2 := mdW nB lb) (H2 := mdH nB lb) (W3 := X1) (H3 := X2) (g := g1) (n3 := m1) (c3 := c1') hoa hob 28
  replace hC := c7_below hC hB3
  replace h0 := bt h0 hB3
  clear hoa hob hB3
  generalize (((V2.alloc (.cells #[.int .i64 (mdW nA la), .int .i64 (mdH nA la), .slice (some ⟨ba', 0, none⟩) (mdN nA la) (mdN nA la)] 28)).alloc (.cells #[.int .i64 (mdW nB lb), .int .i64 (mdH nB lb), .slice (some ⟨bb, 0, none⟩) (mdN nB lb) (mdN nB lb)] 28)).alloc (.cells #[.int .i64 X1, .int .i64 X2, .slice (some ⟨g1, 0, none⟩) m1 c1'] 28)) = V3 at *
  generalize V2.heap.size = Ba at *
  obtain ⟨c0, c1, c2, c3, c4, c5, c6⟩ := id hC
  go_wp2_with fail
  clear c0 c1 c2 c3 c4 c5 c6
  refine (BM.out _ (la_below HA.out h0) (la_below HB.out h0)).mono ?_
  rintro e V4 ⟨bo, bo2, Y1, Y2, g2, m2, c2', f2', rfl, hoa, hob, hDO, hRW, hRH, hm1, hmc, hB4⟩
  clear hDO hRW hRH hm1 hmc
  replace hC := c7_below hC hB4
  replace hXa := bx_below hXa hB4
  replace hXb := bx_below hXb hB4
  replace h0 := bt h0 hB4
  clear hB4
  unfold bv
  go_upto_region 4 with (fail)
  obtain ⟨hXo, hXo2, hB5⟩ := three (W := mdW nA la) (H := mdH nA la) (W2 := mdW nB lb) (H2 := mdH nB lb) (W3 := Y1) (H3 := Y2) (g := g2) (n3 := m2) (c3 := c2') hoa hob 28
  replace hC := c7_below hC hB5
  replace hXa := bx_below hXa hB5
  replace hXb := bx_below hXb hB5
  replace h0 := bt h0 hB5
  clear hoa hob hB5 hXo2
  generalize (((V4.alloc (.cells #[.int .i64 (mdW nA la), .int .i64 (mdH nA la), .slice (some ⟨bo, 0, none⟩) (mdN nA la) (mdN nA la)] 28)).alloc (.cells #[.int .i64 (mdW nB lb), .int .i64 (mdH nB lb), .slice (some ⟨bo2, 0, none⟩) (mdN nB lb) (mdN nB lb)] 28)).alloc (.cells #[.int .i64 Y1, .int .i64 Y2, .slice (some ⟨g2, 0, none⟩) m2 c2'] 28)) = V5 at *
  generalize V4.heap.size = Bo at *
  obtain ⟨c0, c1, c2, c3, c4, c5, c6⟩ := id hC
  go_wp2_with fail
  clear c0 c1 c2 c3 c4 c5 c6
  refine (SM.out _).mono ?_
  rintro e V6 ⟨rfl, hB6⟩
  replace hC := c7_below hC hB6
  replace hXa := bx_below hXa hB6
  replace hXb := bx_below hXb hB6
  replace hXo := bx_below hXo hB6
  replace h0 := bt h0 hB6
  clear hB6
  go_upto_region 5 with (fail)
  have hP : P4 (V6.alloc (.cells #[.int .i64 (sv l0), .int .i64 (sv l1), .int .i64 (sv l2), .int .i64 (sv l3)] 23)) V6.heap.size (sv l0) (sv l1) (sv l2) (sv l3) := ⟨by go_cell, by go_cell, by go_cell, by go_cell⟩
  have hB7 := ba (Below.refl _ V6) (.cells #[.int .i64 (sv l0), .int .i64 (sv l1), .int .i64 (sv l2), .int .i64 (sv l3)] 23)
  replace hC := c7_below hC hB7
  replace hXa := bx_below hXa hB7
  replace hXb := bx_below hXb hB7
  replace hXo := bx_below hXo hB7
  replace h0 := bt h0 hB7
  clear hB7 hC BM SM SA HA HB
  generalize (V6.alloc (.cells #[.int .i64 (sv l0), .int .i64 (sv l1), .int .i64 (sv l2), .int .i64 (sv l3)] 23)) = V7 at *
  generalize V6.heap.size = Bp at *
  obtain ⟨j0, j00⟩ := sv_in l0
  obtain ⟨j1, j01⟩ := sv_in l1
  obtain ⟨j2, j02⟩ := sv_in l2
  obtain ⟨j3, j03⟩ := sv_in l3
  generalize sv l0 = p0 at *
  generalize sv l1 = p1 at *
  generalize sv l2 = p2 at *
  generalize sv l3 = p3 at *
  obtain ⟨i1, i2, i3⟩ := I1.out
  obtain ⟨i4, i5, i6⟩ := I2.out
  have N1 := Lib.hid (mdN_eq2 nA la)
  have N2 := Lib.hid (mdN_eq2 nB lb)
  clear I1 I2
  generalize mdW nA la = W at *
  generalize mdH nA la = H at *
  generalize mdN nA la = n at *
  generalize mdF nA la = f at *
  generalize mdW nB lb = W2 at *
  generalize mdH nB lb = H2 at *
  generalize mdN nB lb = n2 at *
  generalize mdF nB lb = f2 at *
  have gx : gd W H n = true := (gd_iff _ _ _).2 ⟨by omega, by omega, by rw [N1.out]; simp⟩
  obtain ⟨cw, hcw, hcw18⟩ : ∃ cw : Nat, max p2 0 = (cw : Int) ∧ cw ≤ 18 := ⟨(max p2 0).toNat, by omega, by omega⟩
  obtain ⟨chh, hch, hch18⟩ : ∃ chh : Nat, max p3 0 = (chh : Int) ∧ chh ≤ 18 := ⟨(max p3 0).toNat, by omega, by omega⟩
  obtain ⟨mm, hmm⟩ : ∃ mm, mm = cw * chh := ⟨_, rfl⟩
  have hmm3 : mm ≤ 1000 := by rw [hmm]; exact Nat.le_trans (Nat.mul_le_mul hcw18 hch18) (by omega)
  have MM := Lib.hid hmm
  have HCW := Lib.hid hcw
  have HCH := Lib.hid hch
  have PA := Lib.hid (fun w h1 h2 => Paste_yes W H (some ⟨ba', 0, none⟩) n n f W2 H2 (some ⟨bb, 0, none⟩) n2 n2 f2 p0 p1 gx ⟨by omega, by omega⟩ ⟨by omega, by omega⟩ w h1 h2)
  have CR := Lib.hid (fun w h1 => Crop_yes W H (some ⟨ba', 0, none⟩) n n f p0 p1 cw chh mm gx (by rw [Bool.and_eq_true, sd_iff, sd_iff]; omega) (by rw [hmm]; simp) w h1)
  have NW := Lib.hid (New_yes W H n (by rw [Bool.and_eq_true, sd_iff, sd_iff]; omega) (by rw [N1.out]; simp))
  clear hmm hcw hch gx
  unfold bv at PA CR NW
  obtain ⟨⟨a0, a1, a2⟩, aob⟩ := id hXa
  obtain ⟨⟨b0, b1, b2⟩, bob⟩ := id hXb
  obtain ⟨q0, q1, q2, q3⟩ := id hP
  go_wp2_with fail
  clear a0 a1 a2 b0 b1 b2 q0 q1 q2 q3
  refine (PA.out _ (ob_da aob) (ob_da bob)).mono ?_
  rintro e V8 ⟨bx, rfl, hox, _, hB8⟩
  clear aob bob PA
  replace hXa := bx_below hXa hB8
  replace hXb := bx_below hXb hB8
  replace hXo := bx_below hXo hB8
  replace hP := p4_below hP hB8
  replace h0 := bt h0 hB8
  clear hB8
  go_upto_region 6 with (fail)
  have hXx := bx_new (W := W) (H := H) hox 28
  have hBn := ba (Below.refl _ V8) (.cells #[.int .i64 W, .int .i64 H, .slice (some ⟨bx, 0, none⟩) n n] 28)
  replace hXa := bx_below hXa hBn
  replace hXb := bx_below hXb hBn
  replace hXo := bx_below hXo hBn
  replace hP := p4_below hP hBn
  replace h0 := bt h0 hBn
  clear hox hBn
  generalize (V8.alloc (.cells #[.int .i64 W, .int .i64 H, .slice (some ⟨bx, 0, none⟩) n n] 28)) = V9 at *
  generalize V8.heap.size = Bv at *
  obtain ⟨⟨a0, a1, a2⟩, aob⟩ := id hXa
  obtain ⟨q0, q1, q2, q3⟩ := id hP
  have e1 := HCW.out
  have e2 := HCH.out
  go_wp2_with fail
  clear a0 a1 a2 q0 q1 q2 q3 e1 e2
  refine (CR.out _ (ob_da aob)).mono ?_
  rintro e V10 ⟨bY, rfl, hoy, _, hB10⟩
  clear aob CR
  replace hXa := bx_below hXa hB10
  replace hXb := bx_below hXb hB10
  replace hXo := bx_below hXo hB10
  replace hP := p4_below hP hB10
  replace hXx := bx_below hXx hB10
  replace h0 := bt h0 hB10
  clear hB10
  go_upto_region 7 with (fail)
  have hXy := bx_new (W := cw) (H := chh) hoy 28
  have hBn := ba (Below.refl _ V10) (.cells #[.int .i64 cw, .int .i64 chh, .slice (some ⟨bY, 0, none⟩) mm mm] 28)
  replace hXa := bx_below hXa hBn
  replace hXb := bx_below hXb hBn
  replace hXo := bx_below hXo hBn
  replace hP := p4_below hP hBn
  replace hXx := bx_below hXx hBn
  replace h0 := bt h0 hBn
  clear hoy hBn
  generalize (V10.alloc (.cells #[.int .i64 cw, .int .i64 chh, .slice (some ⟨bY, 0, none⟩) mm mm] 28)) = V11 at *
  generalize V10.heap.size = By at *
  obtain ⟨⟨a0, a1, a2⟩, aob⟩ := id hXa
  go_wp2_with fail
  clear a0 a1 a2 aob
  refine (NW.out _).mono ?_
  rintro e V12 ⟨bz, rfl, hoz, _, hB12⟩
  clear NW
  replace hXa := bx_below hXa hB12
  replace hXb := bx_below hXb hB12
  replace hXo := bx_below hXo hB12
  replace hP := p4_below hP hB12
  replace hXx := bx_below hXx hB12
  replace hXy := bx_below hXy hB12
  replace h0 := bt h0 hB12
  clear hB12
  go_upto_region 8 with (fail)
  have hXz := bx_new (W := W) (H := H) hoz 28
  have hBn := ba (Below.refl _ V12) (.cells #[.int .i64 W, .int .i64 H, .slice (some ⟨bz, 0, none⟩) n n] 28)
  replace hXa := bx_below hXa hBn
  replace hXb := bx_below hXb hBn
  replace hXo := bx_below hXo hBn
  replace hP := p4_below hP hBn
  replace hXx := bx_below hXx hBn
  replace hXy := bx_below hXy hBn
  replace h0 := bt h0 hBn
  clear hoz hBn
  generalize (V12.alloc (.cells #[.int .i64 W, .int .i64 H, .slice (some ⟨bz, 0, none⟩) n n] 28)) = V13 at *
  generalize V12.heap.size = Bz at *
  have CKX := Lib.hid (Check_any W H (some ⟨bx, 0, none⟩) n n)
  have CKY := Lib.hid (Check_any cw chh (some ⟨bY, 0, none⟩) mm mm)
  have CKZ := Lib.hid (Check_any W H (some ⟨bz, 0, none⟩) n n)
  have ck1 : ck W H n = 0 := by
    have := ck_zero W H n
    rw [(gd_iff _ _ _).2 ⟨by omega, by omega, by rw [N1.out]; simp⟩] at this
    exact eq_of_beq this
  have ck2 : ck cw chh mm = 0 := by
    have := ck_zero cw chh mm
    rw [(gd_iff _ _ _).2 ⟨by omega, by omega, by rw [MM.out]; simp⟩] at this
    exact eq_of_beq this
  rw [ck1] at CKX CKZ
  rw [ck2] at CKY
  clear ck1 ck2
  unfold bv at CKX CKY CKZ
  obtain ⟨⟨a0, a1, a2⟩, aob⟩ := id hXa
  obtain ⟨⟨x0, x1, x2⟩, xob⟩ := id hXx
  obtain ⟨⟨y0, y1, y2⟩, yob⟩ := id hXy
  obtain ⟨⟨z0, z1, z2⟩, zob⟩ := id hXz
  obtain ⟨q0, q1, q2, q3⟩ := id hP
  go_wp2_with fail
  clear a0 a1 a2 aob x0 x1 x2 xob y0 y1 y2 yob z0 z1 z2 zob q0 q1 q2 q3
  refine (CKX.out _).mono ?_
  rintro e V14 ⟨rfl, hB14⟩
  clear CKX
  replace hXa := bx_below hXa hB14
  replace hXb := bx_below hXb hB14
  replace hXo := bx_below hXo hB14
  replace hP := p4_below hP hB14
  replace hXx := bx_below hXx hB14
  replace hXy := bx_below hXy hB14
  replace hXz := bx_below hXz hB14
  replace h0 := bt h0 hB14
  clear hB14
  obtain ⟨⟨a0, a1, a2⟩, aob⟩ := id hXa
  obtain ⟨⟨x0, x1, x2⟩, xob⟩ := id hXx
  obtain ⟨⟨y0, y1, y2⟩, yob⟩ := id hXy
  obtain ⟨⟨z0, z1, z2⟩, zob⟩ := id hXz
  obtain ⟨q0, q1, q2, q3⟩ := id hP
  go_wp2_with fail
  clear a0 a1 a2 aob x0 x1 x2 xob y0 y1 y2 yob z0 z1 z2 zob q0 q1 q2 q3
  refine (CKY.out _).mono ?_
  rintro e V15 ⟨rfl, hB15⟩
  clear CKY
  replace hXa := bx_below hXa hB15
  replace hXb := bx_below hXb hB15
  replace hXo := bx_below hXo hB15
  replace hP := p4_below hP hB15
  replace hXx := bx_below hXx hB15
  replace hXy := bx_below hXy hB15
  replace hXz := bx_below hXz hB15
  replace h0 := bt h0 hB15
  clear hB15
  obtain ⟨⟨a0, a1, a2⟩, aob⟩ := id hXa
  obtain ⟨⟨x0, x1, x2⟩, xob⟩ := id hXx
  obtain ⟨⟨y0, y1, y2⟩, yob⟩ := id hXy
  obtain ⟨⟨z0, z1, z2⟩, zob⟩ := id hXz
  obtain ⟨q0, q1, q2, q3⟩ := id hP
  go_wp2_with fail
  clear a0 a1 a2 aob x0 x1 x2 xob y0 y1 y2 yob z0 z1 z2 zob q0 q1 q2 q3
  refine (CKZ.out _).mono ?_
  rintro e V16 ⟨rfl, hB16⟩
  clear CKZ
  replace hXa := bx_below hXa hB16
  replace hXb := bx_below hXb hB16
  replace hXo := bx_below hXo hB16
  replace hP := p4_below hP hB16
  replace hXx := bx_below hXx hB16
  replace hXy := bx_below hXy hB16
  replace hXz := bx_below hXz hB16
  replace h0 := bt h0 hB16
  clear hB16
  obtain ⟨⟨a0, a1, a2⟩, aob⟩ := id hXa
  obtain ⟨⟨x0, x1, x2⟩, xob⟩ := id hXx
  obtain ⟨⟨y0, y1, y2⟩, yob⟩ := id hXy
  obtain ⟨⟨z0, z1, z2⟩, zob⟩ := id hXz
  obtain ⟨q0, q1, q2, q3⟩ := id hP
  have e1 := HCW.out
  have e2 := HCH.out
  go_wp2_with fail
  clear e1 e2 a0 a1 a2 aob x0 x1 x2 xob y0 y1 y2 yob z0 z1 z2 zob q0 q1 q2 q3
  have VXE : Hid (∀ i j : Int, has W H n (pst W W2 H2 n2 f2 f p0 p1) i j = (ins W H i j && (D W H f i j || has W2 H2 n2 f2 (i - p0) (j - p1)))) := Lib.hid (fun i j => by
    rw [N1.out, N2.out]
    exact D_pst (by omega) (by omega) ⟨by omega, by omega⟩ ⟨by omega, by omega⟩ i j)
  have VAE : Hid (∀ i j : Int, has W H n f i j = D W H f i j) := Lib.hid (fun i j => by rw [N1.out]; rfl)
  have VZE : Hid (∀ i j : Int, has W H n (fun _ => false) i j = false) := Lib.hid (fun i j => by rw [N1.out]; exact D_blank i j)
  have GX := Lib.hid (fun i j w h => Get_any W H (some ⟨bx, 0, none⟩) n n (pst W W2 H2 n2 f2 f p0 p1) i j w h)
  have GA := Lib.hid (fun i j w h => Get_any W H (some ⟨ba', 0, none⟩) n n f i j w h)
  have GB := Lib.hid (fun i j w h => Get_any W2 H2 (some ⟨bb, 0, none⟩) n2 n2 f2 i j w h)
  have GZ := Lib.hid (fun i j w h => Get_any W H (some ⟨bz, 0, none⟩) n n (fun _ => false) i j w h)
  unfold bv at GX GA GB GZ
  go_loopw [16, 17] (fun s16 s17 V => JR W H f V16 s16 s17 V) (fun _ s17 _ => ((H : Int) + 1 - intOf s17).toNat)
  case atStart => exact ⟨0, -1, by omega, by omega, rfl, by rw [seen_zero]; rfl, Below.refl _ _⟩
  case round =>
    obtain ⟨r, j, hr, hj, rfl, rfl, hBj⟩ := hrel
    rename World => Vj
    rcases Nat.lt_or_ge r (H + 2) with hrH | hrH
    · have hj1 : -1 ≤ j := by omega
      have hj2 : j ≤ H := by omega
      have HJ := Lib.hid hj
      clear hj
      obtain ⟨⟨a0, a1, a2⟩, _⟩ := bx_below hXa hBj
      go_wp2_with fail
      clear a0 a1 a2
      go_loopw [16, 18] (fun s16 s18 V => IR W H f V16 r s16 s18 V) (fun _ s18 _ => ((W : Int) + 1 - intOf s18).toNat)
      case atStart => exact ⟨0, -1, by omega, by omega, rfl, rfl, hBj⟩
      case round =>
        clear hBj
        obtain ⟨c, i, hc, hi, rfl, rfl, hBi⟩ := hrel
        rename World => Vi
        have hi1 : -1 ≤ i := by omega
        obtain ⟨k, hk⟩ : ∃ k, seen W H f r c = k := ⟨_, rfl⟩
        have hk9 : k ≤ 1000 := by rw [← hk]; exact seen_le i1 i2 hr hc
        rw [hk]
        have HI := Lib.hid hi
        have HK := Lib.hid hk
        clear hi hk
        obtain ⟨⟨a0, a1, a2⟩, aob⟩ := bx_below hXa hBi
        rcases Nat.lt_or_ge c (W + 2) with hcW | hcW
        · have hi2 : i ≤ W := by have := HI.out; omega
          have IN : Hid (∀ V' m, Below V16.heap.size V16 V' → m = k + (if D W H f i j then 1 else 0) → IR W H f V16 r (.int .i64 (m : Nat)) (.int .i64 (i + 1)) V') := Lib.hid (fun V' m hB hm => ir_next hcW HI.out HJ.out hB HK.out hm)
          have gx := GX.out i j
          have ga := GA.out i j
          have gb := GB.out (i - p0) (j - p1)
          have gz := GZ.out i j
          rw [VXE.out] at gx
          rw [VAE.out] at ga
          rw [VZE.out] at gz
          obtain ⟨hb, hhb⟩ : ∃ hb, has W2 H2 n2 f2 (i - p0) (j - p1) = hb := ⟨_, rfl⟩
          rw [hhb] at gx gb
          clear hhb
          obtain ⟨⟨b0, b1, b2⟩, bob⟩ := bx_below hXb hBi
          obtain ⟨⟨x0, x1, x2⟩, xob⟩ := bx_below hXx hBi
          obtain ⟨⟨z0, z1, z2⟩, zob⟩ := bx_below hXz hBi
          obtain ⟨q0, q1, q2, q3⟩ := p4_below hP hBi
          have AD := Lib.hid (ob_da aob)
          have BD := Lib.hid (ob_da bob)
          have XD := Lib.hid (ob_da xob)
          have ZD := Lib.hid (ob_da zob)
          have LC : Hid (∀ V', Below Vi.heap.size Vi V' → (V'.cell? ⟨Ba, 0, none⟩ = some (.int .i64 W) ∧ V'.cell? ⟨Ba, 1, none⟩ = some (.int .i64 H) ∧ V'.cell? ⟨Ba, 2, none⟩ = some (.slice (some ⟨ba', 0, none⟩) n n)) ∧
              (V'.cell? ⟨Ba + 1, 0, none⟩ = some (.int .i64 W2) ∧ V'.cell? ⟨Ba + 1, 1, none⟩ = some (.int .i64 H2) ∧ V'.cell? ⟨Ba + 1, 2, none⟩ = some (.slice (some ⟨bb, 0, none⟩) n2 n2)) ∧
              (V'.cell? ⟨Bz, 0, none⟩ = some (.int .i64 W) ∧ V'.cell? ⟨Bz, 1, none⟩ = some (.int .i64 H) ∧ V'.cell? ⟨Bz, 2, none⟩ = some (.slice (some ⟨bz, 0, none⟩) n n)) ∧
              V'.cell? ⟨Bp, 0, none⟩ = some (.int .i64 p0) ∧ V'.cell? ⟨Bp, 1, none⟩ = some (.int .i64 p1)) :=
            Lib.hid (fun V' h => ⟨k3 h ⟨a0, a1, a2⟩, k3 h ⟨b0, b1, b2⟩, k3 h ⟨z0, z1, z2⟩, kc h (block_lt_of_cell q0) q0, kc h (block_lt_of_cell q1) q1⟩)
          clear aob bob xob zob b0 b1 b2 z0 z1 z2 q0 q1 q2 q3
          rcases hin : ins W H i j with _ | _
          · rw [hin, Bool.false_and] at gx
            have hD0 : D W H f i j = false := D_out hin
            rw [hD0] at ga
            have R0 := Lib.hid (fun V' hB => IN.out V' k hB (by rw [hD0]; rfl))
            have cs : i < 0 ∨ (0 ≤ i ∧ (W : Int) ≤ i) ∨ (0 ≤ i ∧ i < W ∧ j < 0) ∨ (0 ≤ i ∧ i < W ∧ 0 ≤ j ∧ (H : Int) ≤ j) := by
              have := mt (ins_iff W H i j).2 (by rw [hin]; exact Bool.false_ne_true)
              omega
            clear hin hD0 IN
            have gX := Lib.hid gx
            have gA := Lib.hid ga
            have gZ := Lib.hid gz
            clear gx ga gb gz
            rcases cs with h1 | ⟨h1, h2⟩ | ⟨h1, h2, h3⟩ | ⟨h1, h2, h3, h4⟩
            all_goals
              go_wp2_with fail
              refine (gX.out _ (XD.out)).mono ?_
              rintro e Vg0 ⟨rfl, hg0⟩
              have ac0 := hg0
              obtain ⟨⟨a0, a1, a2⟩, ⟨b0, b1, b2⟩, ⟨z0, z1, z2⟩, q0, q1⟩ := LC.out _ ac0
              go_wp2_with fail
              refine (gZ.out _ (da_below ZD.out ac0)).mono ?_
              rintro e Vg1 ⟨rfl, hg1⟩
              have ac1 := bt ac0 hg1
              obtain ⟨⟨a0, a1, a2⟩, ⟨b0, b1, b2⟩, ⟨z0, z1, z2⟩, q0, q1⟩ := LC.out _ ac1
              go_wp2_with fail
              refine (gA.out _ (da_below AD.out ac1)).mono ?_
              rintro e Vg2 ⟨rfl, hg2⟩
              have ac2 := bt ac1 hg2
              obtain ⟨⟨a0, a1, a2⟩, ⟨b0, b1, b2⟩, ⟨z0, z1, z2⟩, q0, q1⟩ := LC.out _ ac2
              have R := Lib.hid (R0.out _ (bt hBi ac2))
              go_wp2_with fail
              refine ⟨?_, ?_⟩
              · first
                  | exact R.out
                  | ((repeat apply Exists.intro)
                     exact ⟨R.out, rfl⟩)
              · first
                  | (simp [intOf]; done)
                  | (simp [intOf]; omega)
          · obtain ⟨o1, o2, o3, o4⟩ := (ins_iff _ _ _ _).1 hin
            rw [hin, Bool.true_and] at gx
            clear hin
            rcases hd : D W H f i j with _ | _
            · rw [hd] at gx ga
              rw [Bool.false_or] at gx
              have R0 := Lib.hid (fun V' hB => IN.out V' k hB (by rw [hd]; rfl))
              clear hd IN
              have gX := Lib.hid gx
              have gA := Lib.hid ga
              have gB := Lib.hid gb
              have gZ := Lib.hid gz
              clear gx ga gb gz
              go_wp2_with fail
              refine (gX.out _ (XD.out)).mono ?_
              rintro e Vg0 ⟨rfl, hg0⟩
              have ac0 := hg0
              obtain ⟨⟨a0, a1, a2⟩, ⟨b0, b1, b2⟩, ⟨z0, z1, z2⟩, q0, q1⟩ := LC.out _ ac0
              go_wp2_with fail
              refine (gA.out _ (da_below AD.out ac0)).mono ?_
              rintro e Vg1 ⟨rfl, hg1⟩
              have ac1 := bt ac0 hg1
              obtain ⟨⟨a0, a1, a2⟩, ⟨b0, b1, b2⟩, ⟨z0, z1, z2⟩, q0, q1⟩ := LC.out _ ac1
              go_wp2_with fail
              refine (gB.out _ (da_below BD.out ac1)).mono ?_
              rintro e Vg2 ⟨rfl, hg2⟩
              have ac2 := bt ac1 hg2
              obtain ⟨⟨a0, a1, a2⟩, ⟨b0, b1, b2⟩, ⟨z0, z1, z2⟩, q0, q1⟩ := LC.out _ ac2
              go_wp2_with fail
              refine (gZ.out _ (da_below ZD.out ac2)).mono ?_
              rintro e Vg3 ⟨rfl, hg3⟩
              have ac3 := bt ac2 hg3
              obtain ⟨⟨a0, a1, a2⟩, ⟨b0, b1, b2⟩, ⟨z0, z1, z2⟩, q0, q1⟩ := LC.out _ ac3
              go_wp2_with fail
              refine (gA.out _ (da_below AD.out ac3)).mono ?_
              rintro e Vg4 ⟨rfl, hg4⟩
              have ac4 := bt ac3 hg4
              obtain ⟨⟨a0, a1, a2⟩, ⟨b0, b1, b2⟩, ⟨z0, z1, z2⟩, q0, q1⟩ := LC.out _ ac4
              have R := Lib.hid (R0.out _ (bt hBi ac4))
              go_wp2_with fail
              refine ⟨?_, ?_⟩
              · first
                  | exact R.out
                  | ((repeat apply Exists.intro)
                     exact ⟨R.out, rfl⟩)
              · first
                  | (simp [intOf]; done)
                  | (simp [intOf]; omega)
            · rw [hd] at gx ga
              rw [Bool.true_or] at gx
              have R0 := Lib.hid (fun V' hB => IN.out V' (k + 1) hB (by rw [hd]; rfl))
              clear hd IN
              have gX := Lib.hid gx
              have gA := Lib.hid ga
              have gZ := Lib.hid gz
              clear gx ga gb gz
              go_wp2_with fail
              refine (gX.out _ (XD.out)).mono ?_
              rintro e Vg0 ⟨rfl, hg0⟩
              have ac0 := hg0
              obtain ⟨⟨a0, a1, a2⟩, ⟨b0, b1, b2⟩, ⟨z0, z1, z2⟩, q0, q1⟩ := LC.out _ ac0
              go_wp2_with fail
              refine (gA.out _ (da_below AD.out ac0)).mono ?_
              rintro e Vg1 ⟨rfl, hg1⟩
              have ac1 := bt ac0 hg1
              obtain ⟨⟨a0, a1, a2⟩, ⟨b0, b1, b2⟩, ⟨z0, z1, z2⟩, q0, q1⟩ := LC.out _ ac1
              go_wp2_with fail
              refine (gZ.out _ (da_below ZD.out ac1)).mono ?_
              rintro e Vg2 ⟨rfl, hg2⟩
              have ac2 := bt ac1 hg2
              obtain ⟨⟨a0, a1, a2⟩, ⟨b0, b1, b2⟩, ⟨z0, z1, z2⟩, q0, q1⟩ := LC.out _ ac2
              go_wp2_with fail
              refine (gA.out _ (da_below AD.out ac2)).mono ?_
              rintro e Vg3 ⟨rfl, hg3⟩
              have ac3 := bt ac2 hg3
              obtain ⟨⟨a0, a1, a2⟩, ⟨b0, b1, b2⟩, ⟨z0, z1, z2⟩, q0, q1⟩ := LC.out _ ac3
              have R := Lib.hid (R0.out _ (bt hBi ac3))
              go_wp2_with fail
              refine ⟨?_, ?_⟩
              · first
                  | exact R.out
                  | ((repeat apply Exists.intro)
                     exact ⟨R.out, rfl⟩)
              · first
                  | (simp [intOf]; done)
                  | (simp [intOf]; omega)
        · obtain rfl : c = W + 2 := by omega
          have hi3 : (W : Int) < i := by have := HI.out; omega
          have R := Lib.hid (jr_next (V := Vi) (f := f) hrH rfl HJ.out hBi HK.out)
          go_wp2_with fail
          refine ⟨?_, ?_⟩
          · first
              | exact R.out
              | ((repeat apply Exists.intro)
                 exact ⟨R.out, rfl⟩)
          · first
              | (simp [intOf]; done)
              | (simp [intOf]; omega)
    · obtain rfl : r = H + 2 := by omega
      have hjx : (H : Int) < j := by omega
      have hall := seen_all (W := W) (H := H) (f := f) (by omega) (by omega)
      rw [hall]
      have hcl : count W H (W * H) f = count W H n f := by rw [N1.out]
      rw [hcl]
      have hcx := count_pst (W := W) (H := H) (W2 := W2) (H2 := H2) (f := f) (f2 := f2) (p0 := p0) (p1 := p1) (by omega) (by omega) (by omega) (by omega) ⟨by omega, by omega⟩ ⟨by omega, by omega⟩
      rw [← N1.out, ← N2.out] at hcx
      have hcz := count_blank (W := W) (H := H) (by omega) (by omega)
      rw [← N1.out] at hcz
      have CA := Lib.hid (fun w h => Count_any W H (some ⟨ba', 0, none⟩) n n f w h)
      have CX := Lib.hid (fun w h => Count_any W H (some ⟨bx, 0, none⟩) n n (pst W W2 H2 n2 f2 f p0 p1) w h)
      have CB := Lib.hid (fun w h => Count_any W2 H2 (some ⟨bb, 0, none⟩) n2 n2 f2 w h)
      have CZ := Lib.hid (fun w h => Count_any W H (some ⟨bz, 0, none⟩) n n (fun _ => false) w h)
      rw [hcz, Int.natCast_zero] at CZ
      have l1 : count W H n f ≤ 1000 := count_le2 i3
      have l2 : count W2 H2 n2 f2 ≤ 1000 := count_le2 i6
      clear hall hcl hcz hj hr
      generalize count W H n f = NA at *
      generalize count W2 H2 n2 f2 = NB at *
      generalize count W H n (pst W W2 H2 n2 f2 f p0 p1) = NX at *
      have RS := Lib.hid (fun w h1 h2 => rSame_any W H (some ⟨ba', 0, none⟩) n n f W H (some ⟨bo, 0, none⟩) n n f (by omega) w h1 h2)
      have SS := Lib.hid (fun w h1 h2 => Same_any W H (some ⟨ba', 0, none⟩) n n f W H (some ⟨bo, 0, none⟩) n n f (by omega) w h1 h2)
      have GY := Lib.hid (fun i j w h => Get_any cw chh (some ⟨bY, 0, none⟩) mm mm (crp cw W H n f p0 p1) i j w h)
      have VYE : Hid (∀ i j : Int, 0 ≤ i → i < cw → 0 ≤ j → j < chh → has cw chh mm (crp cw W H n f p0 p1) i j = has W H n f (p0 + i) (p1 + j)) := Lib.hid (fun i j a b c d => by
        rw [MM.out, N1.out]
        exact D_crop (by omega) (by omega) ⟨by omega, by omega⟩ ⟨by omega, by omega⟩ a b c d)
      rw [sm_yes2] at RS SS
      unfold bv at CA CX CB CZ RS SS GY
      clear GX GB GZ VXE VZE
      obtain ⟨⟨a0, a1, a2⟩, _⟩ := bx_below hXa hBj
      go_wp2_with fail
      clear a0 a1 a2
      go_loopw [20] (fun s20 V => YR chh V16 s20 V) (fun s20 _ => chh - (intOf s20).toNat)
      case atStart => exact ⟨0, by omega, rfl, hBj⟩
      case round =>
        clear hBj
        obtain ⟨jy, hjy, rfl, hBj⟩ := hrel
        rename World => Vj
        rcases Nat.lt_or_ge jy chh with hjc | hjc
        · obtain ⟨⟨y0, y1, y2⟩, _⟩ := bx_below hXy hBj
          go_wp2_with fail
          clear y0 y1 y2
          go_loopw [21] (fun s21 V => YR cw V16 s21 V) (fun s21 _ => cw - (intOf s21).toNat)
          case atStart => exact ⟨0, by omega, rfl, hBj⟩
          case round =>
            clear hBj
            obtain ⟨iy, hiy, rfl, hBi⟩ := hrel
            rename World => Vi
            obtain ⟨⟨y0, y1, y2⟩, yob⟩ := bx_below hXy hBi
            rcases Nat.lt_or_ge iy cw with hic | hic
            · obtain ⟨⟨a0, a1, a2⟩, aob⟩ := bx_below hXa hBi
              obtain ⟨q0, q1, q2, q3⟩ := p4_below hP hBi
              have YD := Lib.hid (ob_da yob)
              have AD := Lib.hid (ob_da aob)
              have gy := GY.out iy jy
              have ga := GA.out (p0 + iy) (p1 + jy)
              rw [VYE.out iy jy (by omega) (by omega) (by omega) (by omega)] at gy
              generalize has W H n f (p0 + iy) (p1 + jy) = gv at *
              have gY := Lib.hid gy
              have gA := Lib.hid ga
              have R0 := Lib.hid (fun V' h => yr_next (V13 := V16) (V := V') hic (bt hBi h))
              have k1 : IntKind.i64.wrap (p0 + (iy : Int)) = p0 + iy := iwrap_id ⟨by omega, by omega⟩
              have k2 : IntKind.i64.wrap (p1 + (jy : Int)) = p1 + jy := iwrap_id ⟨by omega, by omega⟩
              have K1 := Lib.hid k1
              have K2 := Lib.hid k2
              clear gy ga k1 k2
              go_wp2_with fail
              have y0' : ∀ w', Below Vi.heap.size Vi w' → w'.cell? ⟨By, 0, none⟩ = some (.int .i64 cw) := fun _ h => kc h (block_lt_of_cell y0) y0
              have y1' : ∀ w', Below Vi.heap.size Vi w' → w'.cell? ⟨By, 1, none⟩ = some (.int .i64 chh) := fun _ h => kc h (block_lt_of_cell y1) y1
              have y2' : ∀ w', Below Vi.heap.size Vi w' → w'.cell? ⟨By, 2, none⟩ = some (.slice (some ⟨bY, 0, none⟩) mm mm) := fun _ h => kc h (block_lt_of_cell y2) y2
              have a0' : ∀ w', Below Vi.heap.size Vi w' → w'.cell? ⟨Ba, 0, none⟩ = some (.int .i64 W) := fun _ h => kc h (block_lt_of_cell a0) a0
              have a1' : ∀ w', Below Vi.heap.size Vi w' → w'.cell? ⟨Ba, 1, none⟩ = some (.int .i64 H) := fun _ h => kc h (block_lt_of_cell a1) a1
              have a2' : ∀ w', Below Vi.heap.size Vi w' → w'.cell? ⟨Ba, 2, none⟩ = some (.slice (some ⟨ba', 0, none⟩) n n) := fun _ h => kc h (block_lt_of_cell a2) a2
              have q0' : ∀ w', Below Vi.heap.size Vi w' → w'.cell? ⟨Bp, 0, none⟩ = some (.int .i64 p0) := fun _ h => kc h (block_lt_of_cell q0) q0
              have q1' : ∀ w', Below Vi.heap.size Vi w' → w'.cell? ⟨Bp, 1, none⟩ = some (.int .i64 p1) := fun _ h => kc h (block_lt_of_cell q1) q1
              have k1 := K1.out
              have k2 := K2.out
              clear yob aob y0 y1 y2 a0 a1 a2 q0 q1 q2 q3
              go_region_held3 (fun w' => Below Vi.heap.size Vi w') (first
                | (with_reducible exact bd1 (Below.refl _ _))
                | (with_reducible exact bt (by assumption) hba)
                | (with_reducible assumption))
                (first
                | ((with_reducible refine (gY.out _ (da_below YD.out (by with_reducible assumption))).mono ?_); rintro en wa ⟨rfl, hba⟩; have hbw : Below Vi.heap.size Vi wa := bt (by with_reducible assumption) hba)
                | ((with_reducible refine (gA.out _ (da_below AD.out (by with_reducible assumption))).mono ?_); rintro en wa ⟨rfl, hba⟩; have hbw : Below Vi.heap.size Vi wa := bt (by with_reducible assumption) hba))
              have R := Lib.hid (R0.out wa hbw)
              clear k1 k2 K1 K2 y0' y1' y2' a0' a1' a2' q0' q1' hba
              cases gv
              all_goals
                go_wp2_with fail
                refine ⟨?_, ?_⟩
                · first
                    | exact R.out
                    | ((repeat apply Exists.intro)
                       exact ⟨R.out, rfl⟩)
                · first
                    | (simp [intOf]; done)
                    | (simp [intOf]; omega)
            · obtain rfl : iy = cw := by omega
              have R := Lib.hid (yr_next (V13 := V16) (V := Vi) hjc hBi)
              clear yob
              go_wp2_with fail
              refine ⟨?_, ?_⟩
              · first
                  | exact R.out
                  | ((repeat apply Exists.intro)
                     exact ⟨R.out, rfl⟩)
              · first
                  | (simp [intOf]; done)
                  | (simp [intOf]; omega)
        · obtain rfl : jy = chh := by omega
          obtain ⟨⟨y0, y1, y2⟩, yob⟩ := bx_below hXy hBj
          clear yob
          obtain ⟨⟨a0, a1, a2⟩, aob⟩ := bx_below hXa hBj
          obtain ⟨⟨b0, b1, b2⟩, bob⟩ := bx_below hXb hBj
          obtain ⟨⟨x0, x1, x2⟩, xob⟩ := bx_below hXx hBj
          obtain ⟨⟨z0, z1, z2⟩, zob⟩ := bx_below hXz hBj
          obtain ⟨⟨o0, o1, o2⟩, oob⟩ := bx_below hXo hBj
          have AD := Lib.hid (ob_da aob)
          have BD := Lib.hid (ob_da bob)
          have XD := Lib.hid (ob_da xob)
          have ZD := Lib.hid (ob_da zob)
          have OD := Lib.hid (ob_da oob)
          have k1 : IntKind.i64.wrap ((NA : Int) + NB) = (NA : Int) + NB := iwrap_id ⟨by omega, by omega⟩
          have k2 : (NX : Int) ≤ (NA : Int) + NB := by omega
          have k3' : decide ((NX : Int) ≤ (NA : Int) + NB) = true := decide_eq_true k2
          have k4 : decide (NX ≤ NA + NB) = true := decide_eq_true (by omega)
          have K := Lib.hid (And.intro k1 (And.intro k3' k4))
          clear k1 k3' k4 aob bob xob zob oob hXa hXb hXx hXz hXo hXy hP
          go_wp2_with fail
          have a0' : ∀ w', Below Vj.heap.size Vj w' → w'.cell? ⟨Ba, 0, none⟩ = some (.int .i64 W) := fun _ h => kc h (block_lt_of_cell a0) a0
          have a1' : ∀ w', Below Vj.heap.size Vj w' → w'.cell? ⟨Ba, 1, none⟩ = some (.int .i64 H) := fun _ h => kc h (block_lt_of_cell a1) a1
          have a2' : ∀ w', Below Vj.heap.size Vj w' → w'.cell? ⟨Ba, 2, none⟩ = some (.slice (some ⟨ba', 0, none⟩) n n) := fun _ h => kc h (block_lt_of_cell a2) a2
          have b0' : ∀ w', Below Vj.heap.size Vj w' → w'.cell? ⟨(Ba + 1), 0, none⟩ = some (.int .i64 W2) := fun _ h => kc h (block_lt_of_cell b0) b0
          have b1' : ∀ w', Below Vj.heap.size Vj w' → w'.cell? ⟨(Ba + 1), 1, none⟩ = some (.int .i64 H2) := fun _ h => kc h (block_lt_of_cell b1) b1
          have b2' : ∀ w', Below Vj.heap.size Vj w' → w'.cell? ⟨(Ba + 1), 2, none⟩ = some (.slice (some ⟨bb, 0, none⟩) n2 n2) := fun _ h => kc h (block_lt_of_cell b2) b2
          have x0' : ∀ w', Below Vj.heap.size Vj w' → w'.cell? ⟨Bv, 0, none⟩ = some (.int .i64 W) := fun _ h => kc h (block_lt_of_cell x0) x0
          have x1' : ∀ w', Below Vj.heap.size Vj w' → w'.cell? ⟨Bv, 1, none⟩ = some (.int .i64 H) := fun _ h => kc h (block_lt_of_cell x1) x1
          have x2' : ∀ w', Below Vj.heap.size Vj w' → w'.cell? ⟨Bv, 2, none⟩ = some (.slice (some ⟨bx, 0, none⟩) n n) := fun _ h => kc h (block_lt_of_cell x2) x2
          have z0' : ∀ w', Below Vj.heap.size Vj w' → w'.cell? ⟨Bz, 0, none⟩ = some (.int .i64 W) := fun _ h => kc h (block_lt_of_cell z0) z0
          have z1' : ∀ w', Below Vj.heap.size Vj w' → w'.cell? ⟨Bz, 1, none⟩ = some (.int .i64 H) := fun _ h => kc h (block_lt_of_cell z1) z1
          have z2' : ∀ w', Below Vj.heap.size Vj w' → w'.cell? ⟨Bz, 2, none⟩ = some (.slice (some ⟨bz, 0, none⟩) n n) := fun _ h => kc h (block_lt_of_cell z2) z2
          have o0' : ∀ w', Below Vj.heap.size Vj w' → w'.cell? ⟨Bo, 0, none⟩ = some (.int .i64 W) := fun _ h => kc h (block_lt_of_cell o0) o0
          have o1' : ∀ w', Below Vj.heap.size Vj w' → w'.cell? ⟨Bo, 1, none⟩ = some (.int .i64 H) := fun _ h => kc h (block_lt_of_cell o1) o1
          have o2' : ∀ w', Below Vj.heap.size Vj w' → w'.cell? ⟨Bo, 2, none⟩ = some (.slice (some ⟨bo, 0, none⟩) n n) := fun _ h => kc h (block_lt_of_cell o2) o2
          obtain ⟨k1, k3', k4⟩ := K.out
          clear a0 a1 a2 b0 b1 b2 x0 x1 x2 z0 z1 z2 o0 o1 o2 y0 y1 y2 K hcx
          go_region_held3 (fun w' => Below Vj.heap.size Vj w') (first
            | (with_reducible exact bd1 (Below.refl _ _))
            | (with_reducible exact bt (by assumption) hba)
            | (with_reducible assumption))
            (first
            | ((with_reducible refine (CA.out _ (da_below AD.out (by with_reducible assumption))).mono ?_); rintro en wa ⟨rfl, hba⟩; have hbw : Below Vj.heap.size Vj wa := bt (by with_reducible assumption) hba)
            | ((with_reducible refine (CX.out _ (da_below XD.out (by with_reducible assumption))).mono ?_); rintro en wa ⟨rfl, hba⟩; have hbw : Below Vj.heap.size Vj wa := bt (by with_reducible assumption) hba)
            | ((with_reducible refine (CB.out _ (da_below BD.out (by with_reducible assumption))).mono ?_); rintro en wa ⟨rfl, hba⟩; have hbw : Below Vj.heap.size Vj wa := bt (by with_reducible assumption) hba)
            | ((with_reducible refine (CZ.out _ (da_below ZD.out (by with_reducible assumption))).mono ?_); rintro en wa ⟨rfl, hba⟩; have hbw : Below Vj.heap.size Vj wa := bt (by with_reducible assumption) hba)
            | ((with_reducible refine (RS.out _ (da_below AD.out (by with_reducible assumption)) (da_below OD.out (by with_reducible assumption))).mono ?_); rintro en wa ⟨rfl, hba⟩; have hbw : Below Vj.heap.size Vj wa := bt (by with_reducible assumption) hba)
            | ((with_reducible refine (SS.out _ (da_below AD.out (by with_reducible assumption)) (da_below OD.out (by with_reducible assumption))).mono ?_); rintro en wa ⟨rfl, hba⟩; have hbw : Below Vj.heap.size Vj wa := bt (by with_reducible assumption) hba))
          go_wp2
          go_ret
          exact ⟨rfl, bt (bt h0 hBj) hbw⟩
end Go.Proofs.Ytohmmljcgpamiaa.Bm
