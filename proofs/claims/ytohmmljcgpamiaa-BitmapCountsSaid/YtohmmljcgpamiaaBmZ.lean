/-
  Layer 4 (bitmap): BitmapCounts walked.
-/
import Derived.Test.YtohmmljcgpamiaaBmY
import Derived.Deep.RegionHeld3
namespace Go.Proofs.Ytohmmljcgpamiaa.Bm
open Go.RowKit
/-- What BitmapCounts counts. -/
structure CF (W H n : Nat) (f : Nat → Bool) (W2 H2 n2 : Nat) (f2 : Nat → Bool) (W3 H3 n3 : Nat) (f3 : Nat → Bool) (p0 p1 p2 p3 : Int) (XY YZ XZ YX CX CY : Nat) : Prop where
  xy : only W H n f W2 H2 n2 f2 p0 p1 0 0 = XY
  yz : only W2 H2 n2 f2 W3 H3 n3 f3 p2 p3 0 0 = YZ
  xz : only W H n f W3 H3 n3 f3 (p0 + p2) (p1 + p3) 0 0 = XZ
  yx : only W2 H2 n2 f2 W H n f (-p0) (-p1) 0 0 = YX
  cx : count W H n f = CX
  cy : count W2 H2 n2 f2 = CY
  tri : XZ ≤ XY + YZ
  turn : (CX : Int) - XY = CY - YX
  self : only W H n f W H n f 0 0 0 0 = 0
  nul : only W H n f 0 0 0 (fun _ => false) p0 p1 0 0 = CX
  b1 : XY ≤ 1000
  b2 : YZ ≤ 1000
  b3 : XZ ≤ 1000
  b4 : YX ≤ 1000
  b5 : CX ≤ 1000
  b6 : CY ≤ 1000
theorem only_le {W H n : Nat} {f : Nat → Bool} {W2 H2 : Int} {n2 : Nat} {f2 : Nat → Bool} {a b c d : Int} (hn : n ≤ 192) : only W H n f W2 H2 n2 f2 a b c d ≤ 1000 := by
  unfold only
  have h1 := cn_le (onlyQ W H f W2 H2 n2 f2 a b c d) (nd W H n)
  have h2 : nd W H n ≤ n := by unfold nd; split <;> omega
  omega
theorem count_le {W H n : Nat} {f : Nat → Bool} (hn : n ≤ 192) : count W H n f ≤ 1000 := by
  unfold count
  have h1 := cn_le f (nd W H n)
  have h2 : nd W H n ≤ n := by unfold nd; split <;> omega
  omega
theorem mdN_eq (L : Nat) (l : Nat → Int) : mdN L l = mdW L l * mdH L l := rfl
def sd2 (p : Int) : Prop := -6 ≤ p ∧ p ≤ 18
theorem cf_make {W H n : Nat} {f : Nat → Bool} {W2 H2 n2 : Nat} {f2 : Nat → Bool} {W3 H3 n3 : Nat} {f3 : Nat → Bool} {p0 p1 p2 p3 : Int} (hn : n = W * H) (hn2 : n2 = W2 * H2) (hn3 : n3 = W3 * H3) (hW : W ≤ 16) (hH : H ≤ 12) (hW2 : W2 ≤ 16) (hH2 : H2 ≤ 12) (h192 : n ≤ 192) (h1922 : n2 ≤ 192)
    (h0 : sd2 p0) (h1 : sd2 p1) (h2 : sd2 p2) (h3 : sd2 p3) : ∃ XY YZ XZ YX CX CY : Nat, CF W H n f W2 H2 n2 f2 W3 H3 n3 f3 p0 p1 p2 p3 XY YZ XZ YX CX CY := by
  obtain ⟨a0, b0⟩ := h0
  obtain ⟨a1, b1⟩ := h1
  obtain ⟨a2, b2⟩ := h2
  obtain ⟨a3, b3⟩ := h3
  refine ⟨_, _, _, _, _, _, ⟨rfl, rfl, rfl, rfl, rfl, rfl, ?_, ?_, ?_, ?_, only_le h192, only_le h1922, only_le h192, only_le h1922, count_le h192, count_le h1922⟩⟩
  · subst hn hn2 hn3
    exact only_tri (by omega) (by omega) (by omega) (by omega) ⟨by omega, by omega⟩ ⟨by omega, by omega⟩ ⟨by omega, by omega⟩ ⟨by omega, by omega⟩ ⟨by omega, by omega⟩ ⟨by omega, by omega⟩
  · subst hn hn2
    exact only_turn (by omega) (by omega) (by omega) (by omega) ⟨by omega, by omega⟩ ⟨by omega, by omega⟩ ⟨by omega, by omega⟩ ⟨by omega, by omega⟩
  · subst hn
    exact only_self (by omega) (by omega)
  · subst hn
    exact only_none (by omega) (by omega) ⟨by omega, by omega⟩ ⟨by omega, by omega⟩
/-- The memory of BitmapCounts. -/
structure CS (V : World) (Bq Bx By Bz Bp : Nat) (q0 q1 : Int) (W H n b : Nat) (f : Nat → Bool) (W2 H2 n2 b2 : Nat) (f2 : Nat → Bool) (W3 H3 n3 b3 : Nat) (f3 : Nat → Bool) (p0 p1 p2 p3 : Int) : Prop where
  q : V.cell? ⟨Bq, 0, none⟩ = some (.int .i64 q0) ∧ V.cell? ⟨Bq, 1, none⟩ = some (.int .i64 q1)
  x : BoxAt V Bx W H (some ⟨b, 0, none⟩) n n
  y : BoxAt V By W2 H2 (some ⟨b2, 0, none⟩) n2 n2
  z : BoxAt V Bz W3 H3 (some ⟨b3, 0, none⟩) n3 n3
  p : V.cell? ⟨Bp, 0, none⟩ = some (.int .i64 p0) ∧ V.cell? ⟨Bp, 1, none⟩ = some (.int .i64 p1) ∧ V.cell? ⟨Bp, 2, none⟩ = some (.int .i64 p2) ∧ V.cell? ⟨Bp, 3, none⟩ = some (.int .i64 p3)
  ox : OB V b n f
  oy : OB V b2 n2 f2
  oz : OB V b3 n3 f3
theorem cs_below {V V' : World} {Bq Bx By Bz Bp : Nat} {q0 q1 : Int} {W H n b : Nat} {f : Nat → Bool} {W2 H2 n2 b2 : Nat} {f2 : Nat → Bool} {W3 H3 n3 b3 : Nat} {f3 : Nat → Bool} {p0 p1 p2 p3 : Int} (h : CS V Bq Bx By Bz Bp q0 q1 W H n b f W2 H2 n2 b2 f2 W3 H3 n3 b3 f3 p0 p1 p2 p3) (hB : Below V.heap.size V V') :
    CS V' Bq Bx By Bz Bp q0 q1 W H n b f W2 H2 n2 b2 f2 W3 H3 n3 b3 f3 p0 p1 p2 p3 := by
  obtain ⟨⟨a0, a1⟩, hx, hy, hz, ⟨e0, e1, e2, e3⟩, ox, oy, oz⟩ := h
  exact ⟨⟨kc hB (block_lt_of_cell a0) a0, kc hB (block_lt_of_cell a1) a1⟩, boxat_below hx hB, boxat_below hy hB, boxat_below hz hB, ⟨kc hB (block_lt_of_cell e0) e0, kc hB (block_lt_of_cell e1) e1, kc hB (block_lt_of_cell e2) e2, kc hB (block_lt_of_cell e3) e3⟩, ob_below ox hB, ob_below oy hB, ob_below oz hB⟩
set_option maxRecDepth 100000 in
set_option maxHeartbeats 4000000 in
theorem Counts_any (aA : Option Addr) (nA cA : Nat) (la : Nat → Int) (aB : Option Addr) (nB cB : Nat) (lb : Nat → Int) (q l0 l1 l2 l3 : Int) (hA : nA ≤ 9223372036854775807) (hB : nB ≤ 9223372036854775807) (hq : R64 q) (t0 : R64 l0) (t1 : R64 l1) (t2 : R64 l2) (t3 : R64 l3)
    (aC : Option Addr) (nC cC : Nat) (lc : Nat → Int) (hC : nC ≤ 9223372036854775807) (q0 q1 : Int) (hq0 : R64 q0) (hq1 : R64 q1) (w : World)
    (hDA : LA w aA nA la) (hla : ∀ i, i < nA → R64 (la i)) (hDB : LA w aB nB lb) (hlb : ∀ i, i < nB → R64 (lb i)) (hDC : LA w aC nC lc) (hlc : ∀ i, i < nC → R64 (lc i)) :
    Calls Try.prog 7 #[caseV aA nA cA aB nB cB q l0 l1 l2 l3, .slice aC nC cC, .agg #[.int .i64 q0, .int .i64 q1]] w fun e w' => e = .returned (.bool true) ∧ Below w.heap.size w w' := by
  have BM := Lib.hid (fun w h1 h2 => bitmaps_any aA nA cA la aB nB cB lb q l0 l1 l2 l3 hA hB hq w h1 hla h2 hlb)
  have MC := Lib.hid (fun w hD => Made2_any aC nC cC lc hC w hD hlc)
  have SM := Lib.hid (small_any aA nA cA aB nB cB q l0 l1 l2 l3 t0 t1 t2 t3)
  have HA := Lib.hid hDA
  have HB := Lib.hid hDB
  have HC := Lib.hid hDC
  have SA := Lib.hid sanity_any
  have I1 := Lib.hid (md_in nA la)
  have I2 := Lib.hid (md_in nB lb)
  have I3 := Lib.hid (md_in nC lc)
  have M0 := Lib.hid (mod_any q0 20 hq0 (by omega))
  have M1 := Lib.hid (mod_any q1 8 hq1 (by omega))
  clear hDA hDB hDC hla hlb hlc t0 t1 t2 t3 hq0 hq1
  unfold caseV at *
  go_enter Try.func7, Try.ntmps7
  go_wp2_with fail
  refine (SA.out _).mono ?_
  rintro e V1 ⟨rfl, hB1⟩
  have h0 : Below w.heap.size w V1 := bt (ba (ba (Below.refl _ _) _) _) hB1
  have c0 : V1.cell? ⟨w.heap.size, 0, none⟩ = some (.slice aA nA cA) := kc hB1 (by simp; omega) (by go_cell)
  have c1 : V1.cell? ⟨w.heap.size, 1, none⟩ = some (.slice aB nB cB) := kc hB1 (by simp; omega) (by go_cell)
  have c2 : V1.cell? ⟨w.heap.size, 2, none⟩ = some (.int .i64 q) := kc hB1 (by simp; omega) (by go_cell)
  have c3 : V1.cell? ⟨w.heap.size, 3, none⟩ = some (.int .i64 l0) := kc hB1 (by simp; omega) (by go_cell)
  have c4 : V1.cell? ⟨w.heap.size, 4, none⟩ = some (.int .i64 l1) := kc hB1 (by simp; omega) (by go_cell)
  have c5 : V1.cell? ⟨w.heap.size, 5, none⟩ = some (.int .i64 l2) := kc hB1 (by simp; omega) (by go_cell)
  have c6 : V1.cell? ⟨w.heap.size, 6, none⟩ = some (.int .i64 l3) := kc hB1 (by simp; omega) (by go_cell)
  have d0 : V1.cell? ⟨w.heap.size + 1, 0, none⟩ = some (.int .i64 q0) := kc hB1 (by simp) (by go_cell)
  have d1 : V1.cell? ⟨w.heap.size + 1, 1, none⟩ = some (.int .i64 q1) := kc hB1 (by simp) (by go_cell)
  clear hB1
  go_wp2_with fail
  refine (BM.out _ (la_below HA.out h0) (la_below HB.out h0)).mono ?_
  rintro e V2 ⟨ba', bb, W', H', g, n, c, f, rfl, hoa, hob, hDO, hRW, hRH, hn, hc, hB2⟩
  replace h0 := bt h0 hB2
  replace d0 := kc hB2 (block_lt_of_cell d0) d0
  replace d1 := kc hB2 (block_lt_of_cell d1) d1
  have k7 : V2.cell? ⟨w.heap.size, 0, none⟩ = some (.slice aA nA cA) ∧ V2.cell? ⟨w.heap.size, 1, none⟩ = some (.slice aB nB cB) ∧ V2.cell? ⟨w.heap.size, 2, none⟩ = some (.int .i64 q) ∧ V2.cell? ⟨w.heap.size, 3, none⟩ = some (.int .i64 l0) ∧ V2.cell? ⟨w.heap.size, 4, none⟩ = some (.int .i64 l1) ∧ V2.cell? ⟨w.heap.size, 5, none⟩ = some (.int .i64 l2) ∧ V2.cell? ⟨w.heap.size, 6, none⟩ = some (.int .i64 l3) :=
    ⟨kc hB2 (block_lt_of_cell c0) c0, kc hB2 (block_lt_of_cell c0) c1, kc hB2 (block_lt_of_cell c0) c2, kc hB2 (block_lt_of_cell c0) c3, kc hB2 (block_lt_of_cell c0) c4, kc hB2 (block_lt_of_cell c0) c5, kc hB2 (block_lt_of_cell c0) c6⟩
  clear hB2 c0 c1 c2 c3 c4 c5 c6 hDO hRW hRH hn hc
  obtain ⟨c0, c1, c2, c3, c4, c5, c6⟩ := k7
  have hV2 : w.heap.size + 1 < V2.heap.size := block_lt_of_cell d0
  unfold bv
  go_wp2_with fail
  have x0 : (((V2.alloc (.cells #[.int .i64 (mdW nA la), .int .i64 (mdH nA la), .slice (some ⟨ba', 0, none⟩) (mdN nA la) (mdN nA la)] 28)).alloc (.cells #[.int .i64 (mdW nB lb), .int .i64 (mdH nB lb), .slice (some ⟨bb, 0, none⟩) (mdN nB lb) (mdN nB lb)] 28)).alloc (.cells #[.int .i64 W', .int .i64 H', .slice (some ⟨g, 0, none⟩) n c] 28)).cell? ⟨V2.heap.size, 0, none⟩ = some (.int .i64 (mdW nA la)) := by go_cell
  have x1 : (((V2.alloc (.cells #[.int .i64 (mdW nA la), .int .i64 (mdH nA la), .slice (some ⟨ba', 0, none⟩) (mdN nA la) (mdN nA la)] 28)).alloc (.cells #[.int .i64 (mdW nB lb), .int .i64 (mdH nB lb), .slice (some ⟨bb, 0, none⟩) (mdN nB lb) (mdN nB lb)] 28)).alloc (.cells #[.int .i64 W', .int .i64 H', .slice (some ⟨g, 0, none⟩) n c] 28)).cell? ⟨V2.heap.size, 1, none⟩ = some (.int .i64 (mdH nA la)) := by go_cell
  have x2 : (((V2.alloc (.cells #[.int .i64 (mdW nA la), .int .i64 (mdH nA la), .slice (some ⟨ba', 0, none⟩) (mdN nA la) (mdN nA la)] 28)).alloc (.cells #[.int .i64 (mdW nB lb), .int .i64 (mdH nB lb), .slice (some ⟨bb, 0, none⟩) (mdN nB lb) (mdN nB lb)] 28)).alloc (.cells #[.int .i64 W', .int .i64 H', .slice (some ⟨g, 0, none⟩) n c] 28)).cell? ⟨V2.heap.size, 2, none⟩ = some (.slice (some ⟨ba', 0, none⟩) (mdN nA la) (mdN nA la)) := by go_cell
  have y0 : (((V2.alloc (.cells #[.int .i64 (mdW nA la), .int .i64 (mdH nA la), .slice (some ⟨ba', 0, none⟩) (mdN nA la) (mdN nA la)] 28)).alloc (.cells #[.int .i64 (mdW nB lb), .int .i64 (mdH nB lb), .slice (some ⟨bb, 0, none⟩) (mdN nB lb) (mdN nB lb)] 28)).alloc (.cells #[.int .i64 W', .int .i64 H', .slice (some ⟨g, 0, none⟩) n c] 28)).cell? ⟨V2.heap.size + 1, 0, none⟩ = some (.int .i64 (mdW nB lb)) := by go_cell
  have y1 : (((V2.alloc (.cells #[.int .i64 (mdW nA la), .int .i64 (mdH nA la), .slice (some ⟨ba', 0, none⟩) (mdN nA la) (mdN nA la)] 28)).alloc (.cells #[.int .i64 (mdW nB lb), .int .i64 (mdH nB lb), .slice (some ⟨bb, 0, none⟩) (mdN nB lb) (mdN nB lb)] 28)).alloc (.cells #[.int .i64 W', .int .i64 H', .slice (some ⟨g, 0, none⟩) n c] 28)).cell? ⟨V2.heap.size + 1, 1, none⟩ = some (.int .i64 (mdH nB lb)) := by go_cell
  have y2 : (((V2.alloc (.cells #[.int .i64 (mdW nA la), .int .i64 (mdH nA la), .slice (some ⟨ba', 0, none⟩) (mdN nA la) (mdN nA la)] 28)).alloc (.cells #[.int .i64 (mdW nB lb), .int .i64 (mdH nB lb), .slice (some ⟨bb, 0, none⟩) (mdN nB lb) (mdN nB lb)] 28)).alloc (.cells #[.int .i64 W', .int .i64 H', .slice (some ⟨g, 0, none⟩) n c] 28)).cell? ⟨V2.heap.size + 1, 2, none⟩ = some (.slice (some ⟨bb, 0, none⟩) (mdN nB lb) (mdN nB lb)) := by go_cell
  have hBx : Below V2.heap.size V2 (((V2.alloc (.cells #[.int .i64 (mdW nA la), .int .i64 (mdH nA la), .slice (some ⟨ba', 0, none⟩) (mdN nA la) (mdN nA la)] 28)).alloc (.cells #[.int .i64 (mdW nB lb), .int .i64 (mdH nB lb), .slice (some ⟨bb, 0, none⟩) (mdN nB lb) (mdN nB lb)] 28)).alloc (.cells #[.int .i64 W', .int .i64 H', .slice (some ⟨g, 0, none⟩) n c] 28)) := ba (ba (ba (Below.refl _ _) _) _) _
  generalize (((V2.alloc (.cells #[.int .i64 (mdW nA la), .int .i64 (mdH nA la), .slice (some ⟨ba', 0, none⟩) (mdN nA la) (mdN nA la)] 28)).alloc (.cells #[.int .i64 (mdW nB lb), .int .i64 (mdH nB lb), .slice (some ⟨bb, 0, none⟩) (mdN nB lb) (mdN nB lb)] 28)).alloc (.cells #[.int .i64 W', .int .i64 H', .slice (some ⟨g, 0, none⟩) n c] 28)) = V3 at *
  replace hoa := ob_below hoa hBx
  replace hob := ob_below hob hBx
  replace d0 := kc hBx (block_lt_of_cell d0) d0
  replace d1 := kc hBx (block_lt_of_cell d1) d1
  replace h0 := bt h0 hBx
  have k7 : V3.cell? ⟨w.heap.size, 0, none⟩ = some (.slice aA nA cA) ∧ V3.cell? ⟨w.heap.size, 1, none⟩ = some (.slice aB nB cB) ∧ V3.cell? ⟨w.heap.size, 2, none⟩ = some (.int .i64 q) ∧ V3.cell? ⟨w.heap.size, 3, none⟩ = some (.int .i64 l0) ∧ V3.cell? ⟨w.heap.size, 4, none⟩ = some (.int .i64 l1) ∧ V3.cell? ⟨w.heap.size, 5, none⟩ = some (.int .i64 l2) ∧ V3.cell? ⟨w.heap.size, 6, none⟩ = some (.int .i64 l3) :=
    ⟨kc hBx (block_lt_of_cell c0) c0, kc hBx (block_lt_of_cell c0) c1, kc hBx (block_lt_of_cell c0) c2, kc hBx (block_lt_of_cell c0) c3, kc hBx (block_lt_of_cell c0) c4, kc hBx (block_lt_of_cell c0) c5, kc hBx (block_lt_of_cell c0) c6⟩
  clear hBx c0 c1 c2 c3 c4 c5 c6
  refine (MC.out _ (la_below HC.out h0)).mono ?_
  rintro e V4 ⟨bc, rfl, hoc, _, hB4⟩
  generalize V2.heap.size = Bx at *
  replace hoa := ob_below hoa hB4
  replace hob := ob_below hob hB4
  replace d0 := kc hB4 (block_lt_of_cell d0) d0
  replace d1 := kc hB4 (block_lt_of_cell d1) d1
  replace h0 := bt h0 hB4
  have kk := k3 hB4 ⟨x0, x1, x2⟩
  clear x0 x1 x2
  obtain ⟨x0, x1, x2⟩ := kk
  have kk := k3 hB4 ⟨y0, y1, y2⟩
  clear y0 y1 y2
  obtain ⟨y0, y1, y2⟩ := kk
  have k8 : V4.cell? ⟨w.heap.size, 0, none⟩ = some (.slice aA nA cA) ∧ V4.cell? ⟨w.heap.size, 1, none⟩ = some (.slice aB nB cB) ∧ V4.cell? ⟨w.heap.size, 2, none⟩ = some (.int .i64 q) ∧ V4.cell? ⟨w.heap.size, 3, none⟩ = some (.int .i64 l0) ∧ V4.cell? ⟨w.heap.size, 4, none⟩ = some (.int .i64 l1) ∧ V4.cell? ⟨w.heap.size, 5, none⟩ = some (.int .i64 l2) ∧ V4.cell? ⟨w.heap.size, 6, none⟩ = some (.int .i64 l3) :=
    ⟨kc hB4 (block_lt_of_cell k7.1) k7.1, kc hB4 (block_lt_of_cell k7.1) k7.2.1, kc hB4 (block_lt_of_cell k7.1) k7.2.2.1, kc hB4 (block_lt_of_cell k7.1) k7.2.2.2.1, kc hB4 (block_lt_of_cell k7.1) k7.2.2.2.2.1, kc hB4 (block_lt_of_cell k7.1) k7.2.2.2.2.2.1, kc hB4 (block_lt_of_cell k7.1) k7.2.2.2.2.2.2⟩
  clear hB4 k7
  obtain ⟨c0, c1, c2, c3, c4, c5, c6⟩ := k8
  have hlt4 := block_lt_of_cell c0
  have z0 : (V4.alloc (.cells #[.int .i64 (mdW nC lc), .int .i64 (mdH nC lc), .slice (some ⟨bc, 0, none⟩) (mdN nC lc) (mdN nC lc)] 28)).cell? ⟨V4.heap.size, 0, none⟩ = some (.int .i64 (mdW nC lc)) := by go_cell
  have z1 : (V4.alloc (.cells #[.int .i64 (mdW nC lc), .int .i64 (mdH nC lc), .slice (some ⟨bc, 0, none⟩) (mdN nC lc) (mdN nC lc)] 28)).cell? ⟨V4.heap.size, 1, none⟩ = some (.int .i64 (mdH nC lc)) := by go_cell
  have z2 : (V4.alloc (.cells #[.int .i64 (mdW nC lc), .int .i64 (mdH nC lc), .slice (some ⟨bc, 0, none⟩) (mdN nC lc) (mdN nC lc)] 28)).cell? ⟨V4.heap.size, 2, none⟩ = some (.slice (some ⟨bc, 0, none⟩) (mdN nC lc) (mdN nC lc)) := by go_cell
  have hBz : Below V4.heap.size V4 (V4.alloc (.cells #[.int .i64 (mdW nC lc), .int .i64 (mdH nC lc), .slice (some ⟨bc, 0, none⟩) (mdN nC lc) (mdN nC lc)] 28)) := ba (Below.refl _ _) _
  go_wp2_with fail
  refine (SM.out _).mono ?_
  rintro e V5 ⟨rfl, hB5⟩
  replace hBz := bt hBz hB5
  replace hoa := ob_below hoa hBz
  replace hob := ob_below hob hBz
  replace hoc := ob_below hoc hBz
  replace d0 := kc hBz (block_lt_of_cell d0) d0
  replace d1 := kc hBz (block_lt_of_cell d1) d1
  replace h0 := bt h0 hBz
  have kk := k3 hBz ⟨x0, x1, x2⟩
  clear x0 x1 x2
  obtain ⟨x0, x1, x2⟩ := kk
  have kk := k3 hBz ⟨y0, y1, y2⟩
  clear y0 y1 y2
  obtain ⟨y0, y1, y2⟩ := kk
  have kk := k3 hB5 ⟨z0, z1, z2⟩
  clear z0 z1 z2
  obtain ⟨z0, z1, z2⟩ := kk
  clear hBz hB5 c0 c1 c2 c3 c4 c5 c6 hlt4
  generalize V4.heap.size = Bz at *
  have j0 := sv_in l0
  have j1 := sv_in l1
  have j2 := sv_in l2
  have j3 := sv_in l3
  clear SM BM SA MC HA HB HC hV2
  generalize sv l0 = p0 at *
  generalize sv l1 = p1 at *
  generalize sv l2 = p2 at *
  generalize sv l3 = p3 at *
  obtain ⟨i1, i2, i3⟩ := I1.out
  obtain ⟨i4, i5, i6⟩ := I2.out
  obtain ⟨i7, i8, i9⟩ := I3.out
  have N1 := Lib.hid (mdN_eq nA la)
  have N2 := Lib.hid (mdN_eq nB lb)
  have N3 := Lib.hid (mdN_eq nC lc)
  clear I1 I2 I3
  generalize mdW nA la = W at *
  generalize mdH nA la = H at *
  generalize mdN nA la = n at *
  generalize mdF nA la = f at *
  generalize mdW nB lb = W2 at *
  generalize mdH nB lb = H2 at *
  generalize mdN nB lb = n2 at *
  generalize mdF nB lb = f2 at *
  generalize mdW nC lc = W3 at *
  generalize mdH nC lc = H3 at *
  generalize mdN nC lc = n3 at *
  generalize mdF nC lc = f3 at *
  obtain ⟨XY, YZ, XZ, YX, CX, CY, hcf⟩ := cf_make (f := f) (f2 := f2) (f3 := f3) N1.out N2.out N3.out i1 i2 i4 i5 i3 i6 j0 j1 j2 j3
  have hltx := block_lt_of_cell x0
  have hlty := block_lt_of_cell y0
  have hltz := block_lt_of_cell z0
  have hltq := block_lt_of_cell d0
  have hBp : Below V5.heap.size V5 (V5.alloc (.cells #[.int .i64 p0, .int .i64 p1, .int .i64 p2, .int .i64 p3] 23)) := ba (Below.refl _ _) _
  have S6 : CS (V5.alloc (.cells #[.int .i64 p0, .int .i64 p1, .int .i64 p2, .int .i64 p3] 23)) (w.heap.size + 1) Bx (Bx + 1) Bz V5.heap.size q0 q1 W H n ba' f W2 H2 n2 bb f2 W3 H3 n3 bc f3 p0 p1 p2 p3 :=
    ⟨⟨by go_cell, by go_cell⟩, boxat_below ⟨x0, x1, x2⟩ hBp, boxat_below ⟨y0, y1, y2⟩ hBp, boxat_below ⟨z0, z1, z2⟩ hBp, ⟨by go_cell, by go_cell, by go_cell, by go_cell⟩, ob_below hoa hBp, ob_below hob hBp, ob_below hoc hBp⟩
  replace h0 := bt h0 hBp
  clear hoa hob hoc
  have O1 := Lib.hid (fun w hD hD2 => Only_any W H (some ⟨ba', 0, none⟩) n n f W2 H2 (some ⟨bb, 0, none⟩) n2 n2 f2 p0 p1 0 0 w hD hD2)
  have O2 := Lib.hid (fun w hD hD2 => Only_any W2 H2 (some ⟨bb, 0, none⟩) n2 n2 f2 W3 H3 (some ⟨bc, 0, none⟩) n3 n3 f3 p2 p3 0 0 w hD hD2)
  have O3 := Lib.hid (fun w hD hD2 => Only_any W H (some ⟨ba', 0, none⟩) n n f W3 H3 (some ⟨bc, 0, none⟩) n3 n3 f3 (p0 + p2) (p1 + p3) 0 0 w hD hD2)
  have O4 := Lib.hid (fun w hD hD2 => Only_any W2 H2 (some ⟨bb, 0, none⟩) n2 n2 f2 W H (some ⟨ba', 0, none⟩) n n f (-p0) (-p1) 0 0 w hD hD2)
  rw [hcf.xy] at O1
  rw [hcf.yz] at O2
  rw [hcf.xz] at O3
  rw [hcf.yx] at O4
  have HCF := Lib.hid hcf
  clear hcf
  unfold bv at O1 O2 O3 O4
  obtain ⟨k0, k00⟩ := j0
  obtain ⟨k1, k01⟩ := j1
  obtain ⟨k2, k02⟩ := j2
  obtain ⟨k3', k03⟩ := j3
  go_wp2_with fail
  clear x0 x1 x2 y0 y1 y2 z0 z1 z2 d0 d1 hltx hlty hltz hltq hBp
  generalize (V5.alloc (.cells #[.int .i64 p0, .int .i64 p1, .int .i64 p2, .int .i64 p3] 23)) = V6 at *
  generalize V5.heap.size = Bp at *
  generalize Bx + 1 = By at *
  generalize w.heap.size + 1 = Bq at *
  refine (O1.out _ (ob_da S6.ox) (ob_da S6.oy)).mono ?_
  rintro e V7 ⟨rfl, hB7⟩
  replace S6 := cs_below S6 hB7
  replace h0 := bt h0 hB7
  clear hB7 O1
  obtain ⟨⟨d0, d1⟩, ⟨x0, x1, x2⟩, ⟨y0, y1, y2⟩, ⟨z0, z1, z2⟩, ⟨g0, g1, g2, g3⟩, ox, oy, oz⟩ := id S6
  clear ox oy oz
  go_wp2_with fail
  refine (O2.out _ (ob_da S6.oy) (ob_da S6.oz)).mono ?_
  rintro e V8 ⟨rfl, hB8⟩
  replace S6 := cs_below S6 hB8
  replace h0 := bt h0 hB8
  clear hB8 O2 d0 d1 x0 x1 x2 y0 y1 y2 z0 z1 z2 g0 g1 g2 g3
  obtain ⟨⟨d0, d1⟩, ⟨x0, x1, x2⟩, ⟨y0, y1, y2⟩, ⟨z0, z1, z2⟩, ⟨g0, g1, g2, g3⟩, ox, oy, oz⟩ := id S6
  clear ox oy oz
  go_wp2_with fail
  refine (O3.out _ (ob_da S6.ox) (ob_da S6.oz)).mono ?_
  rintro e V9 ⟨rfl, hB9⟩
  replace S6 := cs_below S6 hB9
  replace h0 := bt h0 hB9
  clear hB9 O3 d0 d1 x0 x1 x2 y0 y1 y2 z0 z1 z2 g0 g1 g2 g3
  obtain ⟨⟨d0, d1⟩, ⟨x0, x1, x2⟩, ⟨y0, y1, y2⟩, ⟨z0, z1, z2⟩, ⟨g0, g1, g2, g3⟩, ox, oy, oz⟩ := id S6
  clear ox oy oz
  go_wp2_with fail
  refine (O4.out _ (ob_da S6.oy) (ob_da S6.ox)).mono ?_
  rintro e VA ⟨rfl, hBA⟩
  replace S6 := cs_below S6 hBA
  replace h0 := bt h0 hBA
  clear hBA O4 d0 d1 x0 x1 x2 y0 y1 y2 z0 z1 z2 g0 g1 g2 g3
  obtain ⟨⟨d0, d1⟩, ⟨x0, x1, x2⟩, ⟨y0, y1, y2⟩, ⟨z0, z1, z2⟩, ⟨g0, g1, g2, g3⟩, ox, oy, oz⟩ := id S6
  clear ox oy oz
  go_wp2_with fail
  obtain ⟨D0, hD0⟩ : ∃ D0 : Int, (CX : Int) - XY = D0 := ⟨_, rfl⟩
  obtain ⟨e1, e2, e3, e4⟩ : IntKind.i64.wrap ((XY : Int) + YZ) = (XY : Int) + YZ ∧ (XZ : Int) ≤ (XY : Int) + YZ ∧ IntKind.i64.wrap ((CX : Int) - XY) = D0 ∧ IntKind.i64.wrap ((CY : Int) - YX) = D0 := by
    rw [← hD0]
    obtain ⟨_, _, _, _, _, _, t1, t2, _, _, b1, b2, b3, b4, b5, b6⟩ := HCF.out
    exact ⟨iwrap_id ⟨by omega, by omega⟩, by omega, iwrap_id ⟨by omega, by omega⟩, by rw [t2]; exact iwrap_id ⟨by omega, by omega⟩⟩
  clear hD0
  have e5 : decide ((XY : Int) + YZ < XZ) = false := decide_eq_false (by omega)
  have e6 : decide (XY + YZ < XZ) = false := decide_eq_false (by omega)
  have CNX := Lib.hid (fun w hD => Count_any W H (some ⟨ba', 0, none⟩) n n f w hD)
  have CNY := Lib.hid (fun w hD => Count_any W2 H2 (some ⟨bb, 0, none⟩) n2 n2 f2 w hD)
  have OX := Lib.hid (fun w hD hD2 => Only_any W H (some ⟨ba', 0, none⟩) n n f W H (some ⟨ba', 0, none⟩) n n f 0 0 0 0 w hD hD2)
  have ON := Lib.hid (fun w hD => Only_any W H (some ⟨ba', 0, none⟩) n n f 0 0 none 0 0 (fun _ => false) p0 p1 0 0 w hD (fun i hi => absurd hi (by omega)))
  rw [HCF.out.cx] at CNX
  rw [HCF.out.cy] at CNY
  rw [HCF.out.self, Int.natCast_zero] at OX
  rw [HCF.out.nul] at ON
  unfold bv at CNX CNY OX ON
  have DX := Lib.hid (ob_da S6.ox)
  have DY := Lib.hid (ob_da S6.oy)
  have x0' : ∀ w', Below VA.heap.size VA w' → w'.cell? ⟨Bx, 0, none⟩ = some (.int .i64 W) := fun _ h => kc h (block_lt_of_cell x0) x0
  have x1' : ∀ w', Below VA.heap.size VA w' → w'.cell? ⟨Bx, 1, none⟩ = some (.int .i64 H) := fun _ h => kc h (block_lt_of_cell x1) x1
  have x2' : ∀ w', Below VA.heap.size VA w' → w'.cell? ⟨Bx, 2, none⟩ = some (.slice (some ⟨ba', 0, none⟩) n n) := fun _ h => kc h (block_lt_of_cell x2) x2
  have y0' : ∀ w', Below VA.heap.size VA w' → w'.cell? ⟨By, 0, none⟩ = some (.int .i64 W2) := fun _ h => kc h (block_lt_of_cell y0) y0
  have y1' : ∀ w', Below VA.heap.size VA w' → w'.cell? ⟨By, 1, none⟩ = some (.int .i64 H2) := fun _ h => kc h (block_lt_of_cell y1) y1
  have y2' : ∀ w', Below VA.heap.size VA w' → w'.cell? ⟨By, 2, none⟩ = some (.slice (some ⟨bb, 0, none⟩) n2 n2) := fun _ h => kc h (block_lt_of_cell y2) y2
  have g0' : ∀ w', Below VA.heap.size VA w' → w'.cell? ⟨Bp, 0, none⟩ = some (.int .i64 p0) := fun _ h => kc h (block_lt_of_cell g0) g0
  have g1' : ∀ w', Below VA.heap.size VA w' → w'.cell? ⟨Bp, 1, none⟩ = some (.int .i64 p1) := fun _ h => kc h (block_lt_of_cell g1) g1
  have hAA := Below.refl VA.heap.size VA
  go_region_held3 (fun w' => Below VA.heap.size VA w') (first
    | (with_reducible exact bd1 (Below.refl _ _))
    | (with_reducible exact bt (by assumption) hba)
    | (with_reducible assumption))
    (first
    | ((with_reducible refine (CNX.out _ (da_below DX.out (by with_reducible assumption))).mono ?_); rintro en wa ⟨rfl, hba⟩; have hbw : Below VA.heap.size VA wa := bt (by with_reducible assumption) hba)
    | ((with_reducible refine (CNY.out _ (da_below DY.out (by with_reducible assumption))).mono ?_); rintro en wa ⟨rfl, hba⟩; have hbw : Below VA.heap.size VA wa := bt (by with_reducible assumption) hba)
    | ((with_reducible refine (OX.out _ (da_below DX.out (by with_reducible assumption)) (da_below DX.out (by with_reducible assumption))).mono ?_); rintro en wa ⟨rfl, hba⟩; have hbw : Below VA.heap.size VA wa := bt (by with_reducible assumption) hba)
    | ((with_reducible refine (ON.out _ (da_below DX.out (by with_reducible assumption))).mono ?_); rintro en wa ⟨rfl, hba⟩; have hbw : Below VA.heap.size VA wa := bt (by with_reducible assumption) hba))
  replace S6 := cs_below S6 hbw
  replace h0 := bt h0 hbw
  clear hba hAA CNX CNY OX ON DX DY x0' x1' x2' y0' y1' y2' g0' g1' d0 d1 x0 x1 x2 y0 y1 y2 z0 z1 z2 g0 g1 g2 g3 e1 e2 e3 e4 e5 e6
  obtain ⟨⟨d0, d1⟩, ⟨x0, x1, x2⟩, ⟨y0, y1, y2⟩, ⟨z0, z1, z2⟩, ⟨g0, g1, g2, g3⟩, ox, oy, oz⟩ := id S6
  clear ox oy oz
  have hm0 : 0 ≤ q0 % 20 ∧ q0 % 20 ≤ 19 := by omega
  obtain ⟨wd, hwd, hwd7⟩ : ∃ wd : Nat, q1 % 8 = wd ∧ wd ≤ 7 := ⟨(q1 % 8).toNat, by omega, by omega⟩
  rw [hwd] at M1
  clear hwd
  generalize q0 % 20 = m0 at *
  obtain ⟨m00, m01⟩ := hm0
  go_wp2_with fail
  refine (M0.out _).mono ?_
  rintro e VB ⟨rfl, rfl⟩
  go_wp2_with fail
  refine (M1.out _).mono ?_
  rintro e VC ⟨rfl, rfl⟩
  go_wp2_with fail
  have emax : max (m0 - 2 + (wd : Int) - (m0 - 2)) 0 = (wd : Int) := by omega
  have emax2 : m0 - 2 + (wd : Int) - (m0 - 2) = (wd : Int) := by omega
  have gx : gd W H n = true := (gd_iff _ _ _).2 ⟨by omega, by omega, by rw [N1.out]; simp⟩
  have gy : gd W2 H2 n2 = true := (gd_iff _ _ _).2 ⟨by omega, by omega, by rw [N2.out]; simp⟩
  have gs : (sd (wd : Int) && sd (H : Int)) = true := by rw [Bool.and_eq_true, sd_iff, sd_iff]; omega
  obtain ⟨mm, hmm⟩ : ∃ mm, mm = wd * H := ⟨_, rfl⟩
  have hmm2 : (mm : Int) = (wd : Int) * H := by rw [hmm]; simp
  have hmm3 : mm ≤ 192 := by rw [hmm]; exact Nat.le_trans (Nat.mul_le_mul hwd7 i2) (by omega)
  have CRX := Lib.hid (fun w hD => Crop_yes W H (some ⟨ba', 0, none⟩) n n f (m0 - 2) 0 wd H mm gx gs hmm2 w hD)
  have CRY := Lib.hid (fun w hD => Crop_yes W2 H2 (some ⟨bb, 0, none⟩) n2 n2 f2 (m0 - 2 - p0) (-p1) wd H mm gy gs hmm2 w hD)
  obtain ⟨OF, hOF⟩ : ∃ OF : Nat, only W H n f W2 H2 n2 f2 p0 p1 (m0 - 2) (m0 - 2 + wd) = OF := ⟨_, rfl⟩
  obtain ⟨OS, hOS⟩ : ∃ OS : Nat, only wd H mm (crp wd W H n f (m0 - 2) 0) wd H mm (crp wd W2 H2 n2 f2 (m0 - 2 - p0) (-p1)) 0 0 0 0 = OS := ⟨_, rfl⟩
  have hXY : (XY : Int) - OS = OF := by
    have h1 := only_cols (W := W) (H := H) (W2 := W2) (H2 := H2) (w := wd) (f := f) (f2 := f2) (dx := p0) (dy := p1) (fr := m0 - 2) (ti := m0 - 2 + wd) (by omega) (by omega) (by omega) rfl ⟨by omega, by omega⟩ ⟨by omega, by omega⟩ ⟨by omega, by omega⟩ ⟨by omega, by omega⟩ ⟨by omega, by omega⟩
    rw [← N1.out, ← N2.out, ← hmm, hOF, hOS, HCF.out.xy] at h1
    omega
  have hOS3 : OS ≤ 1000 := by rw [← hOS]; exact only_le hmm3
  have hXY3 : XY ≤ 1000 := HCF.out.b1
  have OXY := Lib.hid (fun w hD hD2 => Only_any W H (some ⟨ba', 0, none⟩) n n f W2 H2 (some ⟨bb, 0, none⟩) n2 n2 f2 p0 p1 (m0 - 2) (m0 - 2 + wd) w hD hD2)
  rw [hOF] at OXY
  have OSO := Lib.hid (fun b b2 w hD hD2 => Only_any wd H (some ⟨b, 0, none⟩) mm mm (crp wd W H n f (m0 - 2) 0) wd H (some ⟨b2, 0, none⟩) mm mm (crp wd W2 H2 n2 f2 (m0 - 2 - p0) (-p1)) 0 0 0 0 w hD hD2)
  rw [hOS] at OSO
  have HXY := Lib.hid hXY
  unfold bv at CRX CRY OXY OSO
  clear gx gy gs hmm hmm2 hOF hOS hXY emax2
  rw [emax]
  clear emax
  refine (CRX.out _ (ob_da S6.ox)).mono ?_
  rintro e VD ⟨bs1, rfl, hos, _, hBD⟩
  replace S6 := cs_below S6 hBD
  replace h0 := bt h0 hBD
  have x0' := kc hBD (block_lt_of_cell x0) x0
  have x1' := kc hBD (block_lt_of_cell x1) x1
  have x2' := kc hBD (block_lt_of_cell x2) x2
  clear hBD d0 d1 x0 x1 x2 y0 y1 y2 z0 z1 z2 g0 g1 g2 g3 x0' x1' x2' CRX
  have S7 := cs_below S6 (ba (Below.refl _ VD) (.cells #[.int .i64 wd, .int .i64 H, .slice (some ⟨bs1, 0, none⟩) mm mm] 28))
  obtain ⟨⟨d0, d1⟩, ⟨x0, x1, x2⟩, ⟨y0, y1, y2⟩, ⟨z0, z1, z2⟩, ⟨g0, g1, g2, g3⟩, ox, oy, oz⟩ := id S7
  clear ox oy oz
  go_wp2_with fail
  have s0 : (VD.alloc (.cells #[.int .i64 wd, .int .i64 H, .slice (some ⟨bs1, 0, none⟩) mm mm] 28)).cell? ⟨VD.heap.size, 0, none⟩ = some (.int .i64 wd) := by go_cell
  have s1 : (VD.alloc (.cells #[.int .i64 wd, .int .i64 H, .slice (some ⟨bs1, 0, none⟩) mm mm] 28)).cell? ⟨VD.heap.size, 1, none⟩ = some (.int .i64 H) := by go_cell
  have s2 : (VD.alloc (.cells #[.int .i64 wd, .int .i64 H, .slice (some ⟨bs1, 0, none⟩) mm mm] 28)).cell? ⟨VD.heap.size, 2, none⟩ = some (.slice (some ⟨bs1, 0, none⟩) mm mm) := by go_cell
  replace hos := ob_below hos (ba (Below.refl _ VD) (.cells #[.int .i64 wd, .int .i64 H, .slice (some ⟨bs1, 0, none⟩) mm mm] 28))
  replace h0 := ba h0 (.cells #[.int .i64 wd, .int .i64 H, .slice (some ⟨bs1, 0, none⟩) mm mm] 28)
  clear S6
  generalize (VD.alloc (.cells #[.int .i64 wd, .int .i64 H, .slice (some ⟨bs1, 0, none⟩) mm mm] 28)) = VE at *
  generalize VD.heap.size = Bs at *
  refine (CRY.out _ (ob_da S7.oy)).mono ?_
  rintro e VF ⟨bs2, rfl, hot, _, hBF⟩
  replace S7 := cs_below S7 hBF
  replace h0 := bt h0 hBF
  replace hos := ob_below hos hBF
  have kk := k3 hBF ⟨s0, s1, s2⟩
  clear hBF d0 d1 x0 x1 x2 y0 y1 y2 z0 z1 z2 g0 g1 g2 g3 CRY s0 s1 s2
  obtain ⟨s0, s1, s2⟩ := kk
  have hBG := ba (Below.refl _ VF) (.cells #[.int .i64 wd, .int .i64 H, .slice (some ⟨bs2, 0, none⟩) mm mm] 28)
  have S8 := cs_below S7 hBG
  obtain ⟨⟨d0, d1⟩, ⟨x0, x1, x2⟩, ⟨y0, y1, y2⟩, ⟨z0, z1, z2⟩, ⟨g0, g1, g2, g3⟩, ox, oy, oz⟩ := id S8
  clear ox oy oz d0 d1 z0 z1 z2 g2 g3
  obtain ⟨u0, u1, u2⟩ : BoxAt (VF.alloc (.cells #[.int .i64 wd, .int .i64 H, .slice (some ⟨bs2, 0, none⟩) mm mm] 28)) VF.heap.size wd H (some ⟨bs2, 0, none⟩) mm mm := ⟨by go_cell, by go_cell, by go_cell⟩
  have kk := k3 hBG ⟨s0, s1, s2⟩
  have hDX := Lib.hid (ob_da S8.ox)
  have hDY := Lib.hid (ob_da S8.oy)
  have hDS := Lib.hid (ob_da (ob_below hos hBG))
  have hDT := Lib.hid (ob_da (ob_below hot hBG))
  have hlts := block_lt_of_cell s0
  replace h0 := bt h0 hBG
  have hexy := HXY.out
  have htl : Int.subNatNat 0 0 = 0 := rfl
  clear hBG S7 S8 hos hot htl
  clear s0 s1 s2
  obtain ⟨s0, s1, s2⟩ := kk
  go_wp2_with fail
  generalize (VF.alloc (.cells #[.int .i64 wd, .int .i64 H, .slice (some ⟨bs2, 0, none⟩) mm mm] 28)) = VH at *
  generalize VF.heap.size = Bu at *
  have x0' : ∀ w', Below VH.heap.size VH w' → w'.cell? ⟨Bx, 0, none⟩ = some (.int .i64 W) := fun _ h => kc h (block_lt_of_cell x0) x0
  have x1' : ∀ w', Below VH.heap.size VH w' → w'.cell? ⟨Bx, 1, none⟩ = some (.int .i64 H) := fun _ h => kc h (block_lt_of_cell x1) x1
  have x2' : ∀ w', Below VH.heap.size VH w' → w'.cell? ⟨Bx, 2, none⟩ = some (.slice (some ⟨ba', 0, none⟩) n n) := fun _ h => kc h (block_lt_of_cell x2) x2
  have y0' : ∀ w', Below VH.heap.size VH w' → w'.cell? ⟨By, 0, none⟩ = some (.int .i64 W2) := fun _ h => kc h (block_lt_of_cell y0) y0
  have y1' : ∀ w', Below VH.heap.size VH w' → w'.cell? ⟨By, 1, none⟩ = some (.int .i64 H2) := fun _ h => kc h (block_lt_of_cell y1) y1
  have y2' : ∀ w', Below VH.heap.size VH w' → w'.cell? ⟨By, 2, none⟩ = some (.slice (some ⟨bb, 0, none⟩) n2 n2) := fun _ h => kc h (block_lt_of_cell y2) y2
  have g0' : ∀ w', Below VH.heap.size VH w' → w'.cell? ⟨Bp, 0, none⟩ = some (.int .i64 p0) := fun _ h => kc h (block_lt_of_cell g0) g0
  have g1' : ∀ w', Below VH.heap.size VH w' → w'.cell? ⟨Bp, 1, none⟩ = some (.int .i64 p1) := fun _ h => kc h (block_lt_of_cell g1) g1
  have s0' : ∀ w', Below VH.heap.size VH w' → w'.cell? ⟨Bs, 0, none⟩ = some (.int .i64 wd) := fun _ h => kc h (block_lt_of_cell s0) s0
  have s1' : ∀ w', Below VH.heap.size VH w' → w'.cell? ⟨Bs, 1, none⟩ = some (.int .i64 H) := fun _ h => kc h (block_lt_of_cell s1) s1
  have s2' : ∀ w', Below VH.heap.size VH w' → w'.cell? ⟨Bs, 2, none⟩ = some (.slice (some ⟨bs1, 0, none⟩) mm mm) := fun _ h => kc h (block_lt_of_cell s2) s2
  have u0' : ∀ w', Below VH.heap.size VH w' → w'.cell? ⟨Bu, 0, none⟩ = some (.int .i64 wd) := fun _ h => kc h (block_lt_of_cell u0) u0
  have u1' : ∀ w', Below VH.heap.size VH w' → w'.cell? ⟨Bu, 1, none⟩ = some (.int .i64 H) := fun _ h => kc h (block_lt_of_cell u1) u1
  have u2' : ∀ w', Below VH.heap.size VH w' → w'.cell? ⟨Bu, 2, none⟩ = some (.slice (some ⟨bs2, 0, none⟩) mm mm) := fun _ h => kc h (block_lt_of_cell u2) u2
  have ew : IntKind.i64.wrap ((XY : Int) - OS) = OF := by rw [HXY.out]; rw [← HXY.out]; exact iwrap_id ⟨by omega, by omega⟩
  clear hexy hlts x0 x1 x2 y0 y1 y2 g0 g1 s0 s1 s2 u0 u1 u2
  go_region_held3 (fun w' => Below VH.heap.size VH w') (first
    | (with_reducible exact bd1 (Below.refl _ _))
    | (with_reducible exact bt (by assumption) hba)
    | (with_reducible assumption))
    (first
    | ((with_reducible refine (OXY.out _ (da_below hDX.out (by with_reducible assumption)) (da_below hDY.out (by with_reducible assumption))).mono ?_); rintro en wa ⟨rfl, hba⟩; have hbw : Below VH.heap.size VH wa := bt (by with_reducible assumption) hba)
    | ((with_reducible refine (OSO.out _ _ _ (da_below hDS.out (by with_reducible assumption)) (da_below hDT.out (by with_reducible assumption))).mono ?_); rintro en wa ⟨rfl, hba⟩; have hbw : Below VH.heap.size VH wa := bt (by with_reducible assumption) hba))
  clear x0' x1' x2' y0' y1' y2' g0' g1' s0' s1' s2' u0' u1' u2'
  go_wp2
  go_ret
  exact ⟨rfl, bt h0 hbw⟩
end Go.Proofs.Ytohmmljcgpamiaa.Bm
