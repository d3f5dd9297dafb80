/-
  Layer 3 (digest): the level above another one.
-/
import Derived.Test.YtflpemagbempaaaDgH
namespace Go.Proofs.Ytflpemagbempaaa.Dg
open Go.RowKit
/-- The level above. -/
def up (g : Nat → List UInt8) (j : Nat) : List UInt8 := node (g (2 * j)) (g (2 * j + 1))
theorem up_len (g : Nat → List UInt8) (j : Nat) : (up g j).length = 8 := rfl
def utgt (g : Nat → List UInt8) (k j : Nat) : List UInt8 := if j < k then up g j else []
def URel (g : Nat → List UInt8) (w : World) (b m : Nat) (s : Value) (wr : World) : Prop := ∃ k : Nat, k ≤ m ∧ s = .int .i64 k ∧ DR wr b m (utgt g k) ∧ Below w.heap.size w wr
theorem urel_next {g : Nat → List UInt8} {w w3 : World} {b m k : Nat} {q0 q1 q2 q3 q4 q5 q6 q7 : UInt8} (hk : k < m) (hdr : DR w3 b m (utgt g k)) (hq : up g k = [q0, q1, q2, q3, q4, q5, q6, q7]) (hB : Below w.heap.size w w3) (hb : w.heap.size ≤ b) :
    URel g w b m (.int .i64 ((k : Int) + 1)) ((((((((w3.setCell ⟨b, k * 8, none⟩ (.int .u8 q0.toNat)).setCell ⟨b, k * 8 + 1, none⟩ (.int .u8 q1.toNat)).setCell ⟨b, k * 8 + 2, none⟩ (.int .u8 q2.toNat)).setCell ⟨b, k * 8 + 3, none⟩ (.int .u8 q3.toNat)).setCell ⟨b, k * 8 + 4, none⟩ (.int .u8 q4.toNat)).setCell ⟨b, k * 8 + 5, none⟩ (.int .u8 q5.toNat)).setCell ⟨b, k * 8 + 6, none⟩ (.int .u8 q6.toNat)).setCell ⟨b, k * 8 + 7, none⟩ (.int .u8 q7.toNat)) :=
  ⟨k + 1, by omega, by congr 1, dr_set (f := utgt g (k + 1)) hdr hk (by unfold utgt; rw [if_pos (by omega), hq]) (fun j hj => by
    unfold utgt
    by_cases h : j < k
    · rw [if_pos h, if_pos (by omega)]
    · rw [if_neg h, if_neg (by omega)]), bs8' hB hb _ _ _ _ _ _ _ _⟩
theorem g8' {a w : World} {r k : Nat} (h : a.grownBy w (some r)) (v0 v1 v2 v3 v4 v5 v6 v7 : Value) :
    a.grownBy ((((((((w.setCell ⟨r, k * 8, none⟩ v0).setCell ⟨r, k * 8 + 1, none⟩ v1).setCell ⟨r, k * 8 + 2, none⟩ v2).setCell ⟨r, k * 8 + 3, none⟩ v3).setCell ⟨r, k * 8 + 4, none⟩ v4).setCell ⟨r, k * 8 + 5, none⟩ v5).setCell ⟨r, k * 8 + 6, none⟩ v6).setCell ⟨r, k * 8 + 7, none⟩ v7) (some r) :=
  gs (gs (gs (gs (gs (gs (gs (gs h _) _) _) _) _) _) _) _
theorem utgt_zero {g : Nat → List UInt8} {W : World} {b h k : Nat} (hd : DR W b h (utgt g k)) (hk : k < h) : ∀ i, i < 8 → W.cell? ⟨b, k * 8 + i, none⟩ = some (.int .u8 0) ∧ W.frozen? ⟨b, k * 8 + i, none⟩ = false := fun i hi => by
  have := hd k hk i hi
  rw [show utgt g k k = [] by unfold utgt; rw [if_neg (by omega)]] at this
  exact this
set_option maxRecDepth 100000 in
set_option maxHeartbeats 4000000 in
theorem above_any (g : Nat → List UInt8) (b c h : Nat) (hh : h ≤ 1000000) (w : World) (hd : DR w b (2 * h) g) (hg : ∀ j, (g j).length = 8) :
    Calls Try.prog 46 #[.slice (some ⟨b, 0, none⟩) (2 * h) c] w fun e w' => ∃ b', e = .returned (.slice (some ⟨b', 0, none⟩) h h) ∧ DR w' b' h (up g) ∧ w.heap.size ≤ b' ∧ Below w.heap.size w w' := by
  obtain ⟨i0, hi, hz0, hz1, hz2⟩ := info_parts infoD
  obtain ⟨w1, hmk, hown, hgr⟩ := run_make_full (P := Try.prog) w w.heap.size 61 52 i0 _ 8 Try.underlying61 hi hz0 hz1 .i64 .i64 h (by rw [hz2]; omega) (by unfold maxLen; omega) (Nat.le_refl _)
  have hd1 := dr_made hown
  have hB1 := below_none hgr
  clear hi hz0 hz1 hz2 hown hgr
  have HD := Lib.hid hd
  have HG := Lib.hid hg
  clear hd hg
  have hdiv : (2 * (h : Int)).tdiv 2 = h := by rw [Int.tdiv_eq_ediv_of_nonneg (by omega)]; omega
  have hdiv2 : (2 * (h : Int)) / 2 = h := by omega
  go_enter Try.func46, Try.ntmps46
  go_wp2_with fail
  go_loopw [11] (fun s11 w' => URel g w w.heap.size h s11 w') (fun s11 _ => h - (intOf s11).toNat)
  case atStart => exact ⟨0, by omega, rfl, dr_congr hd1 (fun j hj => by unfold utgt; rw [if_neg (by omega)]), hB1⟩
  case round =>
    clear hd1 hmk hB1
    rename World => V
    obtain ⟨k, hk, rfl, hdr, hB2⟩ := hrel
    rcases Nat.lt_or_ge k h with hkm | hkm
    · obtain ⟨x0, x1, x2, x3, x4, x5, x6, x7, hx⟩ := eight (HG.out (2 * k))
      obtain ⟨y0, y1, y2, y3, y4, y5, y6, y7, hy⟩ := eight (HG.out (2 * k + 1))
      have NO := Lib.hid (nodeOf_any (g (2 * k)) (g (2 * k + 1)) (HG.out _) (HG.out _))
      have hq0 : (up g k).length = 8 := rfl
      obtain ⟨q0, q1, q2, q3, q4, q5, q6, q7, hq⟩ := eight hq0
      rw [show node (g (2 * k)) (g (2 * k + 1)) = up g k from rfl, hq, hx, hy, dval8, dval8, dval8] at NO
      have hbr : b ≠ w.heap.size := by
        have h1 : b < w.heap.size := block_lt_of_cell (HD.out 0 (by omega) 0 (by omega)).1
        omega
      have Cx : ∀ i, i < 8 → V.cell? ⟨b, 2 * k * 8 + i, none⟩ = some (.int .u8 (([x0, x1, x2, x3, x4, x5, x6, x7] : List UInt8).getD i 0).toNat) := fun i hi => by
        have := (HD.out (2 * k) (by omega) i hi).1
        rw [hx] at this
        exact kc hB2 (block_lt_of_cell this) this
      have Cy : ∀ i, i < 8 → V.cell? ⟨b, (2 * k + 1) * 8 + i, none⟩ = some (.int .u8 (([y0, y1, y2, y3, y4, y5, y6, y7] : List UInt8).getD i 0).toNat) := fun i hi => by
        have := (HD.out (2 * k + 1) (by omega) i hi).1
        rw [hy] at this
        exact kc hB2 (block_lt_of_cell this) this
      have hH := Lib.hid hdr
      have b1 : (0 : Int) ≤ 2 * (k : Int) := by omega
      have b2 : 2 * (k : Int) < 2 * (h : Int) := by omega
      have b3 : (0 : Int) ≤ 2 * (k : Int) + 1 := by omega
      have b4 : 2 * (k : Int) + 1 < 2 * (h : Int) := by omega
      have b5 : RowKit.wrap64 (2 * (k : Int)) = 2 * (k : Int) := wrapi _ (by omega) (by omega)
      have b6 : RowKit.wrap64 (2 * (k : Int) + 1) = 2 * (k : Int) + 1 := wrapi _ (by omega) (by omega)
      have b7 : IntKind.i64.wrap (2 * (k : Int)) = 2 * (k : Int) := IntWalk.i64_in _ (by omega)
      have b8 : IntKind.i64.wrap (2 * (k : Int) + 1) = 2 * (k : Int) + 1 := IntWalk.i64_in _ (by omega)
      have t1 : (2 * (k : Int)).toNat = 2 * k := by omega
      have t2 : (2 * (k : Int) + 1).toNat = 2 * k + 1 := by omega
      clear hdr hx hy
      have dx0 : ∀ W, V.grownBy W (some w.heap.size) → W.cell? ⟨b, 2 * k * 8, none⟩ = some (.int .u8 x0.toNat) := fun _ h => gc h (Cx 0 (by omega)) hbr
      have dx1 : ∀ W, V.grownBy W (some w.heap.size) → W.cell? ⟨b, 2 * k * 8 + 1, none⟩ = some (.int .u8 x1.toNat) := fun _ h => gc h (Cx 1 (by omega)) hbr
      have dx2 : ∀ W, V.grownBy W (some w.heap.size) → W.cell? ⟨b, 2 * k * 8 + 2, none⟩ = some (.int .u8 x2.toNat) := fun _ h => gc h (Cx 2 (by omega)) hbr
      have dx3 : ∀ W, V.grownBy W (some w.heap.size) → W.cell? ⟨b, 2 * k * 8 + 3, none⟩ = some (.int .u8 x3.toNat) := fun _ h => gc h (Cx 3 (by omega)) hbr
      have dx4 : ∀ W, V.grownBy W (some w.heap.size) → W.cell? ⟨b, 2 * k * 8 + 4, none⟩ = some (.int .u8 x4.toNat) := fun _ h => gc h (Cx 4 (by omega)) hbr
      have dx5 : ∀ W, V.grownBy W (some w.heap.size) → W.cell? ⟨b, 2 * k * 8 + 5, none⟩ = some (.int .u8 x5.toNat) := fun _ h => gc h (Cx 5 (by omega)) hbr
      have dx6 : ∀ W, V.grownBy W (some w.heap.size) → W.cell? ⟨b, 2 * k * 8 + 6, none⟩ = some (.int .u8 x6.toNat) := fun _ h => gc h (Cx 6 (by omega)) hbr
      have dx7 : ∀ W, V.grownBy W (some w.heap.size) → W.cell? ⟨b, 2 * k * 8 + 7, none⟩ = some (.int .u8 x7.toNat) := fun _ h => gc h (Cx 7 (by omega)) hbr
      have dy0 : ∀ W, V.grownBy W (some w.heap.size) → W.cell? ⟨b, (2 * k + 1) * 8, none⟩ = some (.int .u8 y0.toNat) := fun _ h => gc h (Cy 0 (by omega)) hbr
      have dy1 : ∀ W, V.grownBy W (some w.heap.size) → W.cell? ⟨b, (2 * k + 1) * 8 + 1, none⟩ = some (.int .u8 y1.toNat) := fun _ h => gc h (Cy 1 (by omega)) hbr
      have dy2 : ∀ W, V.grownBy W (some w.heap.size) → W.cell? ⟨b, (2 * k + 1) * 8 + 2, none⟩ = some (.int .u8 y2.toNat) := fun _ h => gc h (Cy 2 (by omega)) hbr
      have dy3 : ∀ W, V.grownBy W (some w.heap.size) → W.cell? ⟨b, (2 * k + 1) * 8 + 3, none⟩ = some (.int .u8 y3.toNat) := fun _ h => gc h (Cy 3 (by omega)) hbr
      have dy4 : ∀ W, V.grownBy W (some w.heap.size) → W.cell? ⟨b, (2 * k + 1) * 8 + 4, none⟩ = some (.int .u8 y4.toNat) := fun _ h => gc h (Cy 4 (by omega)) hbr
      have dy5 : ∀ W, V.grownBy W (some w.heap.size) → W.cell? ⟨b, (2 * k + 1) * 8 + 5, none⟩ = some (.int .u8 y5.toNat) := fun _ h => gc h (Cy 5 (by omega)) hbr
      have dy6 : ∀ W, V.grownBy W (some w.heap.size) → W.cell? ⟨b, (2 * k + 1) * 8 + 6, none⟩ = some (.int .u8 y6.toNat) := fun _ h => gc h (Cy 6 (by omega)) hbr
      have dy7 : ∀ W, V.grownBy W (some w.heap.size) → W.cell? ⟨b, (2 * k + 1) * 8 + 7, none⟩ = some (.int .u8 y7.toNat) := fun _ h => gc h (Cy 7 (by omega)) hbr
      clear Cx Cy
      go_upto_region 5 with (fail)
      go_region_held3 (fun w' => V.grownBy w' (some w.heap.size)) (first
          | (with_reducible refine g8' ?_ _ _ _ _ _ _ _ _; with_reducible assumption)
          | (with_reducible exact gd1 (gr0 _ _))
          | (with_reducible exact gt (by assumption) hba)
          | (with_reducible exact gd1 (by assumption))
          | (with_reducible exact ga (by assumption) _))
        (first
          | ((with_reducible refine (NO.out _).mono ?_); rintro en w3 ⟨rfl, hba⟩; have hqa : V.grownBy w3 (some w.heap.size) := gt (by assumption) hba; have hbW : Below w.heap.size w w3 := bt (bd1 hB2) hba; have hdr3 := dr_keep (W := V.drew) hH.out hba; have Z := utgt_zero hdr3 hkm; have zc0 : w3.cell? ⟨w.heap.size, k * 8, none⟩ = some (.int .u8 0) := (Z 0 (by omega)).1; have zf0 : w3.frozen? ⟨w.heap.size, k * 8, none⟩ = false := (Z 0 (by omega)).2; have zc1 : w3.cell? ⟨w.heap.size, k * 8 + 1, none⟩ = some (.int .u8 0) := (Z 1 (by omega)).1; have zf1 : w3.frozen? ⟨w.heap.size, k * 8 + 1, none⟩ = false := (Z 1 (by omega)).2; have zc2 : w3.cell? ⟨w.heap.size, k * 8 + 2, none⟩ = some (.int .u8 0) := (Z 2 (by omega)).1; have zf2 : w3.frozen? ⟨w.heap.size, k * 8 + 2, none⟩ = false := (Z 2 (by omega)).2; have zc3 : w3.cell? ⟨w.heap.size, k * 8 + 3, none⟩ = some (.int .u8 0) := (Z 3 (by omega)).1; have zf3 : w3.frozen? ⟨w.heap.size, k * 8 + 3, none⟩ = false := (Z 3 (by omega)).2; have zc4 : w3.cell? ⟨w.heap.size, k * 8 + 4, none⟩ = some (.int .u8 0) := (Z 4 (by omega)).1; have zf4 : w3.frozen? ⟨w.heap.size, k * 8 + 4, none⟩ = false := (Z 4 (by omega)).2; have zc5 : w3.cell? ⟨w.heap.size, k * 8 + 5, none⟩ = some (.int .u8 0) := (Z 5 (by omega)).1; have zf5 : w3.frozen? ⟨w.heap.size, k * 8 + 5, none⟩ = false := (Z 5 (by omega)).2; have zc6 : w3.cell? ⟨w.heap.size, k * 8 + 6, none⟩ = some (.int .u8 0) := (Z 6 (by omega)).1; have zf6 : w3.frozen? ⟨w.heap.size, k * 8 + 6, none⟩ = false := (Z 6 (by omega)).2; have zc7 : w3.cell? ⟨w.heap.size, k * 8 + 7, none⟩ = some (.int .u8 0) := (Z 7 (by omega)).1; have zf7 : w3.frozen? ⟨w.heap.size, k * 8 + 7, none⟩ = false := (Z 7 (by omega)).2; clear Z dx0 dx1 dx2 dx3 dx4 dx5 dx6 dx7 dy0 dy1 dy2 dy3 dy4 dy5 dy6 dy7))
      have hE := Lib.hid (urel_next hkm hdr3 hq hbW (Nat.le_refl _))
      go_wp2_with fail
      go_roundw
      case rel => exact hE.out
      case measure => simp [intOf]; omega
    · have hkm2 : k = h := by omega
      subst hkm2
      go_wp2_with fail
      go_ret
      exact ⟨_, rfl, dr_congr hdr (fun j hj => by unfold utgt; rw [if_pos hj]), Nat.le_refl _, hB2⟩
end Go.Proofs.Ytflpemagbempaaa.Dg
