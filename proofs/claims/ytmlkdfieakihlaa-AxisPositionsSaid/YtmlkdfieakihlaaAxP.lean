/-
  Layer 5 (axis): the chapter's examples, walked.
-/
import Derived.Test.YtmlkdfieakihlaaAxM
namespace Go.Proofs.Ytmlkdfieakihlaa.Ax
open Go.RowKit

def SnRel (w : World) (L : Nat) (v : Value) (V : World) : Prop := ∃ k : Nat, v = .int .i64 k ∧ k ≤ 6 ∧ BxA V w.heap.size axE ∧ LA V (some ⟨L, 0, none⟩) 6 waE ∧ Below w.heap.size w V
theorem la_six (w : World) (T : TypeId) : LA (w.alloc (.cells #[.int .i64 (-64), .int .i64 (-32), .int .i64 0, .int .i64 13, .int .i64 64, .int .i64 64] T)) (some ⟨w.heap.size, 0, none⟩) 6 waE := by
  intro i hi
  have : i = 0 ∨ i = 1 ∨ i = 2 ∨ i = 3 ∨ i = 4 ∨ i = 5 := by omega
  rcases this with rfl | rfl | rfl | rfl | rfl | rfl
  · exact ⟨_, _, rfl, by show World.cell? _ _ = some (.int .i64 (-64)); go_cell⟩
  · exact ⟨_, _, rfl, by show World.cell? _ _ = some (.int .i64 (-32)); go_cell⟩
  · exact ⟨_, _, rfl, by show World.cell? _ _ = some (.int .i64 0); go_cell⟩
  · exact ⟨_, _, rfl, by show World.cell? _ _ = some (.int .i64 13); go_cell⟩
  · exact ⟨_, _, rfl, by show World.cell? _ _ = some (.int .i64 64); go_cell⟩
  · exact ⟨_, _, rfl, by show World.cell? _ _ = some (.int .i64 64); go_cell⟩
theorem usE_cell (k : Nat) (h : k < 6) : ([.int .i64 100, .int .i64 250, .int .i64 400, .int .i64 500, .int .i64 900, .int .i64 2000] : List Value)[k]'(by simpa using h) = .int .i64 (usE k) := by
  have : k = 0 ∨ k = 1 ∨ k = 2 ∨ k = 3 ∨ k = 4 ∨ k = 5 := by omega
  rcases this with rfl | rfl | rfl | rfl | rfl | rfl <;> rfl
set_option maxRecDepth 100000 in
set_option maxHeartbeats 16000000 in
theorem sanity_any (w : World) :
    Calls Try.prog 9 #[] w fun e w' => e = .returned (.bool true) ∧ Below w.heap.size w w' := by
  go_enter Try.func9, Try.ntmps9
  go_wp2_with fail
  obtain ⟨V0, hV0⟩ : ∃ V0, V0 = (w.alloc (.cells #[.string ⟨#[119, 103, 104, 116]⟩, .int .i64 100, .int .i64 400, .int .i64 900] 29)).alloc (.cells #[.int .i64 (-64), .int .i64 (-32), .int .i64 0, .int .i64 13, .int .i64 64, .int .i64 64] 3) := ⟨_, rfl⟩
  have hX : BxA V0 w.heap.size axE := by rw [hV0]; exact bxa_below (bxa_new w axE _) (ba (Below.refl _ _) _)
  have hL : LA V0 (some ⟨w.heap.size + 1, 0, none⟩) 6 waE := by
    rw [hV0]
    have := la_six (w.alloc (.cells #[.string ⟨#[119, 103, 104, 116]⟩, .int .i64 100, .int .i64 400, .int .i64 900] 29)) 3
    simpa only [World.size_alloc] using this
  have hB : Below w.heap.size w V0 := by rw [hV0]; exact ba (ba (Below.refl _ _) _) _
  rw [← hV0]
  clear hV0
  go_loopw [14] (fun v V => SnRel w (w.heap.size + 1) v V) (fun v _ => 6 - (intOf v).toNat)
  case atStart => exact ⟨0, rfl, by omega, hX, hL, hB⟩
  case round =>
    clear hX hL hB
    obtain ⟨k, rfl, hle, hX, hL, hB⟩ := hrel
    rename World => V
    rcases Nat.lt_or_ge k 6 with hk | hk
    · have hN : Hid (∀ V', Below V.heap.size V V' → SnRel w (w.heap.size + 1) (.int .i64 ((k : Int) + 1)) V') := Lib.hid (fun V' h => ⟨k + 1, rfl, by omega, bxa_below hX h, la_below hL h, bt hB h⟩)
      have hw := nmE_is k
      obtain ⟨b, o, e, hc⟩ := hL k hk
      cases e
      have NM : Hid (∀ (W : World) (b c : Nat), W.cell? ⟨b, 0, none⟩ = some (.string ⟨#[119, 103, 104, 116]⟩) → W.cell? ⟨b, 1, none⟩ = some (.int .i64 100) → W.cell? ⟨b, 2, none⟩ = some (.int .i64 400) → W.cell? ⟨b, 3, none⟩ = some (.int .i64 900) → W.cell? ⟨c, 0, none⟩ = some (.int .i64 (usE k)) → _) := Lib.hid (fun W b c h1 h2 h3 h4 h5 => x_norm axE (usE k) ck_axE W b c ⟨h1, h2, h3, h4⟩ h5)
      rw [hw] at NM
      obtain ⟨x0, x1, x2, x3⟩ := id hX
      unfold axE at x0 x1 x2 x3
      simp only at x0 x1 x2 x3
      have hu := usE_cell k hk
      have hlt := block_lt_of_cell x0
      simp only at hlt
      have n0 : ¬ w.heap.size = V.heap.size := by omega
      have n1 : ¬ w.heap.size = V.heap.size + 1 := by omega
      have n2 : ¬ w.heap.size = V.heap.size + 1 + 1 := by omega
      clear hX hL hB hw
      have k2 : (0 : Int) ≤ (k : Int) := by omega
      have k3 : (k : Int) < 6 := by omega
      simp only [Nat.zero_add] at hc
      generalize usE k = uk at *
      generalize waE k = wk at *
      go_upto_region 5 with (fail)
      have hBd : Below V.heap.size V V.drew := bd1 (Below.refl _ _)
      go_region_with (first
        | ((with_reducible refine (NM.out _ _ _ (by go_cell) (by go_cell) (by go_cell) (by go_cell) (by go_cell)).mono ?_); rintro en wa ⟨S, rfl, hcS, hba⟩))
      all_goals
        have R := Lib.hid (hN.out _ (bt (by first | exact bd1 (ba (ba (ba (Below.refl _ _) _) _) _) | exact ba (bd1 (ba (ba (Below.refl _ _) _) _)) _ | exact ba (ba (bd1 (ba (Below.refl _ _) _)) _) _ | exact ba (ba (ba (bd1 (Below.refl _ _)) _) _) _) hba))
        clear hN
        go_wp2_with fail
        exact ⟨R.out, by simp [intOf]; omega⟩
    · obtain rfl : k = 6 := by omega
      clear hle hk hL
      have U1 := Lib.hid (fun w => User_any axE (-64) w)
      have U2 := Lib.hid (fun w => User_any axE (-32) w)
      have U3 := Lib.hid (fun w => User_any axE 13 w)
      rw [usE1] at U1
      rw [usE2] at U2
      rw [usE3] at U3
      unfold axV axE at U1 U2 U3
      simp only at U1 U2 U3
      obtain ⟨x0, x1, x2, x3⟩ := id hX
      unfold axE at x0 x1 x2 x3
      simp only at x0 x1 x2 x3
      go_wp2_with fail
      refine (U1.out _).mono ?_
      rintro e W1 ⟨rfl, hb⟩
      replace hB := bt hB hb
      replace hX := bxa_below hX hb
      clear x0 x1 x2 x3
      obtain ⟨x0, x1, x2, x3⟩ := id hX
      unfold axE at x0 x1 x2 x3
      simp only at x0 x1 x2 x3
      clear hb
      go_wp2_with fail
      refine (U2.out _).mono ?_
      rintro e W2 ⟨rfl, hb⟩
      replace hB := bt hB hb
      replace hX := bxa_below hX hb
      clear x0 x1 x2 x3
      obtain ⟨x0, x1, x2, x3⟩ := id hX
      unfold axE at x0 x1 x2 x3
      simp only at x0 x1 x2 x3
      clear hb
      go_wp2_with fail
      refine (U3.out _).mono ?_
      rintro e W3 ⟨rfl, hb⟩
      replace hB := bt hB hb
      replace hX := bxa_below hX hb
      clear x0 x1 x2 x3
      obtain ⟨x0, x1, x2, x3⟩ := id hX
      unfold axE at x0 x1 x2 x3
      simp only at x0 x1 x2 x3
      clear hb
      go_wp2_with fail
      have hU := bxt_new W3 tnU 52
      have hb := ba (Below.refl _ W3) (.cells #[.int .i64 0, .int .i64 64, .int .i64 64] 52)
      refine (x_sc 0 64 64 16 1 4 scE1 _ _ _ (by go_cell) (by go_cell) (by go_cell) (by go_cell)).mono ?_
      rintro e W4 ⟨rfl, hb2⟩
      replace hb := bt (ba hb _) hb2
      replace hU := bxt_below (bxt_below hU (ba (Below.refl _ _) _)) hb2
      clear hb2
      replace hB := bt hB hb
      replace hX := bxa_below hX hb
      clear x0 x1 x2 x3
      obtain ⟨x0, x1, x2, x3⟩ := id hX
      unfold axE at x0 x1 x2 x3
      simp only at x0 x1 x2 x3
      clear hb
      obtain ⟨y0, y1, y2⟩ := id hU
      unfold tnU at y0 y1 y2
      simp only at y0 y1 y2
      generalize W3.heap.size = U at *
      go_wp2_with fail
      refine (x_sc 0 64 64 64 1 1 scE2 _ _ _ (kc (ba (Below.refl _ _) _) (block_lt_of_cell y0) y0) (kc (ba (Below.refl _ _) _) (block_lt_of_cell y0) y1) (kc (ba (Below.refl _ _) _) (block_lt_of_cell y0) y2) (by go_cell)).mono ?_
      rintro e W5 ⟨rfl, hb⟩
      have hb0 := hb
      replace hb := bt (ba (Below.refl _ _) _) hb0
      clear hb0
      replace hB := bt hB hb
      replace hX := bxa_below hX hb
      clear x0 x1 x2 x3
      obtain ⟨x0, x1, x2, x3⟩ := id hX
      unfold axE at x0 x1 x2 x3
      simp only at x0 x1 x2 x3
      replace hU := bxt_below hU hb
      clear y0 y1 y2
      obtain ⟨y0, y1, y2⟩ := id hU
      unfold tnU at y0 y1 y2
      simp only at y0 y1 y2
      clear hb
      go_wp2_with fail
      refine (x_sc 0 64 64 (-5) 0 1 scE3 _ _ _ (kc (ba (Below.refl _ _) _) (block_lt_of_cell y0) y0) (kc (ba (Below.refl _ _) _) (block_lt_of_cell y0) y1) (kc (ba (Below.refl _ _) _) (block_lt_of_cell y0) y2) (by go_cell)).mono ?_
      rintro e W6 ⟨rfl, hb⟩
      have hb0 := hb
      replace hb := bt (ba (Below.refl _ _) _) hb0
      clear hb0
      replace hB := bt hB hb
      replace hX := bxa_below hX hb
      clear x0 x1 x2 x3
      obtain ⟨x0, x1, x2, x3⟩ := id hX
      unfold axE at x0 x1 x2 x3
      simp only at x0 x1 x2 x3
      replace hU := bxt_below hU hb
      clear y0 y1 y2
      obtain ⟨y0, y1, y2⟩ := id hU
      unfold tnU at y0 y1 y2
      simp only at y0 y1 y2
      clear hb
      go_wp2_with fail
      refine (x_sc2 _ _ _ (by go_cell) (by go_cell) (by go_cell) (by go_cell) (by go_cell) (by go_cell) (by go_cell) (by go_cell)).mono ?_
      rintro e W7 ⟨rfl, hb⟩
      have hb0 := hb
      replace hb := bt (ba (ba (Below.refl _ _) _) _) hb0
      clear hb0
      replace hB := bt hB hb
      replace hX := bxa_below hX hb
      clear x0 x1 x2 x3
      obtain ⟨x0, x1, x2, x3⟩ := id hX
      unfold axE at x0 x1 x2 x3
      simp only at x0 x1 x2 x3
      replace hU := bxt_below hU hb
      clear y0 y1 y2
      obtain ⟨y0, y1, y2⟩ := id hU
      unfold tnU at y0 y1 y2
      simp only at y0 y1 y2
      clear hb
      go_wp2_with fail
      refine (x_sc (-64) 0 64 50 1 1 scE5 _ _ _ (by go_cell) (by go_cell) (by go_cell) (by go_cell)).mono ?_
      rintro e W8 ⟨rfl, hb⟩
      have hb0 := hb
      replace hb := bt (ba (ba (Below.refl _ _) _) _) hb0
      clear hb0
      replace hB := bt hB hb
      replace hX := bxa_below hX hb
      clear x0 x1 x2 x3
      obtain ⟨x0, x1, x2, x3⟩ := id hX
      unfold axE at x0 x1 x2 x3
      simp only at x0 x1 x2 x3
      replace hU := bxt_below hU hb
      clear y0 y1 y2
      obtain ⟨y0, y1, y2⟩ := id hU
      unfold tnU at y0 y1 y2
      simp only at y0 y1 y2
      clear hb
      go_wp2_with fail
      refine (x_ft 0 64 64 true ftE1 _ _ y0 y1 y2).mono ?_
      rintro e W9 ⟨rfl, hb⟩
      have hb0 := hb
      replace hb := bt (Below.refl _ _) hb0
      clear hb0
      replace hB := bt hB hb
      replace hX := bxa_below hX hb
      clear x0 x1 x2 x3
      obtain ⟨x0, x1, x2, x3⟩ := id hX
      unfold axE at x0 x1 x2 x3
      simp only at x0 x1 x2 x3
      replace hU := bxt_below hU hb
      clear y0 y1 y2
      obtain ⟨y0, y1, y2⟩ := id hU
      unfold tnU at y0 y1 y2
      simp only at y0 y1 y2
      clear hb
      have hv := bxt_new W9 ⟨-1, 1, 2⟩ 52
      go_wp2_with fail
      refine (x_ft (-1) 1 2 false ftE2 _ _ hv.1 hv.2.1 hv.2.2).mono ?_
      rintro e W10 ⟨rfl, hb⟩
      have hb0 := hb
      replace hb := bt (ba (Below.refl _ _) _) hb0
      clear hb0
      replace hB := bt hB hb
      replace hX := bxa_below hX hb
      clear x0 x1 x2 x3
      obtain ⟨x0, x1, x2, x3⟩ := id hX
      unfold axE at x0 x1 x2 x3
      simp only at x0 x1 x2 x3
      replace hU := bxt_below hU hb
      clear y0 y1 y2
      obtain ⟨y0, y1, y2⟩ := id hU
      unfold tnU at y0 y1 y2
      simp only at y0 y1 y2
      clear hb
      go_wp2_with fail
      refine (x_ck _ _ (by go_cell) (by go_cell) (by go_cell) (by go_cell)).mono ?_
      rintro e W11 ⟨rfl, hb⟩
      have hb0 := hb
      replace hb := bt (ba (Below.refl _ _) _) hb0
      clear hb0
      replace hB := bt hB hb
      replace hX := bxa_below hX hb
      clear x0 x1 x2 x3
      obtain ⟨x0, x1, x2, x3⟩ := id hX
      unfold axE at x0 x1 x2 x3
      simp only at x0 x1 x2 x3
      replace hU := bxt_below hU hb
      clear y0 y1 y2
      obtain ⟨y0, y1, y2⟩ := id hU
      unfold tnU at y0 y1 y2
      simp only at y0 y1 y2
      clear hb
      go_wp2_with fail
      refine (x_ck2 _ _ (by go_cell) (by go_cell) (by go_cell) (by go_cell) (by go_cell) (by go_cell) (by go_cell) (by go_cell)).mono ?_
      rintro e W12 ⟨rfl, hb⟩
      have hb0 := hb
      replace hb := bt (ba (Below.refl _ _) _) hb0
      clear hb0
      replace hB := bt hB hb
      replace hX := bxa_below hX hb
      clear x0 x1 x2 x3
      obtain ⟨x0, x1, x2, x3⟩ := id hX
      unfold axE at x0 x1 x2 x3
      simp only at x0 x1 x2 x3
      clear hb
      go_wp2
      go_ret
      exact ⟨rfl, hB⟩
end Go.Proofs.Ytmlkdfieakihlaa.Ax
