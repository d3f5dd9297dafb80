/-
  Layer 4 (bitmap): Paste of the document's own, refused.
-/
import Derived.Test.YtfkpodhkbcocmaaBmE4
namespace Go.Proofs.Ytfkpodhkbcocmaa.Bm
open Go.RowKit
set_option maxHeartbeats 4000000 in
theorem rPaste_bad (W H : Int) (a : Option Addr) (n c : Nat) (W2 H2 : Int) (a2 : Option Addr) (n2 c2 : Nat) (x y : Int) (hg : gd W H n = false) (w : World) :
    Calls Try.prog 27 #[bv W H a n c, bv W2 H2 a2 n2 c2, .int .i64 x, .int .i64 y] w fun e w' => e = .returned (bv 0 0 none 0 0) ∧ Below w.heap.size w w' := by
  have CK := Lib.hid (rCheck_any W H a n c)
  have hz := ck_zero W H n
  rw [hg] at hz
  rcases hs : (sd W && sd H) with _ | _
  · have NW := Lib.hid (rNew_no W H hs)
    clear hs hg hz
    unfold bv at *
    go_enter Try.func27, Try.ntmps27
    go_wp2_with fail
    refine (NW.out _).mono ?_
    rintro e V2 ⟨rfl, hB2⟩
    have hBa : Below w.heap.size w (((w.alloc (.cells #[.int .i64 W, .int .i64 H, .slice a n c] 28)).alloc (.cells #[.int .i64 W2, .int .i64 H2, .slice a2 n2 c2] 28)).alloc (.cells #[.int .i64 0, .int .i64 0, .slice none 0 0] 28)) := ba (ba (ba (Below.refl _ w) _) _) _
    have rz : RZ V2 (w.heap.size + 1 + 1) := rz_below (⟨⟨by go_cell, by go_cell, by go_cell⟩, by go_cell, by go_cell, by go_cell⟩ : RZ (((w.alloc (.cells #[.int .i64 W, .int .i64 H, .slice a n c] 28)).alloc (.cells #[.int .i64 W2, .int .i64 H2, .slice a2 n2 c2] 28)).alloc (.cells #[.int .i64 0, .int .i64 0, .slice none 0 0] 28)) (w.heap.size + 1 + 1)) hB2
    have hB := bt hBa hB2
    clear hBa hB2
    have hlt := block_lt_of_cell rz.1.1
    obtain ⟨⟨r0, r1, r2⟩, r3, r4, r5⟩ := rz
    go_wp2
    refine bodyPost_ret (v := .agg #[.int .i64 0, .int .i64 0, .slice none 0 0]) (by simp [results, Try.results27, go_sem, r0, r1, r2, hlt]) rfl ⟨rfl, ?_⟩
    exact ba (bs (bs (bs hB (by simp only; omega) _) (by simp only; omega) _) (by simp only; omega) _) _
  · obtain ⟨h1, h2⟩ : (0 ≤ W ∧ W ≤ 96) ∧ (0 ≤ H ∧ H ≤ 96) := by rw [Bool.and_eq_true, sd_iff, sd_iff] at hs; exact hs
    obtain ⟨m1, m2⟩ := mul_side h1 h2
    obtain ⟨m, hm⟩ : ∃ m : Nat, (m : Int) = W * H := ⟨(W * H).toNat, by omega⟩
    have NW := Lib.hid (rNew_yes W H m hs hm)
    generalize ck W H n = z at *
    have hz2 : ¬ z = 0 := fun h => by rw [h] at hz; cases hz
    clear hs hg m1 m2 hm
    unfold bv at *
    go_enter Try.func27, Try.ntmps27
    go_wp2_with fail
    refine (NW.out _).mono ?_
    rintro e V2 ⟨b, rfl, _, _, hB2⟩
    have hBa : Below w.heap.size w (((w.alloc (.cells #[.int .i64 W, .int .i64 H, .slice a n c] 28)).alloc (.cells #[.int .i64 W2, .int .i64 H2, .slice a2 n2 c2] 28)).alloc (.cells #[.int .i64 0, .int .i64 0, .slice none 0 0] 28)) := ba (ba (ba (Below.refl _ w) _) _) _
    have rz : RZ V2 (w.heap.size + 1 + 1) := rz_below (⟨⟨by go_cell, by go_cell, by go_cell⟩, by go_cell, by go_cell, by go_cell⟩ : RZ (((w.alloc (.cells #[.int .i64 W, .int .i64 H, .slice a n c] 28)).alloc (.cells #[.int .i64 W2, .int .i64 H2, .slice a2 n2 c2] 28)).alloc (.cells #[.int .i64 0, .int .i64 0, .slice none 0 0] 28)) (w.heap.size + 1 + 1)) hB2
    have bx : BoxAt V2 w.heap.size W H a n c := boxat_below (⟨by go_cell, by go_cell, by go_cell⟩ : BoxAt (((w.alloc (.cells #[.int .i64 W, .int .i64 H, .slice a n c] 28)).alloc (.cells #[.int .i64 W2, .int .i64 H2, .slice a2 n2 c2] 28)).alloc (.cells #[.int .i64 0, .int .i64 0, .slice none 0 0] 28)) w.heap.size W H a n c) hB2
    have hB := bt hBa hB2
    clear hBa hB2
    have hBo := ba (Below.refl _ V2) (.cells #[.int .i64 W, .int .i64 H, .slice (some ⟨b, 0, none⟩) m m] 28)
    have rz3 := rz_below rz hBo
    have hlt := block_lt_of_cell rz.1.1
    have hltx := block_lt_of_cell bx.1
    obtain ⟨x0, x1, x2⟩ := id bx
    go_wp2_with fail
    refine (CK.out _).mono ?_
    rintro e V3 ⟨rfl, hB3⟩
    obtain ⟨⟨r0, r1, r2⟩, r3, r4, r5⟩ := rz_below rz3 hB3
    have hB9 := bt (ba hB (.cells #[.int .i64 W, .int .i64 H, .slice (some ⟨b, 0, none⟩) m m] 28)) hB3
    clear rz rz3 bx hBo x0 x1 x2 hB3
    go_wp2
    refine bodyPost_ret (v := .agg #[.int .i64 0, .int .i64 0, .slice none 0 0]) (by simp [results, Try.results27, go_sem, r0, r1, r2]) rfl ⟨rfl, ?_⟩
    exact bs (bs (bs hB9 (by simp only; omega) _) (by simp only; omega) _) (by simp only; omega) _
end Go.Proofs.Ytfkpodhkbcocmaa.Bm
