/-
  Layer 4 (bitmap): Crop of the document's own, refused; what its Paste needs.
-/
import Derived.Test.YtfkpodhkbcocmaaBmE2
namespace Go.Proofs.Ytfkpodhkbcocmaa.Bm
open Go.RowKit
set_option maxHeartbeats 2000000 in
theorem rCrop_bad (W H : Int) (a : Option Addr) (n c : Nat) (x y cw chh : Int) (hg : gd W H n = false) (w : World) :
    Calls Try.prog 29 #[bv W H a n c, .int .i64 x, .int .i64 y, .int .i64 cw, .int .i64 chh] w fun e w' => e = .returned (.tuple #[bv 0 0 none 0 0, .int .i64 (ck W H n)]) ∧ Below w.heap.size w w' := by
  have C := Lib.hid (rCheck_any W H a n c)
  have hz := ck_zero W H n
  rw [hg] at hz
  generalize ck W H n = z at *
  have hz2 : ¬ z = 0 := fun h => by rw [h] at hz; cases hz
  unfold bv at *
  go_enter Try.func29, Try.ntmps29
  go_wp2_with fail
  refine (C.out _).mono ?_
  rintro e w1 ⟨rfl, hb1⟩
  have hBa : Below w.heap.size w ((w.alloc (.cells #[.int .i64 W, .int .i64 H, .slice a n c] 28)).alloc (.cells #[.int .i64 0, .int .i64 0, .slice none 0 0] 28)) := ba (ba (Below.refl _ w) _) _
  obtain ⟨c0, c1, c2⟩ := box3 hb1 rfl
  obtain ⟨f0, f1, f2⟩ := fz3 hb1 rfl
  simp only [World.size_alloc] at c0 c1 c2 f0 f1 f2
  have hB : Below w.heap.size w w1 := bt hBa hb1
  clear hb1 hBa
  go_wp2
  refine bodyPost_ret (v := .tuple #[.agg #[.int .i64 0, .int .i64 0, .slice none 0 0], .int .i64 z]) (by simp [results, Try.results29, go_sem, c0, c1, c2]) rfl ⟨rfl, ?_⟩
  exact bs (bs (bs hB (by simp) _) (by simp) _) (by simp) _
set_option maxHeartbeats 4000000 in
theorem rCrop_size (W H : Int) (a : Option Addr) (n c : Nat) (x y cw chh : Int) (hg : gd W H n = true) (hs : (sd cw && sd chh) = false) (w : World) :
    Calls Try.prog 29 #[bv W H a n c, .int .i64 x, .int .i64 y, .int .i64 cw, .int .i64 chh] w fun e w' => e = .returned (.tuple #[bv 0 0 none 0 0, .int .i64 13]) ∧ Below w.heap.size w w' := by
  have C := Lib.hid (rCheck_any W H a n c)
  have hz : ck W H n = 0 := by have := ck_zero W H n; rw [hg] at this; exact eq_of_beq this
  rw [hz] at C
  have N := Lib.hid (rNew_no cw chh hs)
  clear hz hg hs
  unfold bv at *
  go_enter Try.func29, Try.ntmps29
  go_wp2_with fail
  refine (C.out _).mono ?_
  rintro e w1 ⟨rfl, hb1⟩
  have hBa : Below w.heap.size w ((w.alloc (.cells #[.int .i64 W, .int .i64 H, .slice a n c] 28)).alloc (.cells #[.int .i64 0, .int .i64 0, .slice none 0 0] 28)) := ba (ba (Below.refl _ w) _) _
  have rz : RZ w1 (w.heap.size + 1) := rz_below (⟨⟨by go_cell, by go_cell, by go_cell⟩, by go_cell, by go_cell, by go_cell⟩ : RZ ((w.alloc (.cells #[.int .i64 W, .int .i64 H, .slice a n c] 28)).alloc (.cells #[.int .i64 0, .int .i64 0, .slice none 0 0] 28)) (w.heap.size + 1)) hb1
  have hB : Below w.heap.size w w1 := bt hBa hb1
  clear hb1 hBa
  go_wp2_with fail
  refine (N.out _).mono ?_
  rintro e w2 ⟨rfl, hb2⟩
  replace rz := rz_below rz hb2
  replace hB := bt hB hb2
  clear hb2
  have hlt := block_lt_of_cell rz.1.1
  obtain ⟨⟨r0, r1, r2⟩, r3, r4, r5⟩ := rz
  go_wp2_with fail
  go_loopw [14] (fun s14 V => s14 = .int .i64 0 ∧ BoxAt V w2.heap.size 0 0 none 0 0 ∧ RZ V (w.heap.size + 1) ∧ Below w.heap.size w V) (fun s14 _ => 1 - (intOf s14).toNat)
  case atStart => exact ⟨rfl, ⟨by go_cell, by go_cell, by go_cell⟩, ⟨⟨by go_cell, by go_cell, by go_cell⟩, by go_cell, by go_cell, by go_cell⟩, ba hB _⟩
  case round =>
    clear r0 r1 r2 r3 r4 r5 hB
    obtain ⟨rfl, ⟨x0, x1, x2⟩, ⟨⟨r0, r1, r2⟩, r3, r4, r5⟩, hB⟩ := hrel
    go_wp2
    refine bodyPost_ret (v := .tuple #[.agg #[.int .i64 0, .int .i64 0, .slice none 0 0], .int .i64 13]) (by simp [results, Try.results29, go_sem, r0, r1, r2]) rfl ⟨rfl, ?_⟩
    exact bs (bs (bs hB (by simp) _) (by simp) _) (by simp) _
/-- With a further box. -/
structure FP (w V : World) (Bo b W H m : Nat) (g : Nat → Bool) (B1 : Nat) (W1 H1 : Int) (a1 : Option Addr) (n1 c1 R B2 : Nat) (W2 H2 : Int) (a2 : Option Addr) (n2 c2 : Nat) : Prop where
  fw : FW w V Bo b W H m g B1 W1 H1 a1 n1 c1 R
  b2 : BoxAt V B2 W2 H2 a2 n2 c2
  l4 : ¬ b = B2
theorem fp_below {w V V' : World} {Bo b W H m : Nat} {g : Nat → Bool} {B1 : Nat} {W1 H1 : Int} {a1 : Option Addr} {n1 c1 R B2 : Nat} {W2 H2 : Int} {a2 : Option Addr} {n2 c2 : Nat} (h : FP w V Bo b W H m g B1 W1 H1 a1 n1 c1 R B2 W2 H2 a2 n2 c2) (hB : Below V.heap.size V V') : FP w V' Bo b W H m g B1 W1 H1 a1 n1 c1 R B2 W2 H2 a2 n2 c2 :=
  ⟨fw_below h.fw hB, boxat_below h.b2 hB, h.l4⟩
def PJ (w : World) (Bo b W H m : Nat) (P : Nat → Bool) (B1 : Nat) (W1 H1 : Int) (a1 : Option Addr) (n1 c1 R B2 : Nat) (W2 H2 : Int) (a2 : Option Addr) (n2 c2 : Nat) (s : Value) (V : World) : Prop := ∃ j : Nat, j ≤ H ∧ s = .int .i64 j ∧ FP w V Bo b W H m (mixd P (j * W)) B1 W1 H1 a1 n1 c1 R B2 W2 H2 a2 n2 c2
def PI (w : World) (Bo b W H m : Nat) (P : Nat → Bool) (B1 : Nat) (W1 H1 : Int) (a1 : Option Addr) (n1 c1 R B2 : Nat) (W2 H2 : Int) (a2 : Option Addr) (n2 c2 : Nat) (j : Nat) (s : Value) (V : World) : Prop := ∃ i : Nat, i ≤ W ∧ s = .int .i64 i ∧ FP w V Bo b W H m (mixd P (j * W + i)) B1 W1 H1 a1 n1 c1 R B2 W2 H2 a2 n2 c2
theorem pi_next {w V : World} {Bo b W H m : Nat} {P : Nat → Bool} {B1 : Nat} {W1 H1 : Int} {a1 : Option Addr} {n1 c1 R B2 : Nat} {W2 H2 : Int} {a2 : Option Addr} {n2 c2 j i p : Nat} {v : Bool} (h : FP w V Bo b W H m (mixd P (j * W + i)) B1 W1 H1 a1 n1 c1 R B2 W2 H2 a2 n2 c2) (hi : i < W) (hp : j * W + i = p) (hpm : p < m) (hv : P p = v) :
    PI w Bo b W H m P B1 W1 H1 a1 n1 c1 R B2 W2 H2 a2 n2 c2 j (.int .i64 ((i : Int) + 1)) (V.setCell ⟨b, p, none⟩ (.bool v)) := by
  obtain ⟨h1, ⟨x0, x1, x2⟩, l4⟩ := h
  refine ⟨i + 1, by omega, by congr 1, ⟨fw_set h1 hpm (fun t => ?_), ⟨by go_cell, by go_cell, by go_cell⟩, l4⟩⟩
  subst hp hv
  exact mixd_next t
theorem pj_next {w V : World} {Bo b W H m : Nat} {P : Nat → Bool} {B1 : Nat} {W1 H1 : Int} {a1 : Option Addr} {n1 c1 R B2 : Nat} {W2 H2 : Int} {a2 : Option Addr} {n2 c2 j i : Nat} (h : FP w V Bo b W H m (mixd P (j * W + i)) B1 W1 H1 a1 n1 c1 R B2 W2 H2 a2 n2 c2) (hi : i = W) (hj : j < H) : PJ w Bo b W H m P B1 W1 H1 a1 n1 c1 R B2 W2 H2 a2 n2 c2 (.int .i64 ((j : Int) + 1)) V :=
  ⟨j + 1, by omega, by congr 1, by
    rw [Nat.succ_mul, ← hi]
    rw [hi] at h ⊢
    exact h⟩
theorem pst_at {W H : Nat} {f : Nat → Bool} {W2 H2 : Int} {n2 : Nat} {f2 : Nat → Bool} {x y : Int} (hW : W ≤ 96) (hH : H ≤ 96) {i j : Nat} (hi : i < W) (hj : j < H) : pst W W2 H2 n2 f2 f x y (j * W + i) = (has W H (W * H) f i j || has W2 H2 n2 f2 (RowKit.wrap64 ((i : Int) - x)) (RowKit.wrap64 ((j : Int) - y))) := by
  have hk : j * W + i < W * H := by
    have : (j + 1) * W ≤ H * W := Nat.mul_le_mul_right _ (by omega)
    rw [Nat.succ_mul, Nat.mul_comm H W] at this
    omega
  have hd := div_mod_at (W := W) (u := i) (v := j) ⟨by omega, by omega⟩
  have e : ((j * W + i : Nat) : Int) = (j : Int) * W + i := by rw [Int.natCast_add, Int.natCast_mul]
  have h1 := D_at (f := f) hW hH hk
  unfold pst
  rw [← h1, e, hd.1, hd.2]
  rfl
end Go.Proofs.Ytfkpodhkbcocmaa.Bm
