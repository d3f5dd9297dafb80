/-
  Layer 4 (bitmap): Paste and Crop of both sides, by one answer each.
-/
import Derived.Test.YtfkpodhkbcocmaaBmE5
import Derived.Test.YtfkpodhkbcocmaaBmJ
namespace Go.Proofs.Ytfkpodhkbcocmaa.Bm
open Go.RowKit
theorem gd_nat2 {W H : Int} {n : Nat} (hg : gd W H n = true) : ∃ W' H' : Nat, W = (W' : Int) ∧ H = (H' : Int) ∧ W' ≤ 96 ∧ H' ≤ 96 ∧ n = W' * H' := by
  obtain ⟨h1, h2, h3⟩ := (gd_iff _ _ _).1 hg
  refine ⟨W.toNat, H.toNat, by omega, by omega, by omega, by omega, ?_⟩
  have : ((W.toNat * H.toNat : Nat) : Int) = W * H := by rw [Int.natCast_mul, Int.toNat_of_nonneg h1.1, Int.toNat_of_nonneg h2.1]
  omega
theorem gd_small2 {W H : Int} {n : Nat} (hg : gd W H n = true) : n ≤ 100000 := by
  obtain ⟨W', H', _, _, h1, h2, rfl⟩ := gd_nat2 hg
  have : W' * H' ≤ 96 * 96 := Nat.mul_le_mul h1 h2
  omega
theorem sd_nat2 {W : Int} (h : sd W = true) : ∃ W' : Nat, W = (W' : Int) ∧ W' ≤ 96 := by
  rw [sd_iff] at h
  exact ⟨W.toNat, by omega, by omega⟩
/-- A bitmap, as a call returns it. -/
def BmC (f : Nat) (args : Array Value) (w : World) (W H : Int) (n : Nat) (F : Nat → Bool) : Prop := Calls Try.prog f args w fun e w' => ∃ sa, e = .returned (.agg #[.int .i64 W, .int .i64 H, .slice sa n n]) ∧ DA w' sa n F ∧ Below w.heap.size w w'
def BmC2 (f : Nat) (args : Array Value) (w : World) (W H : Int) (n : Nat) (F : Nat → Bool) (er : Int) : Prop := Calls Try.prog f args w fun e w' => ∃ sa, e = .returned (.tuple #[.agg #[.int .i64 W, .int .i64 H, .slice sa n n], .int .i64 er]) ∧ DA w' sa n F ∧ Below w.heap.size w w'
theorem paste_both (W H : Int) (a : Option Addr) (n c : Nat) (f : Nat → Bool) (W2 H2 : Int) (a2 : Option Addr) (n2 c2 : Nat) (f2 : Nat → Bool) (x y : Int) (hx : R64 x) (hy : R64 y) : ∃ (W' H' : Int) (n' : Nat) (F : Nat → Bool), n' ≤ 100000 ∧
    (∀ w, DA w a n f → DA w a2 n2 f2 → BmC 26 #[bv W H a n c, bv W2 H2 a2 n2 c2, .int .i64 x, .int .i64 y] w W' H' n' F) ∧
    (∀ w, DA w a n f → DA w a2 n2 f2 → BmC 27 #[bv W H a n c, bv W2 H2 a2 n2 c2, .int .i64 x, .int .i64 y] w W' H' n' F) := by
  rcases hg : gd W H n with _ | _
  · refine ⟨0, 0, 0, fun _ => false, by omega, fun w h1 h2 => (Paste_bad W H a n c W2 H2 a2 n2 c2 f2 x y hg w h2).mono ?_, fun w h1 h2 => (rPaste_bad W H a n c W2 H2 a2 n2 c2 x y hg w).mono ?_⟩ <;>
    · rintro e w' ⟨e1, hb⟩
      exact ⟨none, e1, fun i hi => absurd hi (by omega), hb⟩
  · refine ⟨W, H, n, pst W W2 H2 n2 f2 f x y, gd_small2 hg, fun w h1 h2 => (Paste_yes W H a n c f W2 H2 a2 n2 c2 f2 x y hg hx hy w h1 h2).mono ?_, fun w h1 h2 => ?_⟩
    · rintro e w' ⟨b, e1, ho, _, hb⟩
      exact ⟨_, e1, ob_da ho, hb⟩
    · obtain ⟨W', H', rfl, rfl, w1, w2, hn⟩ := gd_nat2 hg
      refine (rPaste_yes W' H' a n c f W2 H2 a2 n2 c2 f2 x y w1 w2 hn w h1 h2).mono ?_
      rintro e w' ⟨b, e1, ho, hb⟩
      exact ⟨_, e1, ob_da ho, hb⟩
theorem crop_both (W H : Int) (a : Option Addr) (n c : Nat) (f : Nat → Bool) (x y cw ch : Int) : ∃ (W' H' : Int) (n' : Nat) (F : Nat → Bool) (er : Int), n' ≤ 100000 ∧
    (∀ w, DA w a n f → BmC2 28 #[bv W H a n c, .int .i64 x, .int .i64 y, .int .i64 cw, .int .i64 ch] w W' H' n' F er) ∧
    (∀ w, DA w a n f → BmC2 29 #[bv W H a n c, .int .i64 x, .int .i64 y, .int .i64 cw, .int .i64 ch] w W' H' n' F er) := by
  rcases hg : gd W H n with _ | _
  · refine ⟨0, 0, 0, fun _ => false, ck W H n, by omega, fun w h1 => (Crop_bad W H a n c x y cw ch hg w).mono ?_, fun w h1 => (rCrop_bad W H a n c x y cw ch hg w).mono ?_⟩ <;>
    · rintro e w' ⟨e1, hb⟩
      exact ⟨none, e1, fun i hi => absurd hi (by omega), hb⟩
  · rcases hs : (sd cw && sd ch) with _ | _
    · refine ⟨0, 0, 0, fun _ => false, 13, by omega, fun w h1 => (Crop_size W H a n c f x y cw ch hg hs w h1).mono ?_, fun w h1 => (rCrop_size W H a n c x y cw ch hg hs w).mono ?_⟩ <;>
      · rintro e w' ⟨e1, hb⟩
        exact ⟨none, e1, fun i hi => absurd hi (by omega), hb⟩
    · have hs2 := hs
      rw [Bool.and_eq_true] at hs2
      obtain ⟨p, rfl, hp⟩ := sd_nat2 hs2.1
      obtain ⟨q, rfl, hq⟩ := sd_nat2 hs2.2
      have hl : p * q ≤ 96 * 96 := Nat.mul_le_mul hp hq
      refine ⟨p, q, p * q, crp p W H n f x y, 0, by omega, fun w h1 => (Crop_yes W H a n c f x y p q (p * q) hg hs (by simp) w h1).mono ?_, fun w h1 => (rCrop_yes W H a n c f x y p q (p * q) hg hp hq rfl w h1).mono ?_⟩
      · rintro e w' ⟨b, e1, ho, _, hb⟩
        exact ⟨_, e1, ob_da ho, hb⟩
      · rintro e w' ⟨b, e1, ho, hb⟩
        exact ⟨_, e1, ob_da ho, hb⟩
end Go.Proofs.Ytfkpodhkbcocmaa.Bm
