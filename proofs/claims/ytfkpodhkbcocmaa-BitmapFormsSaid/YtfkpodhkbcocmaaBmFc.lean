/-
  Layer 4 (bitmap): BitmapForms: both sides by one answer each; what lies in memory.
-/
import Derived.Test.YtfkpodhkbcocmaaBmFb
import Derived.Test.YtfkpodhkbcocmaaBmE6
import Derived.Test.YtfkpodhkbcocmaaBmPr
namespace Go.Proofs.Ytfkpodhkbcocmaa.Bm
open Go.RowKit
def StC (f : Nat) (args : Array Value) (w : World) (T : ByteArray) : Prop := Calls Try.prog f args w fun e w' => e = .returned (.string T) ∧ Below w.heap.size w w'
theorem text_both (W H : Int) (a : Option Addr) (n c : Nat) (f : Nat → Bool) (hc : n ≤ c) : ∃ T : ByteArray, T.size ≤ 20000 ∧
    (∀ w, DA w a n f → StC 14 #[bv W H a n c] w T) ∧ (∀ w, DA w a n f → StC 15 #[bv W H a n c] w T) := by
  rcases hg : gd W H n with _ | _
  · exact ⟨⟨#[]⟩, by decide, fun w _ => Text_bad W H a n c hg w, fun w _ => rText_bad W H a n c hg w⟩
  · obtain ⟨W', H', rfl, rfl, h1, h2, hn⟩ := gd_nat2 hg
    refine ⟨⟨(tx W' H' f H').toArray⟩, ?_, fun w h => Text_yes W' H' a n c f h1 h2 hn hc w h, fun w h => rText_yes W' H' a n c f h1 h2 hn w h⟩
    rw [tx_size]
    have : H' * (W' + 1) ≤ 96 * 97 := Nat.mul_le_mul h2 (by omega)
    omega
theorem new_both (p q : Int) : ∃ (W' H' : Int) (n' : Nat) (F : Nat → Bool) (er : Int), n' ≤ 100000 ∧
    (∀ w, BmC2 19 #[.int .i64 p, .int .i64 q] w W' H' n' F er) ∧ (∀ w, BmC2 20 #[.int .i64 p, .int .i64 q] w W' H' n' F er) := by
  rcases hs : (sd p && sd q) with _ | _
  · refine ⟨0, 0, 0, fun _ => false, 13, by omega, fun w => (New_no p q hs w).mono ?_, fun w => (rNew_no p q hs w).mono ?_⟩ <;>
    · rintro e w' ⟨e1, hb⟩
      exact ⟨none, e1, fun i hi => absurd hi (by omega), hb⟩
  · have hs2 := hs
    rw [Bool.and_eq_true] at hs2
    obtain ⟨P, rfl, hp⟩ := sd_nat2 hs2.1
    obtain ⟨Q, rfl, hq⟩ := sd_nat2 hs2.2
    have hl : P * Q ≤ 96 * 96 := Nat.mul_le_mul hp hq
    refine ⟨P, Q, P * Q, fun _ => false, 0, by omega, fun w => (New_yes P Q (P * Q) hs (by simp) w).mono ?_, fun w => (rNew_yes P Q (P * Q) hs (by simp) w).mono ?_⟩ <;>
    · rintro e w' ⟨b, e1, ho, _, hb⟩
      exact ⟨_, e1, ob_da ho, hb⟩
def BmCb (f : Nat) (args : Array Value) (w : World) (W H : Int) (n : Nat) (F : Nat → Bool) (ok : Bool) : Prop := Calls Try.prog f args w fun e w' => ∃ sa, e = .returned (.tuple #[.agg #[.int .i64 W, .int .i64 H, .slice sa n n], .bool ok]) ∧ DA w' sa n F ∧ Below w.heap.size w w'
theorem rParse_any (s : ByteArray) (hsz : s.size ≤ 1000000) (w : World) : ∃ W, Calls Try.prog 25 #[.string s] w (RP s W w) := by
  obtain ⟨W, h1, h2, h3⟩ := first10 s s.size
  rcases Nat.lt_or_ge W s.size with h | h
  · exact ⟨W, rParse_core s W hsz h h2 (by
      rcases h3 with h3 | h3
      · omega
      · exact h3) w⟩
  · exact ⟨W, rParse_short s W hsz (by omega) h2 w⟩
theorem parse_both (s : ByteArray) (hsz : s.size ≤ 1000000) : ∃ (W' H' : Int) (n' : Nat) (F : Nat → Bool) (ok : Bool), n' ≤ 100000 ∧
    (∀ w, BmCb 24 #[.string s] w W' H' n' F ok) ∧ (∀ w, BmCb 25 #[.string s] w W' H' n' F ok) := by
  rcases Classical.em (∃ W H, PT s W H) with ⟨W, H, hp⟩ | hno
  · have hp2 := hp
    obtain ⟨p1, p2, p3, p4, _⟩ := hp2
    have hl : W * H ≤ 96 * 96 := Nat.mul_le_mul p2 p4
    refine ⟨W, H, W * H, pf s W H, true, by omega, fun w => (Parse_yes s W H (W * H) hp rfl hsz w).mono ?_, fun w => ?_⟩
    · rintro e w' ⟨b, e1, ho, _, hb⟩
      exact ⟨_, e1, ob_da ho, hb⟩
    · obtain ⟨W', hc⟩ := rParse_any s hsz w
      refine hc.mono ?_
      rintro e w' (⟨H', b, hp', e1, ho, hb⟩ | ⟨h, _⟩)
      · obtain ⟨i1, i2⟩ := pt_index hp
        obtain ⟨i3, i4⟩ := pt_index hp'
        have e5 : W' = W := Int.ofNat.inj (i3.symm.trans i1)
        subst e5
        have e6 : H' = H := i4.trans i2.symm
        subst e6
        exact ⟨_, e1, ob_da ho, hb⟩
      · exact absurd hp (h W H)
  · have hn : ∀ W H, ¬ PT s W H := fun W H h => hno ⟨W, H, h⟩
    refine ⟨0, 0, 0, fun _ => false, false, by omega, fun w => (Parse_no s hn hsz w).mono ?_, fun w => ?_⟩
    · rintro e w' ⟨e1, hb⟩
      exact ⟨none, e1, fun i hi => absurd hi (by omega), hb⟩
    · obtain ⟨W', hc⟩ := rParse_any s hsz w
      refine hc.mono ?_
      rintro e w' (⟨H', b, hp', _⟩ | ⟨_, e1, hb⟩)
      · exact absurd hp' (hn W' H')
      · exact ⟨none, e1, fun i hi => absurd hi (by omega), hb⟩
/-- A row of a list of bitmaps. -/
def L1 (V : World) (B k : Nat) : Prop := ∃ (W H : Int) (a : Option Addr) (n c : Nat) (f : Nat → Bool),
  (V.cell? ⟨B, k * 3, none⟩ = some (.int .i64 W) ∧ V.cell? ⟨B, k * 3 + 1, none⟩ = some (.int .i64 H) ∧ V.cell? ⟨B, k * 3 + 2, none⟩ = some (.slice a n c)) ∧ (n ≤ c ∧ n ≤ 1000) ∧ DA V a n f
theorem l1_below {V V' : World} {B k : Nat} (h : L1 V B k) (hB : Below V.heap.size V V') : L1 V' B k := by
  obtain ⟨W, H, a, n, c, f, ⟨h1, h2, h3⟩, h4, h5⟩ := h
  exact ⟨W, H, a, n, c, f, ⟨kq hB h1, kq hB h2, kq hB h3⟩, h4, da_below h5 hB⟩
theorem l1_lit (V : World) (W H : Int) (a : Option Addr) (n c : Nat) (f : Nat → Bool) (W2 H2 : Int) (a2 : Option Addr) (n2 c2 : Nat) (f2 : Nat → Bool) (W3 H3 : Int) (a3 : Option Addr) (n3 c3 : Nat) (f3 : Nat → Bool) (W4 H4 : Int) (a4 : Option Addr) (n4 c4 : Nat) (f4 : Nat → Bool) (h : DA V a n f) (h2 : DA V a2 n2 f2) (h3 : DA V a3 n3 f3) (h4 : DA V a4 n4 f4)
    (g : n ≤ c ∧ n ≤ 1000) (g2 : n2 ≤ c2 ∧ n2 ≤ 1000) (g3 : n3 ≤ c3 ∧ n3 ≤ 1000) (g4 : n4 ≤ c4 ∧ n4 ≤ 1000) (T : TypeId) (k : Nat) (hk : k < 4) :
    L1 (V.alloc (.cells #[.int .i64 W, .int .i64 H, .slice a n c, .int .i64 W2, .int .i64 H2, .slice a2 n2 c2, .int .i64 W3, .int .i64 H3, .slice a3 n3 c3, .int .i64 W4, .int .i64 H4, .slice a4 n4 c4] T)) V.heap.size k := by
  have b1 := da_below h (ba (Below.refl _ V) (.cells #[.int .i64 W, .int .i64 H, .slice a n c, .int .i64 W2, .int .i64 H2, .slice a2 n2 c2, .int .i64 W3, .int .i64 H3, .slice a3 n3 c3, .int .i64 W4, .int .i64 H4, .slice a4 n4 c4] T))
  have b2 := da_below h2 (ba (Below.refl _ V) (.cells #[.int .i64 W, .int .i64 H, .slice a n c, .int .i64 W2, .int .i64 H2, .slice a2 n2 c2, .int .i64 W3, .int .i64 H3, .slice a3 n3 c3, .int .i64 W4, .int .i64 H4, .slice a4 n4 c4] T))
  have b3 := da_below h3 (ba (Below.refl _ V) (.cells #[.int .i64 W, .int .i64 H, .slice a n c, .int .i64 W2, .int .i64 H2, .slice a2 n2 c2, .int .i64 W3, .int .i64 H3, .slice a3 n3 c3, .int .i64 W4, .int .i64 H4, .slice a4 n4 c4] T))
  have b4 := da_below h4 (ba (Below.refl _ V) (.cells #[.int .i64 W, .int .i64 H, .slice a n c, .int .i64 W2, .int .i64 H2, .slice a2 n2 c2, .int .i64 W3, .int .i64 H3, .slice a3 n3 c3, .int .i64 W4, .int .i64 H4, .slice a4 n4 c4] T))
  obtain rfl | rfl | rfl | rfl : k = 0 ∨ k = 1 ∨ k = 2 ∨ k = 3 := by omega
  · exact ⟨W, H, a, n, c, f, ⟨by go_cell, by go_cell, by go_cell⟩, g, b1⟩
  · exact ⟨W2, H2, a2, n2, c2, f2, ⟨by go_cell, by go_cell, by go_cell⟩, g2, b2⟩
  · exact ⟨W3, H3, a3, n3, c3, f3, ⟨by go_cell, by go_cell, by go_cell⟩, g3, b3⟩
  · exact ⟨W4, H4, a4, n4, c4, f4, ⟨by go_cell, by go_cell, by go_cell⟩, g4, b4⟩
/-- A row of a list of strings. -/
def LS (V : World) (B k : Nat) : Prop := ∃ t : ByteArray, V.cell? ⟨B, k, none⟩ = some (.string t) ∧ t.size ≤ 1000000
theorem ls_below {V V' : World} {B k : Nat} (h : LS V B k) (hB : Below V.heap.size V V') : LS V' B k := by
  obtain ⟨t, h1, h2⟩ := h
  exact ⟨t, kq hB h1, h2⟩
theorem ls_lit (V : World) (t0 t1 t2 t3 t4 : ByteArray) (T : TypeId) (h0 : t0.size ≤ 1000000) (h1 : t1.size ≤ 1000000) (h2 : t2.size ≤ 1000000) (h3 : t3.size ≤ 1000000) (h4 : t4.size ≤ 1000000) (k : Nat) (hk : k < 5) :
    LS (V.alloc (.cells #[.string t0, .string t1, .string t2, .string t3, .string t4] T)) V.heap.size k := by
  obtain rfl | rfl | rfl | rfl | rfl : k = 0 ∨ k = 1 ∨ k = 2 ∨ k = 3 ∨ k = 4 := by omega
  · exact ⟨t0, by go_cell, h0⟩
  · exact ⟨t1, by go_cell, h1⟩
  · exact ⟨t2, by go_cell, h2⟩
  · exact ⟨t3, by go_cell, h3⟩
  · exact ⟨t4, by go_cell, h4⟩
theorem ext_size (T : ByteArray) (i j : Nat) : (T.extract i j).size ≤ T.size := by rw [ByteArray.size_extract]; omega
theorem app_size (T U : ByteArray) : (T ++ U).size = T.size + U.size := ByteArray.size_append
end Go.Proofs.Ytfkpodhkbcocmaa.Bm
