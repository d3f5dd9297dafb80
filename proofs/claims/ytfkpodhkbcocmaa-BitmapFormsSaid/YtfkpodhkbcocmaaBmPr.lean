/-
  Layer 4 (bitmap): BitmapParts: what lies in memory.
-/
import Derived.Test.YtfkpodhkbcocmaaBmPq
import Derived.Test.YtfkpodhkbcocmaaBmE1
import Derived.Test.YtfkpodhkbcocmaaBmY
import Derived.Deep.RegionHeld3
import Derived.Lib.MinMax
namespace Go.Proofs.Ytfkpodhkbcocmaa.Bm
open Go.RowKit
theorem kq {w a : World} (h : Below w.heap.size w a) {b o : Nat} {v : Value} (hc : w.cell? ⟨b, o, none⟩ = some v) : a.cell? ⟨b, o, none⟩ = some v := kc h (block_lt_of_cell hc) hc
/-- A counter of rounds. -/
def UpT (w0 : World) (n : Nat) (v : Value) (V : World) : Prop := ∃ j : Nat, v = .int .i64 (j : Int) ∧ j ≤ n ∧ Below w0.heap.size w0 V
/-- A row of a list of pairs of bitmaps. -/
def LP (V : World) (B k : Nat) : Prop := ∃ (W H : Int) (a : Option Addr) (n c : Nat) (f : Nat → Bool) (W2 H2 : Int) (a2 : Option Addr) (n2 c2 : Nat) (f2 : Nat → Bool),
  (V.cell? ⟨B, k * 6, none⟩ = some (.int .i64 W) ∧ V.cell? ⟨B, k * 6 + 1, none⟩ = some (.int .i64 H) ∧ V.cell? ⟨B, k * 6 + 2, none⟩ = some (.slice a n c)) ∧
  (V.cell? ⟨B, k * 6 + 3, none⟩ = some (.int .i64 W2) ∧ V.cell? ⟨B, k * 6 + 4, none⟩ = some (.int .i64 H2) ∧ V.cell? ⟨B, k * 6 + 5, none⟩ = some (.slice a2 n2 c2)) ∧ DA V a n f ∧ DA V a2 n2 f2
theorem lp_below {V V' : World} {B k : Nat} (h : LP V B k) (hB : Below V.heap.size V V') : LP V' B k := by
  obtain ⟨W, H, a, n, c, f, W2, H2, a2, n2, c2, f2, ⟨h1, h2, h3⟩, ⟨h4, h5, h6⟩, h7, h8⟩ := h
  exact ⟨W, H, a, n, c, f, W2, H2, a2, n2, c2, f2, ⟨kq hB h1, kq hB h2, kq hB h3⟩, ⟨kq hB h4, kq hB h5, kq hB h6⟩, da_below h7 hB, da_below h8 hB⟩
/-- A row of four numbers. -/
def L4 (V : World) (B k : Nat) : Prop := ∃ p0 p1 p2 p3 : Int, (R64 p0 ∧ R64 p1) ∧ V.cell? ⟨B, k * 4, none⟩ = some (.int .i64 p0) ∧ V.cell? ⟨B, k * 4 + 1, none⟩ = some (.int .i64 p1) ∧ V.cell? ⟨B, k * 4 + 2, none⟩ = some (.int .i64 p2) ∧ V.cell? ⟨B, k * 4 + 3, none⟩ = some (.int .i64 p3)
theorem l4_below {V V' : World} {B k : Nat} (h : L4 V B k) (hB : Below V.heap.size V V') : L4 V' B k := by
  obtain ⟨p0, p1, p2, p3, hr, h0, h1, h2, h3⟩ := h
  exact ⟨p0, p1, p2, p3, hr, kq hB h0, kq hB h1, kq hB h2, kq hB h3⟩
/-- A row of two numbers. -/
def L2 (V : World) (B k : Nat) : Prop := ∃ p0 p1 : Int, V.cell? ⟨B, k * 2, none⟩ = some (.int .i64 p0) ∧ V.cell? ⟨B, k * 2 + 1, none⟩ = some (.int .i64 p1)
theorem l2_below {V V' : World} {B k : Nat} (h : L2 V B k) (hB : Below V.heap.size V V') : L2 V' B k := by
  obtain ⟨p0, p1, h0, h1⟩ := h
  exact ⟨p0, p1, kq hB h0, kq hB h1⟩
theorem l2_lit (V : World) (x y z t u v : Int) (T : TypeId) (k : Nat) (hk : k < 3) : L2 (V.alloc (.cells #[.int .i64 x, .int .i64 y, .int .i64 z, .int .i64 t, .int .i64 u, .int .i64 v] T)) V.heap.size k := by
  obtain rfl | rfl | rfl : k = 0 ∨ k = 1 ∨ k = 2 := by omega
  · exact ⟨x, y, by go_cell, by go_cell⟩
  · exact ⟨z, t, by go_cell, by go_cell⟩
  · exact ⟨u, v, by go_cell, by go_cell⟩
theorem l4_lit (V : World) (x y z t x2 y2 z2 t2 : Int) (h : R64 x ∧ R64 y) (h2 : R64 x2 ∧ R64 y2) (T : TypeId) (k : Nat) (hk : k < 2) : L4 (V.alloc (.cells #[.int .i64 x, .int .i64 y, .int .i64 z, .int .i64 t, .int .i64 x2, .int .i64 y2, .int .i64 z2, .int .i64 t2] T)) V.heap.size k := by
  obtain rfl | rfl : k = 0 ∨ k = 1 := by omega
  · exact ⟨x, y, z, t, h, by go_cell, by go_cell, by go_cell, by go_cell⟩
  · exact ⟨x2, y2, z2, t2, h2, by go_cell, by go_cell, by go_cell, by go_cell⟩
theorem lp_lit (V : World) (W H : Int) (a : Option Addr) (n c : Nat) (f : Nat → Bool) (W2 H2 : Int) (a2 : Option Addr) (n2 c2 : Nat) (f2 : Nat → Bool) (W3 H3 : Int) (a3 : Option Addr) (n3 c3 : Nat) (f3 : Nat → Bool) (W4 H4 : Int) (a4 : Option Addr) (n4 c4 : Nat) (f4 : Nat → Bool) (h : DA V a n f) (h2 : DA V a2 n2 f2) (h3 : DA V a3 n3 f3) (h4 : DA V a4 n4 f4) (T : TypeId) (k : Nat) (hk : k < 5) :
    LP (V.alloc (.cells #[.int .i64 W, .int .i64 H, .slice a n c, .int .i64 W2, .int .i64 H2, .slice a2 n2 c2, .int .i64 W, .int .i64 H, .slice a n c, .int .i64 W3, .int .i64 H3, .slice a3 n3 c3, .int .i64 W3, .int .i64 H3, .slice a3 n3 c3, .int .i64 W2, .int .i64 H2, .slice a2 n2 c2, .int .i64 W4, .int .i64 H4, .slice a4 n4 c4, .int .i64 W, .int .i64 H, .slice a n c, .int .i64 W2, .int .i64 H2, .slice a2 n2 c2, .int .i64 W4, .int .i64 H4, .slice a4 n4 c4] T)) V.heap.size k := by
  have b1 := da_below h (ba (Below.refl _ V) (.cells #[.int .i64 W, .int .i64 H, .slice a n c, .int .i64 W2, .int .i64 H2, .slice a2 n2 c2, .int .i64 W, .int .i64 H, .slice a n c, .int .i64 W3, .int .i64 H3, .slice a3 n3 c3, .int .i64 W3, .int .i64 H3, .slice a3 n3 c3, .int .i64 W2, .int .i64 H2, .slice a2 n2 c2, .int .i64 W4, .int .i64 H4, .slice a4 n4 c4, .int .i64 W, .int .i64 H, .slice a n c, .int .i64 W2, .int .i64 H2, .slice a2 n2 c2, .int .i64 W4, .int .i64 H4, .slice a4 n4 c4] T))
  have b2 := da_below h2 (ba (Below.refl _ V) (.cells #[.int .i64 W, .int .i64 H, .slice a n c, .int .i64 W2, .int .i64 H2, .slice a2 n2 c2, .int .i64 W, .int .i64 H, .slice a n c, .int .i64 W3, .int .i64 H3, .slice a3 n3 c3, .int .i64 W3, .int .i64 H3, .slice a3 n3 c3, .int .i64 W2, .int .i64 H2, .slice a2 n2 c2, .int .i64 W4, .int .i64 H4, .slice a4 n4 c4, .int .i64 W, .int .i64 H, .slice a n c, .int .i64 W2, .int .i64 H2, .slice a2 n2 c2, .int .i64 W4, .int .i64 H4, .slice a4 n4 c4] T))
  have b3 := da_below h3 (ba (Below.refl _ V) (.cells #[.int .i64 W, .int .i64 H, .slice a n c, .int .i64 W2, .int .i64 H2, .slice a2 n2 c2, .int .i64 W, .int .i64 H, .slice a n c, .int .i64 W3, .int .i64 H3, .slice a3 n3 c3, .int .i64 W3, .int .i64 H3, .slice a3 n3 c3, .int .i64 W2, .int .i64 H2, .slice a2 n2 c2, .int .i64 W4, .int .i64 H4, .slice a4 n4 c4, .int .i64 W, .int .i64 H, .slice a n c, .int .i64 W2, .int .i64 H2, .slice a2 n2 c2, .int .i64 W4, .int .i64 H4, .slice a4 n4 c4] T))
  have b4 := da_below h4 (ba (Below.refl _ V) (.cells #[.int .i64 W, .int .i64 H, .slice a n c, .int .i64 W2, .int .i64 H2, .slice a2 n2 c2, .int .i64 W, .int .i64 H, .slice a n c, .int .i64 W3, .int .i64 H3, .slice a3 n3 c3, .int .i64 W3, .int .i64 H3, .slice a3 n3 c3, .int .i64 W2, .int .i64 H2, .slice a2 n2 c2, .int .i64 W4, .int .i64 H4, .slice a4 n4 c4, .int .i64 W, .int .i64 H, .slice a n c, .int .i64 W2, .int .i64 H2, .slice a2 n2 c2, .int .i64 W4, .int .i64 H4, .slice a4 n4 c4] T))
  obtain rfl | rfl | rfl | rfl | rfl : k = 0 ∨ k = 1 ∨ k = 2 ∨ k = 3 ∨ k = 4 := by omega
  · exact ⟨W, H, a, n, c, f, W2, H2, a2, n2, c2, f2, ⟨by go_cell, by go_cell, by go_cell⟩, ⟨by go_cell, by go_cell, by go_cell⟩, b1, b2⟩
  · exact ⟨W, H, a, n, c, f, W3, H3, a3, n3, c3, f3, ⟨by go_cell, by go_cell, by go_cell⟩, ⟨by go_cell, by go_cell, by go_cell⟩, b1, b3⟩
  · exact ⟨W3, H3, a3, n3, c3, f3, W2, H2, a2, n2, c2, f2, ⟨by go_cell, by go_cell, by go_cell⟩, ⟨by go_cell, by go_cell, by go_cell⟩, b3, b2⟩
  · exact ⟨W4, H4, a4, n4, c4, f4, W, H, a, n, c, f, ⟨by go_cell, by go_cell, by go_cell⟩, ⟨by go_cell, by go_cell, by go_cell⟩, b4, b1⟩
  · exact ⟨W2, H2, a2, n2, c2, f2, W4, H4, a4, n4, c4, f4, ⟨by go_cell, by go_cell, by go_cell⟩, ⟨by go_cell, by go_cell, by go_cell⟩, b2, b4⟩
/-- A case in a variable. -/
def K7 (V : World) (B : Nat) (aA : Option Addr) (nA cA : Nat) (aB : Option Addr) (nB cB : Nat) (q l0 l1 l2 l3 : Int) : Prop :=
  V.cell? ⟨B, 0, none⟩ = some (.slice aA nA cA) ∧ V.cell? ⟨B, 1, none⟩ = some (.slice aB nB cB) ∧ V.cell? ⟨B, 2, none⟩ = some (.int .i64 q) ∧ V.cell? ⟨B, 3, none⟩ = some (.int .i64 l0) ∧ V.cell? ⟨B, 4, none⟩ = some (.int .i64 l1) ∧ V.cell? ⟨B, 5, none⟩ = some (.int .i64 l2) ∧ V.cell? ⟨B, 6, none⟩ = some (.int .i64 l3)
theorem k7_below {V V' : World} {B : Nat} {aA : Option Addr} {nA cA : Nat} {aB : Option Addr} {nB cB : Nat} {q l0 l1 l2 l3 : Int} (h : K7 V B aA nA cA aB nB cB q l0 l1 l2 l3) (hB : Below V.heap.size V V') : K7 V' B aA nA cA aB nB cB q l0 l1 l2 l3 := by
  obtain ⟨h0, h1, h2, h3, h4, h5, h6⟩ := h
  exact ⟨kq hB h0, kq hB h1, kq hB h2, kq hB h3, kq hB h4, kq hB h5, kq hB h6⟩
def T2 (V : World) (B : Nat) (x y : Int) : Prop := V.cell? ⟨B, 0, none⟩ = some (.int .i64 x) ∧ V.cell? ⟨B, 1, none⟩ = some (.int .i64 y)
theorem t2_below {V V' : World} {B : Nat} {x y : Int} (h : T2 V B x y) (hB : Below V.heap.size V V') : T2 V' B x y := ⟨kq hB h.1, kq hB h.2⟩
/-- A pair of bitmaps in a variable. -/
def PX (V : World) (B : Nat) (W H : Int) (a : Option Addr) (n c : Nat) (W2 H2 : Int) (a2 : Option Addr) (n2 c2 : Nat) : Prop :=
  (V.cell? ⟨B, 0, none⟩ = some (.int .i64 W) ∧ V.cell? ⟨B, 1, none⟩ = some (.int .i64 H) ∧ V.cell? ⟨B, 2, none⟩ = some (.slice a n c)) ∧ V.cell? ⟨B, 3, none⟩ = some (.int .i64 W2) ∧ V.cell? ⟨B, 4, none⟩ = some (.int .i64 H2) ∧ V.cell? ⟨B, 5, none⟩ = some (.slice a2 n2 c2)
theorem px_below {V V' : World} {B : Nat} {W H : Int} {a : Option Addr} {n c : Nat} {W2 H2 : Int} {a2 : Option Addr} {n2 c2 : Nat} (h : PX V B W H a n c W2 H2 a2 n2 c2) (hB : Below V.heap.size V V') : PX V' B W H a n c W2 H2 a2 n2 c2 :=
  ⟨⟨kq hB h.1.1, kq hB h.1.2.1, kq hB h.1.2.2⟩, kq hB h.2.1, kq hB h.2.2.1, kq hB h.2.2.2⟩
/-- Four numbers in a variable. -/
def K4 (V : World) (B : Nat) (p0 p1 p2 p3 : Int) : Prop := V.cell? ⟨B, 0, none⟩ = some (.int .i64 p0) ∧ V.cell? ⟨B, 1, none⟩ = some (.int .i64 p1) ∧ V.cell? ⟨B, 2, none⟩ = some (.int .i64 p2) ∧ V.cell? ⟨B, 3, none⟩ = some (.int .i64 p3)
theorem k4_below {V V' : World} {B : Nat} {p0 p1 p2 p3 : Int} (h : K4 V B p0 p1 p2 p3) (hB : Below V.heap.size V V') : K4 V' B p0 p1 p2 p3 := ⟨kq hB h.1, kq hB h.2.1, kq hB h.2.2.1, kq hB h.2.2.2⟩
theorem sv_r (x : Int) : R64 (sv x) := by
  have := sv_in x
  unfold R64
  omega
theorem sm_yes2 {W H : Int} {n : Nat} {f : Nat → Bool} : sm W H n f W H n f = true := by
  unfold sm eqd
  rw [decide_eq_true rfl, decide_eq_true rfl, decide_eq_true ⟨rfl, fun _ _ => rfl⟩]; rfl
theorem da_cut {V : World} {a : Option Addr} {n m : Nat} {f : Nat → Bool} (h : DA V a n f) (hm : m ≤ n) : DA V a m f := fun i hi => h i (by omega)
end Go.Proofs.Ytfkpodhkbcocmaa.Bm
