/-
  Layer 3 (digest): the digests of records, marks, leaves and nodes; the exported functions over strings.
-/
import Derived.Test.YtflpemagbempaaaDgC
import Derived.Deep.RegionHeld3
namespace Go.Proofs.Ytflpemagbempaaa.Dg
open Go.RowKit

theorem strs1 {w : World} {b : Nat} {s0 : ByteArray} (c0 : w.cell? ⟨b, 0, none⟩ = some (.string s0)) : StrsAt w (some ⟨b, 0, none⟩) [s0] := by
  intro i x hx
  have : i = 0 ∨ 1 ≤ i := by omega
  rcases this with rfl | h
  · cases hx; exact ⟨b, 0, rfl, c0⟩
  · rw [List.getElem?_eq_none (by simpa using h)] at hx; cases hx
theorem strs2 {w : World} {b : Nat} {s0 s1 : ByteArray} (c0 : w.cell? ⟨b, 0, none⟩ = some (.string s0)) (c1 : w.cell? ⟨b, 1, none⟩ = some (.string s1)) : StrsAt w (some ⟨b, 0, none⟩) [s0, s1] := by
  intro i x hx
  have : i = 0 ∨ i = 1 ∨ 2 ≤ i := by omega
  rcases this with rfl | rfl | h
  · cases hx; exact ⟨b, 0, rfl, c0⟩
  · cases hx; exact ⟨b, 0, rfl, c1⟩
  · rw [List.getElem?_eq_none (by simpa using h)] at hx; cases hx
theorem strs3 {w : World} {b : Nat} {s0 s1 s2 : ByteArray} (c0 : w.cell? ⟨b, 0, none⟩ = some (.string s0)) (c1 : w.cell? ⟨b, 1, none⟩ = some (.string s1)) (c2 : w.cell? ⟨b, 2, none⟩ = some (.string s2)) : StrsAt w (some ⟨b, 0, none⟩) [s0, s1, s2] := by
  intro i x hx
  have : i = 0 ∨ i = 1 ∨ i = 2 ∨ 3 ≤ i := by omega
  rcases this with rfl | rfl | rfl | h
  · cases hx; exact ⟨b, 0, rfl, c0⟩
  · cases hx; exact ⟨b, 0, rfl, c1⟩
  · cases hx; exact ⟨b, 0, rfl, c2⟩
  · rw [List.getElem?_eq_none (by simpa using h)] at hx; cases hx
theorem strs4 {w : World} {b : Nat} {s0 s1 s2 s3 : ByteArray} (c0 : w.cell? ⟨b, 0, none⟩ = some (.string s0)) (c1 : w.cell? ⟨b, 1, none⟩ = some (.string s1)) (c2 : w.cell? ⟨b, 2, none⟩ = some (.string s2)) (c3 : w.cell? ⟨b, 3, none⟩ = some (.string s3)) : StrsAt w (some ⟨b, 0, none⟩) [s0, s1, s2, s3] := by
  intro i x hx
  have : i = 0 ∨ i = 1 ∨ i = 2 ∨ i = 3 ∨ 4 ≤ i := by omega
  rcases this with rfl | rfl | rfl | rfl | h
  · cases hx; exact ⟨b, 0, rfl, c0⟩
  · cases hx; exact ⟨b, 0, rfl, c1⟩
  · cases hx; exact ⟨b, 0, rfl, c2⟩
  · cases hx; exact ⟨b, 0, rfl, c3⟩
  · rw [List.getElem?_eq_none (by simpa using h)] at hx; cases hx
theorem strs5 {w : World} {b : Nat} {s0 s1 s2 s3 s4 : ByteArray} (c0 : w.cell? ⟨b, 0, none⟩ = some (.string s0)) (c1 : w.cell? ⟨b, 1, none⟩ = some (.string s1)) (c2 : w.cell? ⟨b, 2, none⟩ = some (.string s2)) (c3 : w.cell? ⟨b, 3, none⟩ = some (.string s3)) (c4 : w.cell? ⟨b, 4, none⟩ = some (.string s4)) : StrsAt w (some ⟨b, 0, none⟩) [s0, s1, s2, s3, s4] := by
  intro i x hx
  have : i = 0 ∨ i = 1 ∨ i = 2 ∨ i = 3 ∨ i = 4 ∨ 5 ≤ i := by omega
  rcases this with rfl | rfl | rfl | rfl | rfl | h
  · cases hx; exact ⟨b, 0, rfl, c0⟩
  · cases hx; exact ⟨b, 0, rfl, c1⟩
  · cases hx; exact ⟨b, 0, rfl, c2⟩
  · cases hx; exact ⟨b, 0, rfl, c3⟩
  · cases hx; exact ⟨b, 0, rfl, c4⟩
  · rw [List.getElem?_eq_none (by simpa using h)] at hx; cases hx
/-- The cells of the result, before it is stored. -/
def RZ (W : World) (r : Nat) : Prop := ∀ i, i < 8 → W.cell? ⟨r, i, none⟩ = some (.int .u8 0) ∧ W.frozen? ⟨r, i, none⟩ = false
theorem rz_new (w : World) (T : TypeId) : RZ (w.alloc (.cells #[.int .u8 0, .int .u8 0, .int .u8 0, .int .u8 0, .int .u8 0, .int .u8 0, .int .u8 0, .int .u8 0] T)) w.heap.size := by
  intro i hi
  have : i = 0 ∨ i = 1 ∨ i = 2 ∨ i = 3 ∨ i = 4 ∨ i = 5 ∨ i = 6 ∨ i = 7 := by omega
  rcases this with rfl | rfl | rfl | rfl | rfl | rfl | rfl | rfl <;> exact ⟨by go_cell, by go_cell⟩
theorem rz_keep {W a : World} {r : Nat} (h : RZ W r) (hb : Below W.heap.size W a) : RZ a r := fun i hi =>
  ⟨(hb.cell (p := ⟨r, i, none⟩) (block_lt_of_cell (h i hi).1)).trans (h i hi).1, (hb.frozen (p := ⟨r, i, none⟩) (block_lt_of_cell (h i hi).1)).trans (h i hi).2⟩
theorem rz_alloc {W : World} {r : Nat} (h : RZ W r) (o : Obj) : RZ (W.alloc o) r := rz_keep h ((Below.refl _ _).alloc (Nat.le_refl _) o)
/-- A result that is a digest in eight cells. -/
theorem res_dg (fn : Func) (sl : Nat) (hr : fn.results = #[.cell sl 52]) (V : World) (tm : Array Value) (b : Nat) (x0 x1 x2 x3 x4 x5 x6 x7 : UInt8) (h2 : tm.getD sl undef = .pointer (some ⟨b, 0, none⟩))
    (c0 : V.cell? ⟨b, 0, none⟩ = some (.int .u8 x0.toNat)) (c1 : V.cell? ⟨b, 1, none⟩ = some (.int .u8 x1.toNat)) (c2 : V.cell? ⟨b, 2, none⟩ = some (.int .u8 x2.toNat)) (c3 : V.cell? ⟨b, 3, none⟩ = some (.int .u8 x3.toNat))
    (c4 : V.cell? ⟨b, 4, none⟩ = some (.int .u8 x4.toNat)) (c5 : V.cell? ⟨b, 5, none⟩ = some (.int .u8 x5.toNat)) (c6 : V.cell? ⟨b, 6, none⟩ = some (.int .u8 x6.toNat)) (c7 : V.cell? ⟨b, 7, none⟩ = some (.int .u8 x7.toNat)) :
    (results fn tm).run Try.prog V = .ok (.agg #[.int .u8 x0.toNat, .int .u8 x1.toNat, .int .u8 x2.toNat, .int .u8 x3.toNat, .int .u8 x4.toNat, .int .u8 x5.toNat, .int .u8 x6.toNat, .int .u8 x7.toNat]) V := by
  rw [results, hr]
  simp only [Array.getD_eq_getD_getElem?] at h2
  simp only [Array.getD_eq_getD_getElem?]
  simp [h2, go_sem, c0, c1, c2, c3, c4, c5, c6, c7]
theorem bs8 {w u : World} (h : Below w.heap.size w u) {r : Nat} (hr : w.heap.size ≤ r) (v0 v1 v2 v3 v4 v5 v6 v7 : Value) :
    Below w.heap.size w ((((((((u.setCell ⟨r, 0, none⟩ v0).setCell ⟨r, 1, none⟩ v1).setCell ⟨r, 2, none⟩ v2).setCell ⟨r, 3, none⟩ v3).setCell ⟨r, 4, none⟩ v4).setCell ⟨r, 5, none⟩ v5).setCell ⟨r, 6, none⟩ v6).setCell ⟨r, 7, none⟩ v7) :=
  bs (bs (bs (bs (bs (bs (bs (bs h hr _) hr _) hr _) hr _) hr _) hr _) hr _) hr _
def leaf (s : ByteArray) : List UInt8 := dg (108 :: s.data.toList)
def rest : List UInt8 := dg [118]
def node (x y : List UInt8) : List UInt8 := dg (110 :: (x ++ y))
def chain (b s : ByteArray) : List UInt8 := dg (99 :: (w4 b.size ++ b.data.toList ++ s.data.toList))
def mark (k m : ByteArray) : List UInt8 := dg (109 :: (w4 k.size ++ k.data.toList ++ m.data.toList ++ k.data.toList))
theorem leaf_len (s : ByteArray) : (leaf s).length = 8 := rfl
theorem rest_len : rest.length = 8 := rfl
theorem node_len (x y : List UInt8) : (node x y).length = 8 := rfl
theorem cat_leaf (s : ByteArray) : cat [⟨#[108]⟩, s] = 108 :: s.data.toList := by simp [cat]
theorem cat_rest : cat [⟨#[118]⟩] = [118] := by simp [cat]
theorem cat_one (s : ByteArray) : cat [s] = s.data.toList := by simp [cat]
theorem cat_node (x y : List UInt8) : cat [⟨#[110]⟩, B x, B y] = 110 :: (x ++ y) := by simp [cat, B]
theorem cat_chain (b s : ByteArray) : cat [⟨#[99]⟩, B (w4 b.size), b, s] = 99 :: (w4 b.size ++ b.data.toList ++ s.data.toList) := by simp [cat, B]
theorem cat_mark (k m : ByteArray) : cat [⟨#[109]⟩, B (w4 k.size), k, m, k] = 109 :: (w4 k.size ++ k.data.toList ++ m.data.toList ++ k.data.toList) := by simp [cat, B]

set_option maxHeartbeats 1000000 in
theorem leafOf_any (s : ByteArray) (h : s.size ≤ 1000000) (w : World) :
    Calls Try.prog 41 #[.string s] w fun e w' => e = .returned (dval (leaf s)) ∧ Below w.heap.size w w' := by
  obtain ⟨q0, q1, q2, q3, q4, q5, q6, q7, hq⟩ := eight (leaf_len s)
  have O := Lib.hid (fun (W : World) (a : Option Addr) (hW : StrsAt W a [⟨#[108]⟩, s]) => of_any [⟨#[108]⟩, s] a 2 2 rfl (by omega) W hW (by
    intro x hx; rcases List.mem_cons.1 hx with rfl | hx
    · exact (by decide)
    · rw [List.mem_singleton] at hx; subst hx; omega))
  rw [cat_leaf, show dg (108 :: s.data.toList) = leaf s from rfl, hq, dval8] at O
  rw [hq, dval8]
  clear hq
  go_enter Try.func41, Try.ntmps41
  go_wp2_with fail
  refine (O.out _ _ (strs2 (by go_cell) (by go_cell))).mono ?_
  rintro e w1 ⟨rfl, hB1⟩
  have R := rz_keep (rz_alloc (rz_new w 52) _) hB1
  replace hB1 : Below w.heap.size w w1 := bt (ba (ba (Below.refl _ _) _) _) hB1
  have zc0 : w1.cell? ⟨w.heap.size, 0, none⟩ = some (.int .u8 0) := (R 0 (by omega)).1
  have zf0 : w1.frozen? ⟨w.heap.size, 0, none⟩ = false := (R 0 (by omega)).2
  have zc1 : w1.cell? ⟨w.heap.size, 1, none⟩ = some (.int .u8 0) := (R 1 (by omega)).1
  have zf1 : w1.frozen? ⟨w.heap.size, 1, none⟩ = false := (R 1 (by omega)).2
  have zc2 : w1.cell? ⟨w.heap.size, 2, none⟩ = some (.int .u8 0) := (R 2 (by omega)).1
  have zf2 : w1.frozen? ⟨w.heap.size, 2, none⟩ = false := (R 2 (by omega)).2
  have zc3 : w1.cell? ⟨w.heap.size, 3, none⟩ = some (.int .u8 0) := (R 3 (by omega)).1
  have zf3 : w1.frozen? ⟨w.heap.size, 3, none⟩ = false := (R 3 (by omega)).2
  have zc4 : w1.cell? ⟨w.heap.size, 4, none⟩ = some (.int .u8 0) := (R 4 (by omega)).1
  have zf4 : w1.frozen? ⟨w.heap.size, 4, none⟩ = false := (R 4 (by omega)).2
  have zc5 : w1.cell? ⟨w.heap.size, 5, none⟩ = some (.int .u8 0) := (R 5 (by omega)).1
  have zf5 : w1.frozen? ⟨w.heap.size, 5, none⟩ = false := (R 5 (by omega)).2
  have zc6 : w1.cell? ⟨w.heap.size, 6, none⟩ = some (.int .u8 0) := (R 6 (by omega)).1
  have zf6 : w1.frozen? ⟨w.heap.size, 6, none⟩ = false := (R 6 (by omega)).2
  have zc7 : w1.cell? ⟨w.heap.size, 7, none⟩ = some (.int .u8 0) := (R 7 (by omega)).1
  have zf7 : w1.frozen? ⟨w.heap.size, 7, none⟩ = false := (R 7 (by omega)).2
  clear R O
  go_wp2
  exact bodyPost_ret (res_dg _ _ Try.results41 _ _ w.heap.size _ _ _ _ _ _ _ _ rfl (by go_cell) (by go_cell) (by go_cell) (by go_cell) (by go_cell) (by go_cell) (by go_cell) (by go_cell) ) rfl ⟨rfl, bs8 hB1 (Nat.le_refl _) _ _ _ _ _ _ _ _⟩
theorem gr0 (w : World) (r : Nat) : w.grownBy w (some r) := ⟨rfl, rfl, rfl, Nat.le_refl _, fun _ _ _ => rfl⟩
theorem gd1 {a w : World} {r : Option Nat} (h : a.grownBy w r) : a.grownBy w.drew r := ⟨h.os, h.tape, h.output, h.size, h.block⟩
theorem gt {a w v : World} {r : Option Nat} (h : a.grownBy w r) (hb : Below w.heap.size w v) : a.grownBy v r :=
  ⟨hb.os.trans h.os, hb.tape.trans h.tape, hb.output.trans h.output, Nat.le_trans h.size hb.size, fun i hi hn => (hb.block i (Nat.lt_of_lt_of_le hi h.size)).trans (h.block i hi hn)⟩
theorem ga {a w : World} {r : Option Nat} (h : a.grownBy w r) (o : Obj) : a.grownBy (w.alloc o) r := gt h ((Below.refl _ _).alloc (Nat.le_refl _) o)
theorem gs {a w : World} {r o : Nat} (h : a.grownBy w (some r)) (u : Value) : a.grownBy (w.setCell ⟨r, o, none⟩ u) (some r) :=
  ⟨h.os, h.tape, h.output, by simpa [World.setCell] using h.size, fun i hi hne => (Below.heap_setCell w _ u i (by rintro rfl; exact hne rfl)).trans (h.block i hi hne)⟩
theorem gc {a w : World} {r b o : Nat} {v : Value} (h : a.grownBy w (some r)) (hc : a.cell? ⟨b, o, none⟩ = some v) (hn : b ≠ r) : w.cell? ⟨b, o, none⟩ = some v := by
  have hb : w.heap[b]? = a.heap[b]? := h.block b (block_lt_of_cell hc) (by intro e; cases e; exact hn rfl)
  unfold World.cell? at hc ⊢
  rw [hb]; exact hc
theorem gB {w a v : World} {r : Nat} (h : Below w.heap.size w a) (g : a.grownBy v (some r)) (hr : w.heap.size ≤ r) : Below w.heap.size w v :=
  h.grown g h.size (fun k hk => by cases hk; exact hr)
theorem g8 {a w : World} {r : Nat} (h : a.grownBy w (some r)) (v0 v1 v2 v3 v4 v5 v6 v7 : Value) :
    a.grownBy ((((((((w.setCell ⟨r, 0, none⟩ v0).setCell ⟨r, 1, none⟩ v1).setCell ⟨r, 2, none⟩ v2).setCell ⟨r, 3, none⟩ v3).setCell ⟨r, 4, none⟩ v4).setCell ⟨r, 5, none⟩ v5).setCell ⟨r, 6, none⟩ v6).setCell ⟨r, 7, none⟩ v7) (some r) :=
  gs (gs (gs (gs (gs (gs (gs (gs h _) _) _) _) _) _) _) _
theorem rz_drew {W : World} {r : Nat} (h : RZ W r) : RZ W.drew r := h
set_option maxRecDepth 100000 in
set_option maxHeartbeats 4000000 in
theorem nodeOf_any (x y : List UInt8) (hx : x.length = 8) (hy : y.length = 8) (w : World) :
    Calls Try.prog 42 #[dval x, dval y] w fun e w' => e = .returned (dval (node x y)) ∧ Below w.heap.size w w' := by
  obtain ⟨q0, q1, q2, q3, q4, q5, q6, q7, hq⟩ := eight (node_len x y)
  have TX := Lib.hid (text_any x hx)
  have TY := Lib.hid (text_any y hy)
  have hsx : (B x).size ≤ 8 := by rw [B_size]; omega
  have hsy : (B y).size ≤ 8 := by rw [B_size]; omega
  have O := Lib.hid (fun (W : World) (a : Option Addr) (hW : StrsAt W a [⟨#[110]⟩, B x, B y]) => of_any [⟨#[110]⟩, B x, B y] a 3 3 rfl (by omega) W hW (by
    intro z hz
    simp only [List.mem_cons, List.not_mem_nil, or_false] at hz
    rcases hz with rfl | rfl | rfl
    · exact (by decide)
    · omega
    · omega))
  rw [cat_node, show dg (110 :: (x ++ y)) = node x y from rfl, hq, dval8] at O
  rw [hq, dval8]
  clear hq
  generalize B x = sx at *
  generalize B y = sy at *
  obtain ⟨x0, x1, x2, x3, x4, x5, x6, x7, rfl⟩ := eight hx
  obtain ⟨y0, y1, y2, y3, y4, y5, y6, y7, rfl⟩ := eight hy
  rw [dval8] at TX TY
  rw [dval8, dval8]
  clear hx hy
  go_enter Try.func42, Try.ntmps42
  go_wp2_with fail
  have cx0 : (((w.alloc (.cells #[.int .u8 x0.toNat, .int .u8 x1.toNat, .int .u8 x2.toNat, .int .u8 x3.toNat, .int .u8 x4.toNat, .int .u8 x5.toNat, .int .u8 x6.toNat, .int .u8 x7.toNat] 52)).alloc (.cells #[.int .u8 y0.toNat, .int .u8 y1.toNat, .int .u8 y2.toNat, .int .u8 y3.toNat, .int .u8 y4.toNat, .int .u8 y5.toNat, .int .u8 y6.toNat, .int .u8 y7.toNat] 52)).alloc (.cells #[.int .u8 0, .int .u8 0, .int .u8 0, .int .u8 0, .int .u8 0, .int .u8 0, .int .u8 0, .int .u8 0] 52)).cell? ⟨w.heap.size, 0, none⟩ = some (.int .u8 x0.toNat) := by go_cell
  have cx1 : (((w.alloc (.cells #[.int .u8 x0.toNat, .int .u8 x1.toNat, .int .u8 x2.toNat, .int .u8 x3.toNat, .int .u8 x4.toNat, .int .u8 x5.toNat, .int .u8 x6.toNat, .int .u8 x7.toNat] 52)).alloc (.cells #[.int .u8 y0.toNat, .int .u8 y1.toNat, .int .u8 y2.toNat, .int .u8 y3.toNat, .int .u8 y4.toNat, .int .u8 y5.toNat, .int .u8 y6.toNat, .int .u8 y7.toNat] 52)).alloc (.cells #[.int .u8 0, .int .u8 0, .int .u8 0, .int .u8 0, .int .u8 0, .int .u8 0, .int .u8 0, .int .u8 0] 52)).cell? ⟨w.heap.size, 1, none⟩ = some (.int .u8 x1.toNat) := by go_cell
  have cx2 : (((w.alloc (.cells #[.int .u8 x0.toNat, .int .u8 x1.toNat, .int .u8 x2.toNat, .int .u8 x3.toNat, .int .u8 x4.toNat, .int .u8 x5.toNat, .int .u8 x6.toNat, .int .u8 x7.toNat] 52)).alloc (.cells #[.int .u8 y0.toNat, .int .u8 y1.toNat, .int .u8 y2.toNat, .int .u8 y3.toNat, .int .u8 y4.toNat, .int .u8 y5.toNat, .int .u8 y6.toNat, .int .u8 y7.toNat] 52)).alloc (.cells #[.int .u8 0, .int .u8 0, .int .u8 0, .int .u8 0, .int .u8 0, .int .u8 0, .int .u8 0, .int .u8 0] 52)).cell? ⟨w.heap.size, 2, none⟩ = some (.int .u8 x2.toNat) := by go_cell
  have cx3 : (((w.alloc (.cells #[.int .u8 x0.toNat, .int .u8 x1.toNat, .int .u8 x2.toNat, .int .u8 x3.toNat, .int .u8 x4.toNat, .int .u8 x5.toNat, .int .u8 x6.toNat, .int .u8 x7.toNat] 52)).alloc (.cells #[.int .u8 y0.toNat, .int .u8 y1.toNat, .int .u8 y2.toNat, .int .u8 y3.toNat, .int .u8 y4.toNat, .int .u8 y5.toNat, .int .u8 y6.toNat, .int .u8 y7.toNat] 52)).alloc (.cells #[.int .u8 0, .int .u8 0, .int .u8 0, .int .u8 0, .int .u8 0, .int .u8 0, .int .u8 0, .int .u8 0] 52)).cell? ⟨w.heap.size, 3, none⟩ = some (.int .u8 x3.toNat) := by go_cell
  have cx4 : (((w.alloc (.cells #[.int .u8 x0.toNat, .int .u8 x1.toNat, .int .u8 x2.toNat, .int .u8 x3.toNat, .int .u8 x4.toNat, .int .u8 x5.toNat, .int .u8 x6.toNat, .int .u8 x7.toNat] 52)).alloc (.cells #[.int .u8 y0.toNat, .int .u8 y1.toNat, .int .u8 y2.toNat, .int .u8 y3.toNat, .int .u8 y4.toNat, .int .u8 y5.toNat, .int .u8 y6.toNat, .int .u8 y7.toNat] 52)).alloc (.cells #[.int .u8 0, .int .u8 0, .int .u8 0, .int .u8 0, .int .u8 0, .int .u8 0, .int .u8 0, .int .u8 0] 52)).cell? ⟨w.heap.size, 4, none⟩ = some (.int .u8 x4.toNat) := by go_cell
  have cx5 : (((w.alloc (.cells #[.int .u8 x0.toNat, .int .u8 x1.toNat, .int .u8 x2.toNat, .int .u8 x3.toNat, .int .u8 x4.toNat, .int .u8 x5.toNat, .int .u8 x6.toNat, .int .u8 x7.toNat] 52)).alloc (.cells #[.int .u8 y0.toNat, .int .u8 y1.toNat, .int .u8 y2.toNat, .int .u8 y3.toNat, .int .u8 y4.toNat, .int .u8 y5.toNat, .int .u8 y6.toNat, .int .u8 y7.toNat] 52)).alloc (.cells #[.int .u8 0, .int .u8 0, .int .u8 0, .int .u8 0, .int .u8 0, .int .u8 0, .int .u8 0, .int .u8 0] 52)).cell? ⟨w.heap.size, 5, none⟩ = some (.int .u8 x5.toNat) := by go_cell
  have cx6 : (((w.alloc (.cells #[.int .u8 x0.toNat, .int .u8 x1.toNat, .int .u8 x2.toNat, .int .u8 x3.toNat, .int .u8 x4.toNat, .int .u8 x5.toNat, .int .u8 x6.toNat, .int .u8 x7.toNat] 52)).alloc (.cells #[.int .u8 y0.toNat, .int .u8 y1.toNat, .int .u8 y2.toNat, .int .u8 y3.toNat, .int .u8 y4.toNat, .int .u8 y5.toNat, .int .u8 y6.toNat, .int .u8 y7.toNat] 52)).alloc (.cells #[.int .u8 0, .int .u8 0, .int .u8 0, .int .u8 0, .int .u8 0, .int .u8 0, .int .u8 0, .int .u8 0] 52)).cell? ⟨w.heap.size, 6, none⟩ = some (.int .u8 x6.toNat) := by go_cell
  have cx7 : (((w.alloc (.cells #[.int .u8 x0.toNat, .int .u8 x1.toNat, .int .u8 x2.toNat, .int .u8 x3.toNat, .int .u8 x4.toNat, .int .u8 x5.toNat, .int .u8 x6.toNat, .int .u8 x7.toNat] 52)).alloc (.cells #[.int .u8 y0.toNat, .int .u8 y1.toNat, .int .u8 y2.toNat, .int .u8 y3.toNat, .int .u8 y4.toNat, .int .u8 y5.toNat, .int .u8 y6.toNat, .int .u8 y7.toNat] 52)).alloc (.cells #[.int .u8 0, .int .u8 0, .int .u8 0, .int .u8 0, .int .u8 0, .int .u8 0, .int .u8 0, .int .u8 0] 52)).cell? ⟨w.heap.size, 7, none⟩ = some (.int .u8 x7.toNat) := by go_cell
  have cy0 : (((w.alloc (.cells #[.int .u8 x0.toNat, .int .u8 x1.toNat, .int .u8 x2.toNat, .int .u8 x3.toNat, .int .u8 x4.toNat, .int .u8 x5.toNat, .int .u8 x6.toNat, .int .u8 x7.toNat] 52)).alloc (.cells #[.int .u8 y0.toNat, .int .u8 y1.toNat, .int .u8 y2.toNat, .int .u8 y3.toNat, .int .u8 y4.toNat, .int .u8 y5.toNat, .int .u8 y6.toNat, .int .u8 y7.toNat] 52)).alloc (.cells #[.int .u8 0, .int .u8 0, .int .u8 0, .int .u8 0, .int .u8 0, .int .u8 0, .int .u8 0, .int .u8 0] 52)).cell? ⟨w.heap.size + 1, 0, none⟩ = some (.int .u8 y0.toNat) := by go_cell
  have cy1 : (((w.alloc (.cells #[.int .u8 x0.toNat, .int .u8 x1.toNat, .int .u8 x2.toNat, .int .u8 x3.toNat, .int .u8 x4.toNat, .int .u8 x5.toNat, .int .u8 x6.toNat, .int .u8 x7.toNat] 52)).alloc (.cells #[.int .u8 y0.toNat, .int .u8 y1.toNat, .int .u8 y2.toNat, .int .u8 y3.toNat, .int .u8 y4.toNat, .int .u8 y5.toNat, .int .u8 y6.toNat, .int .u8 y7.toNat] 52)).alloc (.cells #[.int .u8 0, .int .u8 0, .int .u8 0, .int .u8 0, .int .u8 0, .int .u8 0, .int .u8 0, .int .u8 0] 52)).cell? ⟨w.heap.size + 1, 1, none⟩ = some (.int .u8 y1.toNat) := by go_cell
  have cy2 : (((w.alloc (.cells #[.int .u8 x0.toNat, .int .u8 x1.toNat, .int .u8 x2.toNat, .int .u8 x3.toNat, .int .u8 x4.toNat, .int .u8 x5.toNat, .int .u8 x6.toNat, .int .u8 x7.toNat] 52)).alloc (.cells #[.int .u8 y0.toNat, .int .u8 y1.toNat, .int .u8 y2.toNat, .int .u8 y3.toNat, .int .u8 y4.toNat, .int .u8 y5.toNat, .int .u8 y6.toNat, .int .u8 y7.toNat] 52)).alloc (.cells #[.int .u8 0, .int .u8 0, .int .u8 0, .int .u8 0, .int .u8 0, .int .u8 0, .int .u8 0, .int .u8 0] 52)).cell? ⟨w.heap.size + 1, 2, none⟩ = some (.int .u8 y2.toNat) := by go_cell
  have cy3 : (((w.alloc (.cells #[.int .u8 x0.toNat, .int .u8 x1.toNat, .int .u8 x2.toNat, .int .u8 x3.toNat, .int .u8 x4.toNat, .int .u8 x5.toNat, .int .u8 x6.toNat, .int .u8 x7.toNat] 52)).alloc (.cells #[.int .u8 y0.toNat, .int .u8 y1.toNat, .int .u8 y2.toNat, .int .u8 y3.toNat, .int .u8 y4.toNat, .int .u8 y5.toNat, .int .u8 y6.toNat, .int .u8 y7.toNat] 52)).alloc (.cells #[.int .u8 0, .int .u8 0, .int .u8 0, .int .u8 0, .int .u8 0, .int .u8 0, .int .u8 0, .int .u8 0] 52)).cell? ⟨w.heap.size + 1, 3, none⟩ = some (.int .u8 y3.toNat) := by go_cell
  have cy4 : (((w.alloc (.cells #[.int .u8 x0.toNat, .int .u8 x1.toNat, .int .u8 x2.toNat, .int .u8 x3.toNat, .int .u8 x4.toNat, .int .u8 x5.toNat, .int .u8 x6.toNat, .int .u8 x7.toNat] 52)).alloc (.cells #[.int .u8 y0.toNat, .int .u8 y1.toNat, .int .u8 y2.toNat, .int .u8 y3.toNat, .int .u8 y4.toNat, .int .u8 y5.toNat, .int .u8 y6.toNat, .int .u8 y7.toNat] 52)).alloc (.cells #[.int .u8 0, .int .u8 0, .int .u8 0, .int .u8 0, .int .u8 0, .int .u8 0, .int .u8 0, .int .u8 0] 52)).cell? ⟨w.heap.size + 1, 4, none⟩ = some (.int .u8 y4.toNat) := by go_cell
  have cy5 : (((w.alloc (.cells #[.int .u8 x0.toNat, .int .u8 x1.toNat, .int .u8 x2.toNat, .int .u8 x3.toNat, .int .u8 x4.toNat, .int .u8 x5.toNat, .int .u8 x6.toNat, .int .u8 x7.toNat] 52)).alloc (.cells #[.int .u8 y0.toNat, .int .u8 y1.toNat, .int .u8 y2.toNat, .int .u8 y3.toNat, .int .u8 y4.toNat, .int .u8 y5.toNat, .int .u8 y6.toNat, .int .u8 y7.toNat] 52)).alloc (.cells #[.int .u8 0, .int .u8 0, .int .u8 0, .int .u8 0, .int .u8 0, .int .u8 0, .int .u8 0, .int .u8 0] 52)).cell? ⟨w.heap.size + 1, 5, none⟩ = some (.int .u8 y5.toNat) := by go_cell
  have cy6 : (((w.alloc (.cells #[.int .u8 x0.toNat, .int .u8 x1.toNat, .int .u8 x2.toNat, .int .u8 x3.toNat, .int .u8 x4.toNat, .int .u8 x5.toNat, .int .u8 x6.toNat, .int .u8 x7.toNat] 52)).alloc (.cells #[.int .u8 y0.toNat, .int .u8 y1.toNat, .int .u8 y2.toNat, .int .u8 y3.toNat, .int .u8 y4.toNat, .int .u8 y5.toNat, .int .u8 y6.toNat, .int .u8 y7.toNat] 52)).alloc (.cells #[.int .u8 0, .int .u8 0, .int .u8 0, .int .u8 0, .int .u8 0, .int .u8 0, .int .u8 0, .int .u8 0] 52)).cell? ⟨w.heap.size + 1, 6, none⟩ = some (.int .u8 y6.toNat) := by go_cell
  have cy7 : (((w.alloc (.cells #[.int .u8 x0.toNat, .int .u8 x1.toNat, .int .u8 x2.toNat, .int .u8 x3.toNat, .int .u8 x4.toNat, .int .u8 x5.toNat, .int .u8 x6.toNat, .int .u8 x7.toNat] 52)).alloc (.cells #[.int .u8 y0.toNat, .int .u8 y1.toNat, .int .u8 y2.toNat, .int .u8 y3.toNat, .int .u8 y4.toNat, .int .u8 y5.toNat, .int .u8 y6.toNat, .int .u8 y7.toNat] 52)).alloc (.cells #[.int .u8 0, .int .u8 0, .int .u8 0, .int .u8 0, .int .u8 0, .int .u8 0, .int .u8 0, .int .u8 0] 52)).cell? ⟨w.heap.size + 1, 7, none⟩ = some (.int .u8 y7.toNat) := by go_cell
  have hV : Below w.heap.size w (((w.alloc (.cells #[.int .u8 x0.toNat, .int .u8 x1.toNat, .int .u8 x2.toNat, .int .u8 x3.toNat, .int .u8 x4.toNat, .int .u8 x5.toNat, .int .u8 x6.toNat, .int .u8 x7.toNat] 52)).alloc (.cells #[.int .u8 y0.toNat, .int .u8 y1.toNat, .int .u8 y2.toNat, .int .u8 y3.toNat, .int .u8 y4.toNat, .int .u8 y5.toNat, .int .u8 y6.toNat, .int .u8 y7.toNat] 52)).alloc (.cells #[.int .u8 0, .int .u8 0, .int .u8 0, .int .u8 0, .int .u8 0, .int .u8 0, .int .u8 0, .int .u8 0] 52)) := ba (ba (ba (Below.refl _ _) _) _) _
  have R : RZ (((w.alloc (.cells #[.int .u8 x0.toNat, .int .u8 x1.toNat, .int .u8 x2.toNat, .int .u8 x3.toNat, .int .u8 x4.toNat, .int .u8 x5.toNat, .int .u8 x6.toNat, .int .u8 x7.toNat] 52)).alloc (.cells #[.int .u8 y0.toNat, .int .u8 y1.toNat, .int .u8 y2.toNat, .int .u8 y3.toNat, .int .u8 y4.toNat, .int .u8 y5.toNat, .int .u8 y6.toNat, .int .u8 y7.toNat] 52)).alloc (.cells #[.int .u8 0, .int .u8 0, .int .u8 0, .int .u8 0, .int .u8 0, .int .u8 0, .int .u8 0, .int .u8 0] 52)) (w.heap.size + 1 + 1) := by have := rz_new ((w.alloc (.cells #[.int .u8 x0.toNat, .int .u8 x1.toNat, .int .u8 x2.toNat, .int .u8 x3.toNat, .int .u8 x4.toNat, .int .u8 x5.toNat, .int .u8 x6.toNat, .int .u8 x7.toNat] 52)).alloc (.cells #[.int .u8 y0.toNat, .int .u8 y1.toNat, .int .u8 y2.toNat, .int .u8 y3.toNat, .int .u8 y4.toNat, .int .u8 y5.toNat, .int .u8 y6.toNat, .int .u8 y7.toNat] 52)) 52; rwa [World.size_alloc, World.size_alloc] at this
  generalize (((w.alloc (.cells #[.int .u8 x0.toNat, .int .u8 x1.toNat, .int .u8 x2.toNat, .int .u8 x3.toNat, .int .u8 x4.toNat, .int .u8 x5.toNat, .int .u8 x6.toNat, .int .u8 x7.toNat] 52)).alloc (.cells #[.int .u8 y0.toNat, .int .u8 y1.toNat, .int .u8 y2.toNat, .int .u8 y3.toNat, .int .u8 y4.toNat, .int .u8 y5.toNat, .int .u8 y6.toNat, .int .u8 y7.toNat] 52)).alloc (.cells #[.int .u8 0, .int .u8 0, .int .u8 0, .int .u8 0, .int .u8 0, .int .u8 0, .int .u8 0, .int .u8 0] 52)) = V at *
  have dx0 : ∀ W, V.grownBy W (some (w.heap.size + 1 + 1)) → W.cell? ⟨w.heap.size, 0, none⟩ = some (.int .u8 x0.toNat) := fun _ h => gc h cx0 (by omega)
  have dx1 : ∀ W, V.grownBy W (some (w.heap.size + 1 + 1)) → W.cell? ⟨w.heap.size, 1, none⟩ = some (.int .u8 x1.toNat) := fun _ h => gc h cx1 (by omega)
  have dx2 : ∀ W, V.grownBy W (some (w.heap.size + 1 + 1)) → W.cell? ⟨w.heap.size, 2, none⟩ = some (.int .u8 x2.toNat) := fun _ h => gc h cx2 (by omega)
  have dx3 : ∀ W, V.grownBy W (some (w.heap.size + 1 + 1)) → W.cell? ⟨w.heap.size, 3, none⟩ = some (.int .u8 x3.toNat) := fun _ h => gc h cx3 (by omega)
  have dx4 : ∀ W, V.grownBy W (some (w.heap.size + 1 + 1)) → W.cell? ⟨w.heap.size, 4, none⟩ = some (.int .u8 x4.toNat) := fun _ h => gc h cx4 (by omega)
  have dx5 : ∀ W, V.grownBy W (some (w.heap.size + 1 + 1)) → W.cell? ⟨w.heap.size, 5, none⟩ = some (.int .u8 x5.toNat) := fun _ h => gc h cx5 (by omega)
  have dx6 : ∀ W, V.grownBy W (some (w.heap.size + 1 + 1)) → W.cell? ⟨w.heap.size, 6, none⟩ = some (.int .u8 x6.toNat) := fun _ h => gc h cx6 (by omega)
  have dx7 : ∀ W, V.grownBy W (some (w.heap.size + 1 + 1)) → W.cell? ⟨w.heap.size, 7, none⟩ = some (.int .u8 x7.toNat) := fun _ h => gc h cx7 (by omega)
  have dy0 : ∀ W, V.grownBy W (some (w.heap.size + 1 + 1)) → W.cell? ⟨w.heap.size + 1, 0, none⟩ = some (.int .u8 y0.toNat) := fun _ h => gc h cy0 (by omega)
  have dy1 : ∀ W, V.grownBy W (some (w.heap.size + 1 + 1)) → W.cell? ⟨w.heap.size + 1, 1, none⟩ = some (.int .u8 y1.toNat) := fun _ h => gc h cy1 (by omega)
  have dy2 : ∀ W, V.grownBy W (some (w.heap.size + 1 + 1)) → W.cell? ⟨w.heap.size + 1, 2, none⟩ = some (.int .u8 y2.toNat) := fun _ h => gc h cy2 (by omega)
  have dy3 : ∀ W, V.grownBy W (some (w.heap.size + 1 + 1)) → W.cell? ⟨w.heap.size + 1, 3, none⟩ = some (.int .u8 y3.toNat) := fun _ h => gc h cy3 (by omega)
  have dy4 : ∀ W, V.grownBy W (some (w.heap.size + 1 + 1)) → W.cell? ⟨w.heap.size + 1, 4, none⟩ = some (.int .u8 y4.toNat) := fun _ h => gc h cy4 (by omega)
  have dy5 : ∀ W, V.grownBy W (some (w.heap.size + 1 + 1)) → W.cell? ⟨w.heap.size + 1, 5, none⟩ = some (.int .u8 y5.toNat) := fun _ h => gc h cy5 (by omega)
  have dy6 : ∀ W, V.grownBy W (some (w.heap.size + 1 + 1)) → W.cell? ⟨w.heap.size + 1, 6, none⟩ = some (.int .u8 y6.toNat) := fun _ h => gc h cy6 (by omega)
  have dy7 : ∀ W, V.grownBy W (some (w.heap.size + 1 + 1)) → W.cell? ⟨w.heap.size + 1, 7, none⟩ = some (.int .u8 y7.toNat) := fun _ h => gc h cy7 (by omega)
  clear cx0 cx1 cx2 cx3 cx4 cx5 cx6 cx7 cy0 cy1 cy2 cy3 cy4 cy5 cy6 cy7
  go_region_held3 (fun w' => V.grownBy w' (some (w.heap.size + 1 + 1))) (first
      | (with_reducible refine g8 ?_ _ _ _ _ _ _ _ _; with_reducible assumption)
      | (with_reducible exact gd1 (gr0 _ _))
      | (with_reducible exact gt (by assumption) hba)
      | (with_reducible exact gd1 (by assumption))
      | (with_reducible exact ga (by assumption) _)
      | (with_reducible exact ga (by assumption) _))
    (first
      | ((with_reducible refine (TX.out _).mono ?_); rintro en wa ⟨rfl, hba⟩; have hqa : V.grownBy wa (some (w.heap.size + 1 + 1)) := gt (by assumption) hba; replace R := rz_keep (W := _) (by first | (with_reducible exact R) | (with_reducible exact rz_drew R)) hba)
      | ((with_reducible refine (TY.out _).mono ?_); rintro en wb ⟨rfl, hba⟩; have hqa : V.grownBy wb (some (w.heap.size + 1 + 1)) := gt (by assumption) hba; replace R := rz_keep (W := _) (by first | (with_reducible exact R) | (with_reducible exact rz_drew R)) hba)
      | ((with_reducible refine (O.out _ _ (strs3 (by go_cell) (by go_cell) (by go_cell))).mono ?_); rintro en wc ⟨rfl, hba⟩; have hqa : V.grownBy wc (some (w.heap.size + 1 + 1)) := gt (by assumption) hba; replace R := rz_keep (W := _) (by first | (with_reducible exact rz_alloc R _) | (with_reducible exact rz_alloc (rz_drew R) _)) hba; clear TX TY O dx0 dx1 dx2 dx3 dx4 dx5 dx6 dx7 dy0 dy1 dy2 dy3 dy4 dy5 dy6 dy7; have zc0 := (R 0 (by omega)).1; have zf0 := (R 0 (by omega)).2; have zc1 := (R 1 (by omega)).1; have zf1 := (R 1 (by omega)).2; have zc2 := (R 2 (by omega)).1; have zf2 := (R 2 (by omega)).2; have zc3 := (R 3 (by omega)).1; have zf3 := (R 3 (by omega)).2; have zc4 := (R 4 (by omega)).1; have zf4 := (R 4 (by omega)).2; have zc5 := (R 5 (by omega)).1; have zf5 := (R 5 (by omega)).2; have zc6 := (R 6 (by omega)).1; have zf6 := (R 6 (by omega)).2; have zc7 := (R 7 (by omega)).1; have zf7 := (R 7 (by omega)).2))
  have hE : Below w.heap.size w wc := gB hV hqa (by omega)
  go_wp2_with fail
  exact bodyPost_ret (res_dg _ _ Try.results42 _ _ (w.heap.size + 1 + 1) _ _ _ _ _ _ _ _ rfl (by go_cell) (by go_cell) (by go_cell) (by go_cell) (by go_cell) (by go_cell) (by go_cell) (by go_cell) ) rfl ⟨rfl, bs8 hE (by omega) _ _ _ _ _ _ _ _⟩
end Go.Proofs.Ytflpemagbempaaa.Dg
