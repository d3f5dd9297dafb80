/-
  Layer 3 (digest): a digest as an array of eight bytes, and as a string.
-/
import Derived.Test.YtflpemagbempaaaDgA
import Derived.Lib.AppendIntMem
import Derived.Deep.MidRow
import Derived.Laws.Cover3
import Derived.Lib.ConvBytes
namespace Go.Proofs.Ytflpemagbempaaa.Dg
open Go.RowKit

/-- An array of eight bytes. -/
def dval (l : List UInt8) : Value := .agg (l.map (fun b => Value.int .u8 b.toNat)).toArray
def cells8 (l : List UInt8) : Array Value := (l.map (fun b => Value.int .u8 b.toNat)).toArray
theorem eight {l : List UInt8} (h : l.length = 8) : ∃ a b c d e f g k, l = [a, b, c, d, e, f, g, k] := by
  match l, h with
  | [a, b, c, d, e, f, g, k], _ => exact ⟨a, b, c, d, e, f, g, k, rfl⟩
/-- What a call leaves: an older cell, and whether it may be written. -/
theorem kc {B : Nat} {w a : World} (h : Below B w a) {b o : Nat} {v : Value} (hb : b < B) (hc : w.cell? ⟨b, o, none⟩ = some v) : a.cell? ⟨b, o, none⟩ = some v := by
  rw [h.cell (p := ⟨b, o, none⟩) hb]; exact hc
theorem kf {B : Nat} {w a : World} (h : Below B w a) {b o : Nat} {v : Bool} (hb : b < B) (hc : w.frozen? ⟨b, o, none⟩ = v) : a.frozen? ⟨b, o, none⟩ = v := by
  rw [h.frozen (p := ⟨b, o, none⟩) hb]; exact hc
theorem bt {w u v : World} (h1 : Below w.heap.size w u) (h2 : Below u.heap.size u v) : Below w.heap.size w v := h1.trans (h2.mono h1.size)
theorem ba {w u : World} (h : Below w.heap.size w u) (o : Obj) : Below w.heap.size w (u.alloc o) := h.alloc h.size o
theorem bs {w u : World} (h : Below w.heap.size w u) {p : Addr} (hp : w.heap.size ≤ p.block) (v : Value) : Below w.heap.size w (u.setCell p v) := h.setCell hp v
theorem bd1 {w u : World} (h : Below w.heap.size w u) : Below w.heap.size w u.drew := ⟨h.os, h.tape, h.output, h.size, h.block⟩
theorem bd {w u : World} (h : Below w.heap.size w u) (n : Nat) : Below w.heap.size w (u.drewN n) := ⟨h.os, h.tape, h.output, h.size, h.block⟩
theorem dval8 (a b c d e f g k : UInt8) : dval [a, b, c, d, e, f, g, k] = .agg #[.int .u8 a.toNat, .int .u8 b.toNat, .int .u8 c.toNat, .int .u8 d.toNat, .int .u8 e.toNat, .int .u8 f.toNat, .int .u8 g.toNat, .int .u8 k.toNat] := rfl
theorem conv8 (w : World) (a b c d e f g k : UInt8) (T : TypeId) :
    (convert 32 9 (.slice (some ⟨w.heap.size, 0, none⟩) 8 8)).run Try.prog (w.alloc (.cells #[.int .u8 a.toNat, .int .u8 b.toNat, .int .u8 c.toNat, .int .u8 d.toNat, .int .u8 e.toNat, .int .u8 f.toNat, .int .u8 g.toNat, .int .u8 k.toNat] T)) =
      .ok (.string (B [a, b, c, d, e, f, g, k])) (w.alloc (.cells #[.int .u8 a.toNat, .int .u8 b.toNat, .int .u8 c.toNat, .int .u8 d.toNat, .int .u8 e.toNat, .int .u8 f.toNat, .int .u8 g.toNat, .int .u8 k.toNat] T)) := by
  have h : B [a, b, c, d, e, f, g, k] = strOfNums [(a.toNat : Int), b.toNat, c.toNat, d.toNat, e.toNat, f.toNat, g.toNat, k.toNat] := by
    simp [B, strOfNums]
  rw [h]
  refine run_convert_bytes_arg _ 32 5 u8s u8u w.heap.size 0 8 8 _ rfl ?_ 9 strU
  intro i hi
  have : i = 0 ∨ i = 1 ∨ i = 2 ∨ i = 3 ∨ i = 4 ∨ i = 5 ∨ i = 6 ∨ i = 7 := by omega
  rcases this with rfl | rfl | rfl | rfl | rfl | rfl | rfl | rfl <;> exact (by go_cell)
set_option maxHeartbeats 1000000 in
theorem text_any (d : List UInt8) (h : d.length = 8) (w : World) :
    Calls Try.prog 32 #[dval d] w fun e w' => e = .returned (.string (B d)) ∧ Below w.heap.size w w' := by
  obtain ⟨a, b, c, d, e, f, g, k, rfl⟩ := eight h
  rw [dval8]
  have cv := conv8 w a b c d e f g k 52
  go_enter Try.func32, Try.ntmps32
  go_wp2
  go_ret
  exact ⟨rfl, by go_grown⟩
theorem zero8 : dval [0, 0, 0, 0, 0, 0, 0, 0] = .agg #[.int .u8 0, .int .u8 0, .int .u8 0, .int .u8 0, .int .u8 0, .int .u8 0, .int .u8 0, .int .u8 0] := rfl
set_option maxHeartbeats 1000000 in
theorem parse_no (s : ByteArray) (h : s.size ≠ 8) (w : World) :
    Calls Try.prog 35 #[.string s] w fun e w' => e = .returned (.tuple #[dval [0, 0, 0, 0, 0, 0, 0, 0], .bool false]) ∧ Below w.heap.size w w' := by
  have h2 : ¬ (s.size : Int) = 8 := by omega
  rw [zero8]
  go_enter Try.func35, Try.ntmps35
  go_wp2
  refine bodyPost_ret (v := .tuple #[.agg #[.int .u8 0, .int .u8 0, .int .u8 0, .int .u8 0, .int .u8 0, .int .u8 0, .int .u8 0, .int .u8 0], .bool false]) (by simp [results, Try.results35, go_sem]) rfl ⟨rfl, ?_⟩
  go_grown
theorem res_parse (V : World) (tm : Array Value) (ok : Bool) (b : Nat) (x0 x1 x2 x3 x4 x5 x6 x7 : UInt8) (h2 : tm.getD 2 undef = .pointer (some ⟨b, 0, none⟩)) (h3 : tm.getD 3 undef = .bool ok)
    (c0 : V.cell? ⟨b, 0, none⟩ = some (.int .u8 x0.toNat)) (c1 : V.cell? ⟨b, 1, none⟩ = some (.int .u8 x1.toNat)) (c2 : V.cell? ⟨b, 2, none⟩ = some (.int .u8 x2.toNat)) (c3 : V.cell? ⟨b, 3, none⟩ = some (.int .u8 x3.toNat))
    (c4 : V.cell? ⟨b, 4, none⟩ = some (.int .u8 x4.toNat)) (c5 : V.cell? ⟨b, 5, none⟩ = some (.int .u8 x5.toNat)) (c6 : V.cell? ⟨b, 6, none⟩ = some (.int .u8 x6.toNat)) (c7 : V.cell? ⟨b, 7, none⟩ = some (.int .u8 x7.toNat)) :
    (results Try.f35 tm).run Try.prog V = .ok (.tuple #[dval [x0, x1, x2, x3, x4, x5, x6, x7], .bool ok]) V := by
  have hu : Try.prog.underlying 52 = some (.array 8 5) := by kernel_rfl
  have hi : (Try.prog.info? 52).map (·.size) = some 8 := by kernel_rfl
  have L := run_loadVar_mid (P := Try.prog) V b 0 52 ([x0, x1, x2, x3, x4, x5, x6, x7].map (fun b => Value.int .u8 b.toNat)) _ (fun j v hv => by
    rw [Nat.zero_add]
    have : j = 0 ∨ j = 1 ∨ j = 2 ∨ j = 3 ∨ j = 4 ∨ j = 5 ∨ j = 6 ∨ j = 7 ∨ 8 ≤ j := by omega
    rcases this with rfl | rfl | rfl | rfl | rfl | rfl | rfl | rfl | h
    · rw [c0]; exact hv
    · rw [c1]; exact hv
    · rw [c2]; exact hv
    · rw [c3]; exact hv
    · rw [c4]; exact hv
    · rw [c5]; exact hv
    · rw [c6]; exact hv
    · rw [c7]; exact hv
    · rw [List.getElem?_eq_none (by simpa using h)] at hv; cases hv) hu rfl (by rw [hi]; rfl)
  rw [results, Try.results35]
  simp only [Array.getD_eq_getD_getElem?] at h2 h3
  simp only [Array.getD_eq_getD_getElem?]
  simp [h2, h3, go_sem, c0, c1, c2, c3, c4, c5, c6, c7]
  rfl
theorem conv_in (W : World) (a b c d e f g k : UInt8) : ∃ cap W', (convert 9 32 (.string (B [a, b, c, d, e, f, g, k]))).run Try.prog W = .ok (.slice (some ⟨W.heap.size, 0, none⟩) 8 cap) W' ∧ Below W.heap.size W W' ∧
    (Instr.arrayAt 52 (.slice (some ⟨W.heap.size, 0, none⟩) 8 cap)).run Try.prog W' = .ok (.pointer (some ⟨W.heap.size, 0, none⟩)) W' ∧
    W'.cell? ⟨W.heap.size, 0, none⟩ = some (.int .u8 a.toNat) ∧ W'.cell? ⟨W.heap.size, 1, none⟩ = some (.int .u8 b.toNat) ∧ W'.cell? ⟨W.heap.size, 2, none⟩ = some (.int .u8 c.toNat) ∧ W'.cell? ⟨W.heap.size, 3, none⟩ = some (.int .u8 d.toNat) ∧
    W'.cell? ⟨W.heap.size, 4, none⟩ = some (.int .u8 e.toNat) ∧ W'.cell? ⟨W.heap.size, 5, none⟩ = some (.int .u8 f.toNat) ∧ W'.cell? ⟨W.heap.size, 6, none⟩ = some (.int .u8 g.toNat) ∧ W'.cell? ⟨W.heap.size, 7, none⟩ = some (.int .u8 k.toNat) := by
  have hu : Try.prog.underlying 52 = some (.array 8 5) := by kernel_rfl
  have e1 := Lib.run_convert_string_bytes W 9 32 5 (B [a, b, c, d, e, f, g, k]) strU u8s u8u
  have hs : (B [a, b, c, d, e, f, g, k]).size = 8 := rfl
  rw [hs] at e1
  have hc := fun j (hj : j < 8) => Lib.bytesWorld_cell W 5 (B [a, b, c, d, e, f, g, k]) j (by omega)
  rw [B_toList] at hc
  refine ⟨_, _, e1, ⟨?_, ?_, ?_, ?_, ?_⟩, run_arrayAt _ 52 5 8 _ 8 _ hu (by omega), ?_⟩
  · rfl
  · rfl
  · rfl
  · rw [Lib.bytesWorld_size]; omega
  · intro j hj; exact Lib.bytesWorld_at_old W _ _ j hj
  · exact ⟨hc 0 (by omega), hc 1 (by omega), hc 2 (by omega), hc 3 (by omega), hc 4 (by omega), hc 5 (by omega), hc 6 (by omega), hc 7 (by omega)⟩
set_option maxHeartbeats 1000000 in
theorem parse_yes (s : ByteArray) (h : s.size = 8) (w : World) :
    Calls Try.prog 35 #[.string s] w fun e w' => e = .returned (.tuple #[dval s.data.toList, .bool true]) ∧ Below w.heap.size w w' := by
  obtain ⟨a, b, c, d, e, f, g, k, hs⟩ := eight (l := s.data.toList) (by rw [toList_length, h])
  have hs2 : s = B [a, b, c, d, e, f, g, k] := by rw [← hs, B_data]
  rw [hs, dval8]
  clear hs
  obtain ⟨cap, W', hc, hB, ha, c0, c1, c2, c3, c4, c5, c6, c7⟩ := conv_in (w.alloc (.cells #[.int .u8 0, .int .u8 0, .int .u8 0, .int .u8 0, .int .u8 0, .int .u8 0, .int .u8 0, .int .u8 0] 52)) a b c d e f g k
  rw [← hs2] at hc
  clear hs2
  rw [World.size_alloc] at hc ha c0 c1 c2 c3 c4 c5 c6 c7
  rw [World.size_alloc] at hB
  have x0 : W'.cell? ⟨w.heap.size, 0, none⟩ = some (.int .u8 0) := kc hB (by omega) (by go_cell)
  have f0 : W'.frozen? ⟨w.heap.size, 0, none⟩ = false := kf hB (by omega) (by go_cell)
  have x1 : W'.cell? ⟨w.heap.size, 1, none⟩ = some (.int .u8 0) := kc hB (by omega) (by go_cell)
  have f1 : W'.frozen? ⟨w.heap.size, 1, none⟩ = false := kf hB (by omega) (by go_cell)
  have x2 : W'.cell? ⟨w.heap.size, 2, none⟩ = some (.int .u8 0) := kc hB (by omega) (by go_cell)
  have f2 : W'.frozen? ⟨w.heap.size, 2, none⟩ = false := kf hB (by omega) (by go_cell)
  have x3 : W'.cell? ⟨w.heap.size, 3, none⟩ = some (.int .u8 0) := kc hB (by omega) (by go_cell)
  have f3 : W'.frozen? ⟨w.heap.size, 3, none⟩ = false := kf hB (by omega) (by go_cell)
  have x4 : W'.cell? ⟨w.heap.size, 4, none⟩ = some (.int .u8 0) := kc hB (by omega) (by go_cell)
  have f4 : W'.frozen? ⟨w.heap.size, 4, none⟩ = false := kf hB (by omega) (by go_cell)
  have x5 : W'.cell? ⟨w.heap.size, 5, none⟩ = some (.int .u8 0) := kc hB (by omega) (by go_cell)
  have f5 : W'.frozen? ⟨w.heap.size, 5, none⟩ = false := kf hB (by omega) (by go_cell)
  have x6 : W'.cell? ⟨w.heap.size, 6, none⟩ = some (.int .u8 0) := kc hB (by omega) (by go_cell)
  have f6 : W'.frozen? ⟨w.heap.size, 6, none⟩ = false := kf hB (by omega) (by go_cell)
  have x7 : W'.cell? ⟨w.heap.size, 7, none⟩ = some (.int .u8 0) := kc hB (by omega) (by go_cell)
  have f7 : W'.frozen? ⟨w.heap.size, 7, none⟩ = false := kf hB (by omega) (by go_cell)
  replace hB : Below w.heap.size w W' := ((Below.refl _ w).alloc (Nat.le_refl _) _).trans (hB.mono (by simp))
  go_enter Try.func35, Try.ntmps35
  go_wp2
  exact bodyPost_ret (res_parse _ _ true w.heap.size a b c d e f g k rfl rfl (by go_cell) (by go_cell) (by go_cell) (by go_cell) (by go_cell) (by go_cell) (by go_cell) (by go_cell)) rfl ⟨rfl, bs (bs (bs (bs (bs (bs (bs (bs hB (by simp) _) (by simp) _) (by simp) _) (by simp) _) (by simp) _) (by simp) _) (by simp) _) (by simp) _⟩
end Go.Proofs.Ytflpemagbempaaa.Dg
