/-
  Layer 6 (outline): curves of the program; the document's own end.
-/
import Derived.Test.YtcogoomajfahkaaOtG
import Derived.Test.YtcogoomajfahkaaOtE0
import Derived.StillTailTactics
namespace Go.Proofs.Ytcogoomajfahkaa.Ot
open Go.RowKit
theorem mixedG : Try.prog.follows .mixedOrders = true := by kernel_rfl
set_option maxRecDepth 100000 in
set_option maxHeartbeats 4000000 in
theorem rEnd_any (a : Option Addr) (n c : Nat) (g : Nat → Pt) (k m : Nat) (hk : k < n) (hm : m < n) (w : World) (hA : PA w a n g) :
    Calls Try.prog 63 #[.slice a n c, .int .i64 (k : Int), .int .i64 (m : Int)] w fun e w' => e = .returned (.agg #[.int .i64 (endX g k m), .int .i64 (endY g k m), .bool false]) ∧ Below w.heap.size w w' := by
  obtain ⟨b, o, rfl, x0, x1, x2⟩ := hA k hk
  obtain ⟨b', o', e', y0, y1, y2⟩ := hA m hm
  cases e'
  have ON := Lib.hid (fun V h => rOn_any (some ⟨b, o, none⟩) n c g m hm V (pa_below hA h))
  have k2 : (0 : Int) ≤ (k : Int) := by omega
  have k3 : (k : Int) < (n : Int) := by omega
  have m2 : (0 : Int) ≤ (m : Int) := by omega
  have m3 : (m : Int) < (n : Int) := by omega
  have hb := block_lt_of_cell x0
  simp only at hb
  have b1 : ¬ b = w.heap.size := by omega
  have b2 : ¬ b = w.heap.size + 1 := by omega
  have b3 : ¬ w.heap.size = b := by omega
  have b4 : ¬ w.heap.size + 1 = b := by omega
  clear hA
  unfold endX endY endP
  generalize onB g m = u at *
  generalize g k = p at *
  generalize g m = q at *
  go_enter Try.func63, Try.ntmps63
  go_wp2_with fail
  have hBW : Below w.heap.size w ((w.alloc (.cells #[.int .i64 0, .int .i64 0, .bool false] 62)).alloc (.cells #[.int .i64 p.x, .int .i64 p.y, .bool p.o] 62)) := ba (ba (Below.refl _ _) _) _
  have hz : ∀ (W : World), W = ((w.alloc (.cells #[.int .i64 0, .int .i64 0, .bool false] 62)).alloc (.cells #[.int .i64 p.x, .int .i64 p.y, .bool p.o] 62)) → (W.cell? ⟨w.heap.size, 0, none⟩ = some (.int .i64 0) ∧ W.cell? ⟨w.heap.size, 1, none⟩ = some (.int .i64 0) ∧ W.cell? ⟨w.heap.size, 2, none⟩ = some (.bool false) ∧ W.frozen? ⟨w.heap.size, 0, none⟩ = false ∧ W.frozen? ⟨w.heap.size, 1, none⟩ = false ∧ W.frozen? ⟨w.heap.size, 2, none⟩ = false) ∧
      (W.cell? ⟨w.heap.size + 1, 0, none⟩ = some (.int .i64 p.x) ∧ W.cell? ⟨w.heap.size + 1, 1, none⟩ = some (.int .i64 p.y) ∧ W.cell? ⟨w.heap.size + 1, 2, none⟩ = some (.bool p.o) ∧ W.frozen? ⟨w.heap.size + 1, 0, none⟩ = false ∧ W.frozen? ⟨w.heap.size + 1, 1, none⟩ = false ∧ W.frozen? ⟨w.heap.size + 1, 2, none⟩ = false) := by
    rintro W rfl
    exact ⟨⟨by go_cell, by go_cell, by go_cell, by go_cell, by go_cell, by go_cell⟩, by go_cell, by go_cell, by go_cell, by go_cell, by go_cell, by go_cell⟩
  obtain ⟨⟨z0, z1, z2, z3, z4, z5⟩, t0, t1, t2, t3, t4, t5⟩ := hz _ rfl
  clear hz x0 x1 x2
  replace y0 := kc hBW y0
  replace y1 := kc hBW y1
  replace y2 := kc hBW y2
  generalize ((w.alloc (.cells #[.int .i64 0, .int .i64 0, .bool false] 62)).alloc (.cells #[.int .i64 p.x, .int .i64 p.y, .bool p.o] 62)) = W at *
  refine (ON.out _ hBW).mono ?_
  rintro e V1 ⟨rfl, rfl⟩
  rcases u with _ | _
  · go_wp2_with fail
    go_still_tail 17, mixedG
    go_wp2_with fail
    refine bodyPost_ret (v := .agg #[.int .i64 (wrap64 (p.x + q.x)), .int .i64 (wrap64 (p.y + q.y)), .bool false]) (by simp [results, Try.results63, go_sem, *]) rfl ⟨rfl, ?_⟩
    exact bs (bs (bs (bd1 hBW) (Nat.le_refl _) _) (Nat.le_refl _) _) (Nat.le_refl _) _
  · go_upto_region 4 with (fail)
    have hB2 : Below w.heap.size w (((W.setCell ⟨w.heap.size + 1, 0, none⟩ (.int .i64 q.x)).setCell ⟨w.heap.size + 1, 1, none⟩ (.int .i64 q.y)).setCell ⟨w.heap.size + 1, 2, none⟩ (.bool q.o)) := bs (bs (bs hBW (by simp) _) (by simp) _) (by simp) _
    have n1 : ¬ w.heap.size + 1 = w.heap.size := by omega
    have u0 : (((W.setCell ⟨w.heap.size + 1, 0, none⟩ (.int .i64 q.x)).setCell ⟨w.heap.size + 1, 1, none⟩ (.int .i64 q.y)).setCell ⟨w.heap.size + 1, 2, none⟩ (.bool q.o)).cell? ⟨w.heap.size, 0, none⟩ = some (.int .i64 0) := by go_cell
    have v0 : (((W.setCell ⟨w.heap.size + 1, 0, none⟩ (.int .i64 q.x)).setCell ⟨w.heap.size + 1, 1, none⟩ (.int .i64 q.y)).setCell ⟨w.heap.size + 1, 2, none⟩ (.bool q.o)).frozen? ⟨w.heap.size, 0, none⟩ = false := by go_cell
    have u1 : (((W.setCell ⟨w.heap.size + 1, 0, none⟩ (.int .i64 q.x)).setCell ⟨w.heap.size + 1, 1, none⟩ (.int .i64 q.y)).setCell ⟨w.heap.size + 1, 2, none⟩ (.bool q.o)).cell? ⟨w.heap.size, 1, none⟩ = some (.int .i64 0) := by go_cell
    have v1 : (((W.setCell ⟨w.heap.size + 1, 0, none⟩ (.int .i64 q.x)).setCell ⟨w.heap.size + 1, 1, none⟩ (.int .i64 q.y)).setCell ⟨w.heap.size + 1, 2, none⟩ (.bool q.o)).frozen? ⟨w.heap.size, 1, none⟩ = false := by go_cell
    have u2 : (((W.setCell ⟨w.heap.size + 1, 0, none⟩ (.int .i64 q.x)).setCell ⟨w.heap.size + 1, 1, none⟩ (.int .i64 q.y)).setCell ⟨w.heap.size + 1, 2, none⟩ (.bool q.o)).cell? ⟨w.heap.size, 2, none⟩ = some (.bool false) := by go_cell
    have v2 : (((W.setCell ⟨w.heap.size + 1, 0, none⟩ (.int .i64 q.x)).setCell ⟨w.heap.size + 1, 1, none⟩ (.int .i64 q.y)).setCell ⟨w.heap.size + 1, 2, none⟩ (.bool q.o)).frozen? ⟨w.heap.size, 2, none⟩ = false := by go_cell
    have r0 : (((W.setCell ⟨w.heap.size + 1, 0, none⟩ (.int .i64 q.x)).setCell ⟨w.heap.size + 1, 1, none⟩ (.int .i64 q.y)).setCell ⟨w.heap.size + 1, 2, none⟩ (.bool q.o)).cell? ⟨w.heap.size + 1, 0, none⟩ = some (.int .i64 q.x) := by go_cell
    have q0 : (((W.setCell ⟨w.heap.size + 1, 0, none⟩ (.int .i64 q.x)).setCell ⟨w.heap.size + 1, 1, none⟩ (.int .i64 q.y)).setCell ⟨w.heap.size + 1, 2, none⟩ (.bool q.o)).cell? ⟨b, o + m * 3, none⟩ = some (.int .i64 q.x) := by go_cell
    have r1 : (((W.setCell ⟨w.heap.size + 1, 0, none⟩ (.int .i64 q.x)).setCell ⟨w.heap.size + 1, 1, none⟩ (.int .i64 q.y)).setCell ⟨w.heap.size + 1, 2, none⟩ (.bool q.o)).cell? ⟨w.heap.size + 1, 1, none⟩ = some (.int .i64 q.y) := by go_cell
    have q1 : (((W.setCell ⟨w.heap.size + 1, 0, none⟩ (.int .i64 q.x)).setCell ⟨w.heap.size + 1, 1, none⟩ (.int .i64 q.y)).setCell ⟨w.heap.size + 1, 2, none⟩ (.bool q.o)).cell? ⟨b, o + m * 3 + 1, none⟩ = some (.int .i64 q.y) := by go_cell
    have r2 : (((W.setCell ⟨w.heap.size + 1, 0, none⟩ (.int .i64 q.x)).setCell ⟨w.heap.size + 1, 1, none⟩ (.int .i64 q.y)).setCell ⟨w.heap.size + 1, 2, none⟩ (.bool q.o)).cell? ⟨w.heap.size + 1, 2, none⟩ = some (.bool q.o) := by go_cell
    have q2 : (((W.setCell ⟨w.heap.size + 1, 0, none⟩ (.int .i64 q.x)).setCell ⟨w.heap.size + 1, 1, none⟩ (.int .i64 q.y)).setCell ⟨w.heap.size + 1, 2, none⟩ (.bool q.o)).cell? ⟨b, o + m * 3 + 2, none⟩ = some (.bool q.o) := by go_cell
    clear z0 z1 z2 z3 z4 z5 t0 t1 t2 t3 t4 t5 y0 y1 y2 hBW
    generalize (((W.setCell ⟨w.heap.size + 1, 0, none⟩ (.int .i64 q.x)).setCell ⟨w.heap.size + 1, 1, none⟩ (.int .i64 q.y)).setCell ⟨w.heap.size + 1, 2, none⟩ (.bool q.o)) = V at *
    go_still_tail 17, mixedG
    go_wp2_with fail
    refine bodyPost_ret (v := .agg #[.int .i64 (wrap64 (q.x + q.x)), .int .i64 (wrap64 (q.y + q.y)), .bool false]) (by simp [results, Try.results63, go_sem, *]) rfl ⟨rfl, ?_⟩
    exact bs (bs (bs (bd1 hB2) (Nat.le_refl _) _) (Nat.le_refl _) _) (Nat.le_refl _) _
/-- Points in a block of their own, which may be written. -/
def PO (w : World) (b n : Nat) (f : Nat → Pt) : Prop := ∀ i, i < n → PtAt w b (i * 3) (f i) ∧ w.frozen? ⟨b, i * 3, none⟩ = false ∧ w.frozen? ⟨b, i * 3 + 1, none⟩ = false ∧ w.frozen? ⟨b, i * 3 + 2, none⟩ = false
theorem po_pa {w : World} {b n : Nat} {f : Nat → Pt} (h : PO w b n f) : PA w (some ⟨b, 0, none⟩) n f := fun i hi => ⟨b, 0, rfl, by rw [Nat.zero_add]; exact (h i hi).1⟩
theorem po_below {w W : World} {b n : Nat} {f : Nat → Pt} (h : PO w b n f) (hB : Below w.heap.size w W) : PO W b n f := fun i hi => by
  obtain ⟨h1, f1, f2, f3⟩ := h i hi
  exact ⟨ptat_below h1 hB, kf hB h1.1 f1, kf hB h1.2.1 f2, kf hB h1.2.2 f3⟩
theorem po_congr {w : World} {b n : Nat} {f g : Nat → Pt} (h : PO w b n f) (e : ∀ i, i < n → f i = g i) : PO w b n g := fun i hi => by rw [← e i hi]; exact h i hi
theorem po_set {w : World} {b n k : Nat} {f g : Nat → Pt} {p : Pt} (h : PO w b n f) (hk : k < n) (e : ∀ i, g i = if i = k then p else f i) :
    PO (((w.setCell ⟨b, k * 3, none⟩ (.int .i64 p.x)).setCell ⟨b, k * 3 + 1, none⟩ (.int .i64 p.y)).setCell ⟨b, k * 3 + 2, none⟩ (.bool p.o)) b n g := fun i hi => by
  obtain ⟨⟨h1, h2, h3⟩, f1, f2, f3⟩ := h i hi
  obtain ⟨⟨k1, k2, k3⟩, e1, e2, e3⟩ := h k hk
  rw [e]
  by_cases hik : i = k
  · subst hik
    rw [if_pos rfl]
    exact ⟨⟨by go_cell, by go_cell, by go_cell⟩, by go_cell, by go_cell, by go_cell⟩
  · rw [if_neg hik]
    have n0 : ¬ k * 3 = i * 3 := by omega
    have n1 : ¬ k * 3 = i * 3 + 1 := by omega
    have n2 : ¬ k * 3 = i * 3 + 2 := by omega
    have n3 : ¬ k * 3 + 1 = i * 3 := by omega
    have n4 : ¬ k * 3 + 1 = i * 3 + 1 := by omega
    have n5 : ¬ k * 3 + 1 = i * 3 + 2 := by omega
    have n6 : ¬ k * 3 + 2 = i * 3 := by omega
    have n7 : ¬ k * 3 + 2 = i * 3 + 1 := by omega
    have n8 : ¬ k * 3 + 2 = i * 3 + 2 := by omega
    exact ⟨⟨by go_cell, by go_cell, by go_cell⟩, by go_cell, by go_cell, by go_cell⟩
theorem infoP : (Try.prog.info? 62).map (fun i => (i.zero, i.size, i.bytes)) = some (some (.agg #[.int .i64 0, .int .i64 0, .bool false]), 3, 24) := by kernel_rfl
theorem below_none {w v : World} (k : w.grownBy v none) : Below w.heap.size w v := ⟨k.os, k.tape, k.output, k.size, fun i hi => k.block i hi (by simp)⟩
theorem po_made {W : World} {n₀ b m : Nat} (h : W.ownsRow n₀ 62 3 (.slice (some ⟨b, 0, none⟩) m m) m (madeCells #[.int .i64 0, .int .i64 0, .bool false] (m * 3)).toList) : PO W b m (fun _ => p0) := by
  have hc : ∀ i r, i < m → r < 3 → W.cell? ⟨b, i * 3 + r, none⟩ = some ([Value.int .i64 0, .int .i64 0, .bool false].getD r undef) ∧ W.frozen? ⟨b, i * 3 + r, none⟩ = false := by
    intro i r hi hr
    have hlt : i * 3 + r < m * 3 := by omega
    refine ⟨?_, h.frozenAt _⟩
    rw [h.cellAt _ hlt]
    simp only [madeCells, Array.toList_map, Array.toList_range, List.getElem?_map, List.getElem?_range hlt, Option.map_some, List.size_toArray, List.length_cons, List.length_nil, Nat.zero_add]
    have : (i * 3 + r) % 3 = r := by omega
    rw [show (0 + 1 + 1 + 1 : Nat) = 3 from rfl, this]
    match r, hr with
    | 0, _ => rfl
    | 1, _ => rfl
    | 2, _ => rfl
  intro i hi
  exact ⟨⟨(hc i 0 hi (by omega)).1, (hc i 1 hi (by omega)).1, (hc i 2 hi (by omega)).1⟩, (hc i 0 hi (by omega)).2, (hc i 1 hi (by omega)).2, (hc i 2 hi (by omega)).2⟩
theorem row_lt {W : World} {n₀ b m e s : Nat} {l : List Value} (h : W.ownsRow n₀ e s (.slice (some ⟨b, 0, none⟩) m m) m l) : b < W.heap.size := by
  obtain ⟨_, h2⟩ := h
  rcases h2 with ⟨h2, _⟩ | ⟨g, cap, cur, h2, _, hh, _⟩
  · cases h2
  · cases h2
    exact (Array.getElem?_eq_some_iff.1 hh).1
theorem info_parts {T : TypeId} {z : Value} {s b : Nat} (h : (Try.prog.info? T).map (fun i => (i.zero, i.size, i.bytes)) = some (some z, s, b)) : ∃ i, Try.prog.info? T = some i ∧ i.zero = some z ∧ i.size = s ∧ i.bytes = b := by
  cases hh : Try.prog.info? T with
  | none => rw [hh] at h; cases h
  | some i =>
    rw [hh] at h
    simp only [Option.map_some, Option.some.injEq, Prod.mk.injEq] at h
    exact ⟨i, rfl, h.1, h.2.1, h.2.2⟩
theorem make_pts (W : World) (n : Nat) (h : n ≤ 100000) : ∃ W', (Instr.makeSlice 60 (.int .i64 (n : Int)) (.int .i64 (n : Int))).run Try.prog W = .ok (.slice (some ⟨W.heap.size, 0, none⟩) n n) W' ∧ PO W' W.heap.size n (fun _ => p0) ∧ Below W.heap.size W W' ∧ W.heap.size < W'.heap.size := by
  obtain ⟨i0, hi, hz0, hz1, hz2⟩ := info_parts infoP
  obtain ⟨w1, hmk, hown, hgr⟩ := run_make_full (P := Try.prog) W W.heap.size 60 62 i0 _ 3 Try.underlying60 hi hz0 hz1 .i64 .i64 n (by rw [hz2]; omega) (by unfold maxLen; omega) (Nat.le_refl _)
  exact ⟨w1, hmk, po_made hown, below_none hgr, row_lt hown⟩
/-- How many points a polygon has for a point off the curve, and which. -/
def crvN (g : Nat → Pt) (n k : Nat) : Nat := if onB g ((k + 1) % n) then 3 else 4
def crvP (g : Nat → Pt) (n k t : Nat) : Pt := ⟨cv (endX g k (k - 1)) (g k).x (endX g k ((k + 1) % n)) t, cv (endY g k (k - 1)) (g k).y (endY g k ((k + 1) % n)) t, true⟩
theorem crvN_le (g : Nat → Pt) (n k : Nat) : 3 ≤ crvN g n k ∧ crvN g n k ≤ 4 := by unfold crvN; split <;> omega
theorem mv_new (V : World) (x y : Int) (T : TypeId) : (V.alloc (.cells #[.int .i64 x, .int .i64 y] T)).cell? ⟨V.heap.size, 0, none⟩ = some (.int .i64 x) ∧ (V.alloc (.cells #[.int .i64 x, .int .i64 y] T)).cell? ⟨V.heap.size, 1, none⟩ = some (.int .i64 y) := ⟨by go_cell, by go_cell⟩
/-- What curve has written after some rounds. -/
def crvK (g : Nat → Pt) (n k j i : Nat) : Pt := if i < j then crvP g n k (i + 1) else p0
theorem crvK_next (g : Nat → Pt) (n k j i : Nat) : crvK g n k (j + 1) i = if i = j then crvP g n k (j + 1) else crvK g n k j i := by
  unfold crvK
  by_cases h : i = j
  · subst h; rw [if_pos (by omega), if_pos rfl]
  · rw [if_neg h]
    by_cases h2 : i < j
    · rw [if_pos h2, if_pos (by omega)]
    · rw [if_neg h2, if_neg (by omega)]
theorem ms {N j : Nat} (h : j < N) : N - (intOf (.int .i64 ((j : Int) + 1))).toNat < N - (intOf (.int .i64 (j : Int))).toNat := by simp [intOf]; omega
def CvRel (w : World) (S : Nat) (g : Nat → Pt) (n k N : Nat) (v : Value) (V : World) : Prop := ∃ j : Nat, v = .int .i64 j ∧ j ≤ N ∧ PO V S N (crvK g n k j) ∧ Below w.heap.size w V ∧ w.heap.size ≤ S
set_option maxRecDepth 100000 in
set_option maxHeartbeats 8000000 in
theorem curve_any (a : Option Addr) (n c : Nat) (g : Nat → Pt) (k : Nat) (hk : k < n) (hk0 : 1 ≤ k) (hn : n ≤ 1000000) (w : World) (hA : PA w a n g) :
    Calls Try.prog 61 #[.slice a n c, .int .i64 (k : Int)] w fun e w' => ∃ S, e = .returned (.slice (some ⟨S, 0, none⟩) (crvN g n k) (crvN g n k)) ∧ w.heap.size ≤ S ∧ PO w' S (crvN g n k) (fun i => crvP g n k (i + 1)) ∧ Below w.heap.size w w' := by
  obtain ⟨b, o, rfl, x0, x1, x2⟩ := hA k hk
  obtain ⟨m, hm⟩ : ∃ m, (k + 1) % n = m := ⟨_, rfl⟩
  obtain ⟨k1, hk1⟩ : ∃ k1, k - 1 = k1 := ⟨_, rfl⟩
  have hmn : m < n := by rw [← hm]; exact Nat.mod_lt _ (by omega)
  have E1 := Lib.hid (fun V h => twiceEnd_any (some ⟨b, o, none⟩) n c g k k1 hk (by omega) V (pa_below hA h))
  have E2 := Lib.hid (fun V h => twiceEnd_any (some ⟨b, o, none⟩) n c g k m hk hmn V (pa_below hA h))
  have ON := Lib.hid (fun V h => isOn_any (some ⟨b, o, none⟩) n c g m hmn V (pa_below hA h))
  have i1 : (k : Int) - 1 = (k1 : Int) := by omega
  have i2 : ((k : Int) + 1).tmod (n : Int) = (m : Int) := by rw [Int.tmod_eq_emod_of_nonneg (by omega), ← hm]; simp
  have i3 : ((k : Int) + 1) % (n : Int) = (m : Int) := by rw [← hm]; simp
  have j1 : (1 : Int) ≤ (k : Int) := by omega
  have j2 : (k : Int) < (n : Int) := by omega
  have j3 : (n : Int) ≤ 1000000 := by omega
  have j4 : ¬ (n : Int) = 0 := by omega
  have j5 : ((n : Int) == 0) = false := beq_eq_false_iff_ne.2 j4
  have j6 : (1 : Int) ≤ (n : Int) := by omega
  have hN : Hid (crvN g n k = if onB g m then 3 else 4) := Lib.hid (by unfold crvN; rw [hm])
  have hP : Hid (∀ t, crvP g n k t = ⟨cv (endX g k k1) (g k).x (endX g k m) t, cv (endY g k k1) (g k).y (endY g k m) t, true⟩) := Lib.hid (fun t => by unfold crvP; rw [hm, hk1])
  have hne := block_lt_of_cell x0
  simp only at hne
  clear hA hm hk1
  go_enter Try.func61, Try.ntmps61
  go_wp2_with fail
  refine (E1.out _ (Below.refl _ _)).mono ?_
  rintro e V1 ⟨rfl, hB1⟩
  go_wp2_with fail
  refine (E2.out _ hB1).mono ?_
  rintro e V2 ⟨rfl, hB2⟩
  replace hB2 := bt hB1 hB2
  clear hB1 E1 E2 i2 i3
  generalize endX g k k1 = ux at *
  generalize endY g k k1 = uy at *
  generalize endX g k m = vx at *
  generalize endY g k m = vy at *
  go_upto_region 4 with (fail)
  have hBX : Below w.heap.size w ((V2.alloc (.cells #[.int .i64 ux, .int .i64 uy] 39)).alloc (.cells #[.int .i64 vx, .int .i64 vy] 39)) := ba (ba hB2 _) _
  have a0 := kc (ba (Below.refl _ _) (.cells #[.int .i64 vx, .int .i64 vy] 39)) (mv_new V2 ux uy 39).1
  have a1 := kc (ba (Below.refl _ _) (.cells #[.int .i64 vx, .int .i64 vy] 39)) (mv_new V2 ux uy 39).2
  have c0 := (mv_new (V2.alloc (.cells #[.int .i64 ux, .int .i64 uy] 39)) vx vy 39).1
  have c1 := (mv_new (V2.alloc (.cells #[.int .i64 ux, .int .i64 uy] 39)) vx vy 39).2
  simp only [World.size_alloc] at c0 c1
  have hle := hB2.size
  replace x0 := kc hBX x0
  replace x1 := kc hBX x1
  clear x2 hB2
  generalize ((V2.alloc (.cells #[.int .i64 ux, .int .i64 uy] 39)).alloc (.cells #[.int .i64 vx, .int .i64 vy] 39)) = X at *
  obtain ⟨d1, hd1⟩ : ∃ d1, d1 = V2.heap.size := ⟨_, rfl⟩
  obtain ⟨d2, hd2⟩ : ∃ d2, d2 = V2.heap.size + 1 := ⟨_, rfl⟩
  rw [← hd2] at c0 c1 ⊢
  rw [← hd1] at a0 a1 ⊢
  clear hd1 hd2 hle
  have hd1 := block_lt_of_cell a0
  have hd2 := block_lt_of_cell c0
  have hbX := block_lt_of_cell x0
  simp only at hd1 hd2 hbX
  generalize g k = p at *
  go_wp2_with fail
  refine (ON.out _ hBX).mono ?_
  rintro e V3 ⟨rfl, rfl⟩
  have hwX := hBX.size
  rcases hon : onB g m with _ | _
  · rw [hon] at hN
    have hN' : Hid (crvN g n k = 4) := Lib.hid (by rw [hN.out]; rfl)
    clear hon hN ON
    obtain ⟨V4, hmk0, hO, hB4, hlt⟩ := make_pts X 4 (by omega)
    have hmk : (Instr.makeSlice 60 (.int .i64 4) (.int .i64 4)).run Try.prog X = .ok (.slice (some ⟨X.heap.size, 0, none⟩) 4 4) V4 := hmk0
    have R0 : CvRel w X.heap.size g n k 4 (.int .i64 0) V4 := ⟨0, rfl, by omega, po_congr hO (fun i _ => rfl), bt hBX hB4, hwX⟩
    have P0 := Lib.hid (kc hB4 a0)
    have P1 := Lib.hid (kc hB4 a1)
    have P2 := Lib.hid (kc hB4 c0)
    have P3 := Lib.hid (kc hB4 c1)
    have P4 := Lib.hid (kc hB4 x0)
    have P5 := Lib.hid (kc hB4 x1)
    clear hmk0 hO a0 a1 c0 c1 x0 x1
    go_wp2_with fail
    clear hmk
    have h1 : ¬ d1 = X.heap.size := by omega
    have h2 : ¬ d2 = X.heap.size := by omega
    have h3 : ¬ b = X.heap.size := by omega
    generalize X.heap.size = S at *
    go_loopw [35] (fun v V => CvRel w S g n k 4 v V ∧ V4.grownBy V (some S)) (fun v _ => 4 - (intOf v).toNat)
    case atStart => exact ⟨R0, gr _ _⟩
    case round =>
      clear R0 hB4 hlt
      obtain ⟨⟨j, rfl, hj, hO, hB, hwS⟩, hG⟩ := hrel
      rename World => V
      rcases Nat.lt_or_ge j 4 with hjN | hjN
      · have a0 : ∀ V', V.grownBy V' (some S) → V'.cell? ⟨d1, 0, none⟩ = some (.int .i64 ux) := fun _ h => gc h (gc hG P0.out h1) h1
        have a1 : ∀ V', V.grownBy V' (some S) → V'.cell? ⟨d1, 1, none⟩ = some (.int .i64 uy) := fun _ h => gc h (gc hG P1.out h1) h1
        have c0 : ∀ V', V.grownBy V' (some S) → V'.cell? ⟨d2, 0, none⟩ = some (.int .i64 vx) := fun _ h => gc h (gc hG P2.out h2) h2
        have c1 : ∀ V', V.grownBy V' (some S) → V'.cell? ⟨d2, 1, none⟩ = some (.int .i64 vy) := fun _ h => gc h (gc hG P3.out h2) h2
        have x0 : ∀ V', V.grownBy V' (some S) → V'.cell? ⟨b, o + k * 3, none⟩ = some (.int .i64 p.x) := fun _ h => gc h (gc hG P4.out h3) h3
        have x1 : ∀ V', V.grownBy V' (some S) → V'.cell? ⟨b, o + k * 3 + 1, none⟩ = some (.int .i64 p.y) := fun _ h => gc h (gc hG P5.out h3) h3
        have OX : Hid (∀ w, Calls Try.prog 78 #[.int .i64 ux, .int .i64 p.x, .int .i64 vx, .int .i64 ((j : Int) + 1)] w fun e w' => e = .returned (.int .i64 (cv ux p.x vx ((j + 1 : Nat) : Int))) ∧ w = w') := Lib.hid (fun w => onCurve_any ux p.x vx (j + 1) (by omega) w)
        have OY : Hid (∀ w, Calls Try.prog 78 #[.int .i64 uy, .int .i64 p.y, .int .i64 vy, .int .i64 ((j : Int) + 1)] w fun e w' => e = .returned (.int .i64 (cv uy p.y vy ((j + 1 : Nat) : Int))) ∧ w = w') := Lib.hid (fun w => onCurve_any uy p.y vy (j + 1) (by omega) w)
        have hq : Hid (crvP g n k (j + 1) = ⟨cv ux p.x vx ((j + 1 : Nat) : Int), cv uy p.y vy ((j + 1 : Nat) : Int), true⟩) := Lib.hid (hP.out _)
        generalize cv ux p.x vx ((j + 1 : Nat) : Int) = rx at *
        generalize cv uy p.y vy ((j + 1 : Nat) : Int) = ry at *
        have R1 : Hid (∀ V', V' = (((V.setCell ⟨S, j * 3, none⟩ (.int .i64 rx)).setCell ⟨S, j * 3 + 1, none⟩ (.int .i64 ry)).setCell ⟨S, j * 3 + 2, none⟩ (.bool true)) → CvRel w S g n k 4 (.int .i64 ((j : Int) + 1)) V'.drew ∧ V4.grownBy V'.drew (some S)) :=
          Lib.hid (fun V' e => by
            subst e
            exact ⟨⟨j + 1, rfl, by omega, po_set (p := ⟨rx, ry, true⟩) hO hjN (fun i => by rw [crvK_next, hq.out]), bd1 (bs (bs (bs hB hwS _) hwS _) hwS _), hwS⟩, gd1 (gs (gs (gs hG _) _) _)⟩)
        obtain ⟨⟨s0, s1, s2⟩, s3, s4, s5⟩ := hO j hjN
        have t1 : (0 : Int) ≤ (j : Int) := by omega
        have t2 : (j : Int) < 4 := by omega
        have t3 : IntKind.i64.wrap ((j : Int) + 1) = (j : Int) + 1 := by rw [IntWalk.i64_left]; exact w_in ⟨by omega, by omega⟩
        have t4 : wrap64 ((j : Int) + 1) = (j : Int) + 1 := w_in ⟨by omega, by omega⟩
        have e1 : (0 : Int) ≤ (k : Int) := by omega
        clear hO hB hG hN' hP P0 P1 P2 P3 P4 P5 hq i1
        go_wp2_with fail
        go_region_held3 (fun w' => V.grownBy w' (some S)) (first
          | (with_reducible exact gd1 (gr _ _))
          | (with_reducible exact gd1 (gs (gs (gs (gr _ _) _) _) _))
          | (with_reducible assumption))
          (first
          | ((with_reducible refine (OX.out _).mono ?_); rintro en wa ⟨rfl, rfl⟩)
          | ((with_reducible refine (OY.out _).mono ?_); rintro en wa ⟨rfl, rfl⟩))
        all_goals
          have R := Lib.hid (R1.out _ rfl)
          clear R1 a0 a1 c0 c1 x0 x1 OX OY s0 s1 s2 s3 s4 s5 t3 h1 h2 h3 hne hd1 hd2 hbX
          go_wp2_with fail
          exact ⟨R.out, ms hjN⟩
      · obtain rfl : j = 4 := by omega
        clear hG
        go_wp2_with fail
        go_ret
        refine ⟨S, by rw [hN'.out]; rfl, hwS, ?_, hB⟩
        rw [hN'.out]
        exact po_congr hO (fun i hi => by unfold crvK; rw [if_pos hi])
  · rw [hon] at hN
    have hN' : Hid (crvN g n k = 3) := Lib.hid (by rw [hN.out]; rfl)
    clear hon hN ON
    obtain ⟨V4, hmk0, hO, hB4, hlt⟩ := make_pts X 3 (by omega)
    have hmk : (Instr.makeSlice 60 (.int .i64 3) (.int .i64 3)).run Try.prog X = .ok (.slice (some ⟨X.heap.size, 0, none⟩) 3 3) V4 := hmk0
    have R0 : CvRel w X.heap.size g n k 3 (.int .i64 0) V4 := ⟨0, rfl, by omega, po_congr hO (fun i _ => rfl), bt hBX hB4, hwX⟩
    have P0 := Lib.hid (kc hB4 a0)
    have P1 := Lib.hid (kc hB4 a1)
    have P2 := Lib.hid (kc hB4 c0)
    have P3 := Lib.hid (kc hB4 c1)
    have P4 := Lib.hid (kc hB4 x0)
    have P5 := Lib.hid (kc hB4 x1)
    clear hmk0 hO a0 a1 c0 c1 x0 x1
    go_wp2_with fail
    clear hmk
    have h1 : ¬ d1 = X.heap.size := by omega
    have h2 : ¬ d2 = X.heap.size := by omega
    have h3 : ¬ b = X.heap.size := by omega
    generalize X.heap.size = S at *
    go_loopw [35] (fun v V => CvRel w S g n k 3 v V ∧ V4.grownBy V (some S)) (fun v _ => 3 - (intOf v).toNat)
    case atStart => exact ⟨R0, gr _ _⟩
    case round =>
      clear R0 hB4 hlt
      obtain ⟨⟨j, rfl, hj, hO, hB, hwS⟩, hG⟩ := hrel
      rename World => V
      rcases Nat.lt_or_ge j 3 with hjN | hjN
      · have a0 : ∀ V', V.grownBy V' (some S) → V'.cell? ⟨d1, 0, none⟩ = some (.int .i64 ux) := fun _ h => gc h (gc hG P0.out h1) h1
        have a1 : ∀ V', V.grownBy V' (some S) → V'.cell? ⟨d1, 1, none⟩ = some (.int .i64 uy) := fun _ h => gc h (gc hG P1.out h1) h1
        have c0 : ∀ V', V.grownBy V' (some S) → V'.cell? ⟨d2, 0, none⟩ = some (.int .i64 vx) := fun _ h => gc h (gc hG P2.out h2) h2
        have c1 : ∀ V', V.grownBy V' (some S) → V'.cell? ⟨d2, 1, none⟩ = some (.int .i64 vy) := fun _ h => gc h (gc hG P3.out h2) h2
        have x0 : ∀ V', V.grownBy V' (some S) → V'.cell? ⟨b, o + k * 3, none⟩ = some (.int .i64 p.x) := fun _ h => gc h (gc hG P4.out h3) h3
        have x1 : ∀ V', V.grownBy V' (some S) → V'.cell? ⟨b, o + k * 3 + 1, none⟩ = some (.int .i64 p.y) := fun _ h => gc h (gc hG P5.out h3) h3
        have OX : Hid (∀ w, Calls Try.prog 78 #[.int .i64 ux, .int .i64 p.x, .int .i64 vx, .int .i64 ((j : Int) + 1)] w fun e w' => e = .returned (.int .i64 (cv ux p.x vx ((j + 1 : Nat) : Int))) ∧ w = w') := Lib.hid (fun w => onCurve_any ux p.x vx (j + 1) (by omega) w)
        have OY : Hid (∀ w, Calls Try.prog 78 #[.int .i64 uy, .int .i64 p.y, .int .i64 vy, .int .i64 ((j : Int) + 1)] w fun e w' => e = .returned (.int .i64 (cv uy p.y vy ((j + 1 : Nat) : Int))) ∧ w = w') := Lib.hid (fun w => onCurve_any uy p.y vy (j + 1) (by omega) w)
        have hq : Hid (crvP g n k (j + 1) = ⟨cv ux p.x vx ((j + 1 : Nat) : Int), cv uy p.y vy ((j + 1 : Nat) : Int), true⟩) := Lib.hid (hP.out _)
        generalize cv ux p.x vx ((j + 1 : Nat) : Int) = rx at *
        generalize cv uy p.y vy ((j + 1 : Nat) : Int) = ry at *
        have R1 : Hid (∀ V', V' = (((V.setCell ⟨S, j * 3, none⟩ (.int .i64 rx)).setCell ⟨S, j * 3 + 1, none⟩ (.int .i64 ry)).setCell ⟨S, j * 3 + 2, none⟩ (.bool true)) → CvRel w S g n k 3 (.int .i64 ((j : Int) + 1)) V'.drew ∧ V4.grownBy V'.drew (some S)) :=
          Lib.hid (fun V' e => by
            subst e
            exact ⟨⟨j + 1, rfl, by omega, po_set (p := ⟨rx, ry, true⟩) hO hjN (fun i => by rw [crvK_next, hq.out]), bd1 (bs (bs (bs hB hwS _) hwS _) hwS _), hwS⟩, gd1 (gs (gs (gs hG _) _) _)⟩)
        obtain ⟨⟨s0, s1, s2⟩, s3, s4, s5⟩ := hO j hjN
        have t1 : (0 : Int) ≤ (j : Int) := by omega
        have t2 : (j : Int) < 3 := by omega
        have t3 : IntKind.i64.wrap ((j : Int) + 1) = (j : Int) + 1 := by rw [IntWalk.i64_left]; exact w_in ⟨by omega, by omega⟩
        have t4 : wrap64 ((j : Int) + 1) = (j : Int) + 1 := w_in ⟨by omega, by omega⟩
        have e1 : (0 : Int) ≤ (k : Int) := by omega
        clear hO hB hG hN' hP P0 P1 P2 P3 P4 P5 hq i1
        go_wp2_with fail
        go_region_held3 (fun w' => V.grownBy w' (some S)) (first
          | (with_reducible exact gd1 (gr _ _))
          | (with_reducible exact gd1 (gs (gs (gs (gr _ _) _) _) _))
          | (with_reducible assumption))
          (first
          | ((with_reducible refine (OX.out _).mono ?_); rintro en wa ⟨rfl, rfl⟩)
          | ((with_reducible refine (OY.out _).mono ?_); rintro en wa ⟨rfl, rfl⟩))
        all_goals
          have R := Lib.hid (R1.out _ rfl)
          clear R1 a0 a1 c0 c1 x0 x1 OX OY s0 s1 s2 s3 s4 s5 t3 h1 h2 h3 hne hd1 hd2 hbX
          go_wp2_with fail
          exact ⟨R.out, ms hjN⟩
      · obtain rfl : j = 3 := by omega
        clear hG
        go_wp2_with fail
        go_ret
        refine ⟨S, by rw [hN'.out]; rfl, hwS, ?_, hB⟩
        rw [hN'.out]
        exact po_congr hO (fun i hi => by unfold crvK; rw [if_pos hi])
end Go.Proofs.Ytcogoomajfahkaa.Ot
