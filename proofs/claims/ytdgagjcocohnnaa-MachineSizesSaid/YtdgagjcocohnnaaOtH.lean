/-
  Layer 6 (outline): curves of the program; the document's own end.
-/
import Derived.Test.YtdgagjcocohnnaaOtG
import Derived.Test.YtdgagjcocohnnaaOtE0
import Derived.StillTailTactics
namespace Go.Proofs.Ytdgagjcocohnnaa.Ot
open Go.RowKit
theorem mixedG : Try.prog.follows .mixedOrders = true := by kernel_rfl
/-- Points in a block of their own, which may be written. -/
def PO (w : World) (b n : Nat) (f : Nat → Pt) : Prop := ∀ i, i < n → PtAt w b (i * 3) (f i) ∧ w.frozen? ⟨b, i * 3, none⟩ = false ∧ w.frozen? ⟨b, i * 3 + 1, none⟩ = false ∧ w.frozen? ⟨b, i * 3 + 2, none⟩ = false
theorem po_pa {w : World} {b n : Nat} {f : Nat → Pt} (h : PO w b n f) : PA w (some ⟨b, 0, none⟩) n f := fun i hi => ⟨b, 0, rfl, by rw [Nat.zero_add]; exact (h i hi).1⟩
theorem po_below {w W : World} {b n : Nat} {f : Nat → Pt} (h : PO w b n f) (hB : Below w.heap.size w W) : PO W b n f := fun i hi => by
  obtain ⟨h1, f1, f2, f3⟩ := h i hi
  exact ⟨ptat_below h1 hB, kf hB h1.1 f1, kf hB h1.2.1 f2, kf hB h1.2.2 f3⟩
theorem po_congr {w : World} {b n : Nat} {f g : Nat → Pt} (h : PO w b n f) (e : ∀ i, i < n → f i = g i) : PO w b n g := fun i hi => by rw [← e i hi]; exact h i hi
theorem po_set {w : World} {b n k : Nat} {f g : Nat → Pt} {p : Pt} (h : PO w b n f) (hk : k < n) (e : ∀ i, g i = if i = k then p else f i) :
    PO (((w.setCell ⟨b, k * 3, none⟩ (.int .i64 p.x)).setCell ⟨b, k * 3 + 1, none⟩ (.int .i64 p.y)).setCell ⟨b, k * 3 + 2, none⟩ (.bool p.o)) b n g := fun i hi => by
  obtain ⟨⟨h1, h2, h3⟩, f1, f2, f3⟩ := h i hi
  obtain ⟨⟨k1, k2, k3⟩, e1, e2, e3⟩ := h k hk
  rw [e]
  by_cases hik : i = k
  · subst hik
    rw [if_pos rfl]
    exact ⟨⟨by go_cell, by go_cell, by go_cell⟩, by go_cell, by go_cell, by go_cell⟩
  · rw [if_neg hik]
    have n0 : ¬ k * 3 = i * 3 := by omega
    have n1 : ¬ k * 3 = i * 3 + 1 := by omega
    have n2 : ¬ k * 3 = i * 3 + 2 := by omega
    have n3 : ¬ k * 3 + 1 = i * 3 := by omega
    have n4 : ¬ k * 3 + 1 = i * 3 + 1 := by omega
    have n5 : ¬ k * 3 + 1 = i * 3 + 2 := by omega
    have n6 : ¬ k * 3 + 2 = i * 3 := by omega
    have n7 : ¬ k * 3 + 2 = i * 3 + 1 := by omega
    have n8 : ¬ k * 3 + 2 = i * 3 + 2 := by omega
    exact ⟨⟨by go_cell, by go_cell, by go_cell⟩, by go_cell, by go_cell, by go_cell⟩
theorem infoP : (Try.prog.info? 53).map (fun i => (i.zero, i.size, i.bytes)) = some (some (.agg #[.int .i64 0, .int .i64 0, .bool false]), 3, 24) := by kernel_rfl
theorem below_none {w v : World} (k : w.grownBy v none) : Below w.heap.size w v := ⟨k.os, k.tape, k.output, k.size, fun i hi => k.block i hi (by simp)⟩
theorem po_made {W : World} {n₀ b m : Nat} (h : W.ownsRow n₀ 53 3 (.slice (some ⟨b, 0, none⟩) m m) m (madeCells #[.int .i64 0, .int .i64 0, .bool false] (m * 3)).toList) : PO W b m (fun _ => p0) := by
  have hc : ∀ i r, i < m → r < 3 → W.cell? ⟨b, i * 3 + r, none⟩ = some ([Value.int .i64 0, .int .i64 0, .bool false].getD r undef) ∧ W.frozen? ⟨b, i * 3 + r, none⟩ = false := by
    intro i r hi hr
    have hlt : i * 3 + r < m * 3 := by omega
    refine ⟨?_, h.frozenAt _⟩
    rw [h.cellAt _ hlt]
    simp only [madeCells, Array.toList_map, Array.toList_range, List.getElem?_map, List.getElem?_range hlt, Option.map_some, List.size_toArray, List.length_cons, List.length_nil, Nat.zero_add]
    have : (i * 3 + r) % 3 = r := by omega
    rw [show (0 + 1 + 1 + 1 : Nat) = 3 from rfl, this]
    match r, hr with
    | 0, _ => rfl
    | 1, _ => rfl
    | 2, _ => rfl
  intro i hi
  exact ⟨⟨(hc i 0 hi (by omega)).1, (hc i 1 hi (by omega)).1, (hc i 2 hi (by omega)).1⟩, (hc i 0 hi (by omega)).2, (hc i 1 hi (by omega)).2, (hc i 2 hi (by omega)).2⟩
theorem row_lt {W : World} {n₀ b m e s : Nat} {l : List Value} (h : W.ownsRow n₀ e s (.slice (some ⟨b, 0, none⟩) m m) m l) : b < W.heap.size := by
  obtain ⟨_, h2⟩ := h
  rcases h2 with ⟨h2, _⟩ | ⟨g, cap, cur, h2, _, hh, _⟩
  · cases h2
  · cases h2
    exact (Array.getElem?_eq_some_iff.1 hh).1
theorem info_parts {T : TypeId} {z : Value} {s b : Nat} (h : (Try.prog.info? T).map (fun i => (i.zero, i.size, i.bytes)) = some (some z, s, b)) : ∃ i, Try.prog.info? T = some i ∧ i.zero = some z ∧ i.size = s ∧ i.bytes = b := by
  cases hh : Try.prog.info? T with
  | none => rw [hh] at h; cases h
  | some i =>
    rw [hh] at h
    simp only [Option.map_some, Option.some.injEq, Prod.mk.injEq] at h
    exact ⟨i, rfl, h.1, h.2.1, h.2.2⟩
theorem make_pts (W : World) (n : Nat) (h : n ≤ 100000) : ∃ W', (Instr.makeSlice 32 (.int .i64 (n : Int)) (.int .i64 (n : Int))).run Try.prog W = .ok (.slice (some ⟨W.heap.size, 0, none⟩) n n) W' ∧ PO W' W.heap.size n (fun _ => p0) ∧ Below W.heap.size W W' ∧ W.heap.size < W'.heap.size := by
  obtain ⟨i0, hi, hz0, hz1, hz2⟩ := info_parts infoP
  obtain ⟨w1, hmk, hown, hgr⟩ := run_make_full (P := Try.prog) W W.heap.size 32 53 i0 _ 3 Try.underlying32 hi hz0 hz1 .i64 .i64 n (by rw [hz2]; omega) (by unfold maxLen; omega) (Nat.le_refl _)
  exact ⟨w1, hmk, po_made hown, below_none hgr, row_lt hown⟩
/-- How many points a polygon has for a point off the curve, and which. -/
def crvN (g : Nat → Pt) (n k : Nat) : Nat := if onB g ((k + 1) % n) then 3 else 4
def crvP (g : Nat → Pt) (n k t : Nat) : Pt := ⟨cv (endX g k (k - 1)) (g k).x (endX g k ((k + 1) % n)) t, cv (endY g k (k - 1)) (g k).y (endY g k ((k + 1) % n)) t, true⟩
theorem crvN_le (g : Nat → Pt) (n k : Nat) : 3 ≤ crvN g n k ∧ crvN g n k ≤ 4 := by unfold crvN; split <;> omega
theorem mv_new (V : World) (x y : Int) (T : TypeId) : (V.alloc (.cells #[.int .i64 x, .int .i64 y] T)).cell? ⟨V.heap.size, 0, none⟩ = some (.int .i64 x) ∧ (V.alloc (.cells #[.int .i64 x, .int .i64 y] T)).cell? ⟨V.heap.size, 1, none⟩ = some (.int .i64 y) := ⟨by go_cell, by go_cell⟩
/-- What curve has written after some rounds. -/
def crvK (g : Nat → Pt) (n k j i : Nat) : Pt := if i < j then crvP g n k (i + 1) else p0
theorem crvK_next (g : Nat → Pt) (n k j i : Nat) : crvK g n k (j + 1) i = if i = j then crvP g n k (j + 1) else crvK g n k j i := by
  unfold crvK
  by_cases h : i = j
  · subst h; rw [if_pos (by omega), if_pos rfl]
  · rw [if_neg h]
    by_cases h2 : i < j
    · rw [if_pos h2, if_pos (by omega)]
    · rw [if_neg h2, if_neg (by omega)]
theorem ms {N j : Nat} (h : j < N) : N - (intOf (.int .i64 ((j : Int) + 1))).toNat < N - (intOf (.int .i64 (j : Int))).toNat := by simp [intOf]; omega
def CvRel (w : World) (S : Nat) (g : Nat → Pt) (n k N : Nat) (v : Value) (V : World) : Prop := ∃ j : Nat, v = .int .i64 j ∧ j ≤ N ∧ PO V S N (crvK g n k j) ∧ Below w.heap.size w V ∧ w.heap.size ≤ S
end Go.Proofs.Ytdgagjcocohnnaa.Ot
