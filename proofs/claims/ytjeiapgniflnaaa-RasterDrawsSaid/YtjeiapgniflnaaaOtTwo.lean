/-
  Layer 6 (outline): points on curves: isOn, twiceEnd, onCurve, and the document's own.
  Layer 6 (outline): curves of the program; the document's own end.
  Layer 6 (outline): polygons of the program.
  Layer 6 (outline): outlines that a call makes; Flat and Clone of the program.
  Layer 6 (outline): slices.Clone of points.
  Layer 6 (outline): changed of the program.
  Layer 6 (outline): Scale and Shift of the program.
  Layer 6 (outline): outlines that grow by append; Copy of the document's own.
  Layer 6 (outline): polygon and Flat of the document's own.
-/
import Derived.Test.YtjeiapgniflnaaaOtOne
import Derived.StillTailTactics
namespace Go.Proofs.Ytjeiapgniflnaaa.Ot
open Go.RowKit
theorem w_addl (a b : Int) : wrap64 (wrap64 a + b) = wrap64 (a + b) := by unfold wrap64; omega
theorem w_addr (a b : Int) : wrap64 (a + wrap64 b) = wrap64 (a + b) := by unfold wrap64; omega
theorem w_wrap (a : Int) : wrap64 (wrap64 a) = wrap64 a := by unfold wrap64; omega
theorem w_mod {a b : Int} (h : (a - b) % 18446744073709551616 = 0) : wrap64 a = wrap64 b := by unfold wrap64; omega
theorem w_ex (a : Int) : ∃ k : Int, wrap64 a = a + 18446744073709551616 * k := ⟨-((a + 9223372036854775808) / 18446744073709551616), by unfold wrap64; omega⟩
theorem w_mull (a b : Int) : wrap64 (wrap64 a * b) = wrap64 (a * b) := by
  obtain ⟨k, e⟩ := w_ex a
  rw [e]
  refine w_mod ?_
  rw [Int.add_mul, Int.mul_assoc]
  generalize k * b = z
  generalize a * b = y
  omega
theorem w_mulr (a b : Int) : wrap64 (a * wrap64 b) = wrap64 (a * b) := by
  rw [Int.mul_comm, w_mull, Int.mul_comm]
theorem w_in {a : Int} (h : R64 a) : wrap64 a = a := by unfold R64 at h; unfold wrap64; omega
theorem w_R (a : Int) : R64 (wrap64 a) := by unfold R64 wrap64; omega
theorem ret_int {k : IntKind} {a b : Int} (h : a = b) : Ending.returned (.int k a) = .returned (.int k b) := by rw [h]
/-- Whether a point of a contour is on the curve. -/
def onB (g : Nat → Pt) (k : Nat) : Bool := (g k).o || decide (k = 0)
/-- A coordinate of a point of a curve. -/
def cv (a b c t : Int) : Int := wrap64 (a * (4 - t) * (4 - t) + 4 * b * t * (4 - t) + c * t * t)
/-- Twice an end of a curve. -/
def endP (g : Nat → Pt) (k m : Nat) : Pt := if onB g m then g m else g k
def endX (g : Nat → Pt) (k m : Nat) : Int := wrap64 ((endP g k m).x + (g m).x)
def endY (g : Nat → Pt) (k m : Nat) : Int := wrap64 ((endP g k m).y + (g m).y)
end Go.Proofs.Ytjeiapgniflnaaa.Ot
namespace Go.Proofs.Ytjeiapgniflnaaa.Ot
open Go.RowKit
theorem mixedG : Try.prog.follows .mixedOrders = true := by kernel_rfl
/-- Points in a block of their own, which may be written. -/
def PO (w : World) (b n : Nat) (f : Nat → Pt) : Prop := ∀ i, i < n → PtAt w b (i * 3) (f i) ∧ w.frozen? ⟨b, i * 3, none⟩ = false ∧ w.frozen? ⟨b, i * 3 + 1, none⟩ = false ∧ w.frozen? ⟨b, i * 3 + 2, none⟩ = false
theorem po_pa {w : World} {b n : Nat} {f : Nat → Pt} (h : PO w b n f) : PA w (some ⟨b, 0, none⟩) n f := fun i hi => ⟨b, 0, rfl, by rw [Nat.zero_add]; exact (h i hi).1⟩
theorem po_below {w W : World} {b n : Nat} {f : Nat → Pt} (h : PO w b n f) (hB : Below w.heap.size w W) : PO W b n f := fun i hi => by
  obtain ⟨h1, f1, f2, f3⟩ := h i hi
  exact ⟨ptat_below h1 hB, kf hB h1.1 f1, kf hB h1.2.1 f2, kf hB h1.2.2 f3⟩
theorem po_congr {w : World} {b n : Nat} {f g : Nat → Pt} (h : PO w b n f) (e : ∀ i, i < n → f i = g i) : PO w b n g := fun i hi => by rw [← e i hi]; exact h i hi
theorem po_set {w : World} {b n k : Nat} {f g : Nat → Pt} {p : Pt} (h : PO w b n f) (hk : k < n) (e : ∀ i, g i = if i = k then p else f i) :
    PO (((w.setCell ⟨b, k * 3, none⟩ (.int .i64 p.x)).setCell ⟨b, k * 3 + 1, none⟩ (.int .i64 p.y)).setCell ⟨b, k * 3 + 2, none⟩ (.bool p.o)) b n g := fun i hi => by
  obtain ⟨⟨h1, h2, h3⟩, f1, f2, f3⟩ := h i hi
  obtain ⟨⟨k1, k2, k3⟩, e1, e2, e3⟩ := h k hk
  rw [e]
  by_cases hik : i = k
  · subst hik
    rw [if_pos rfl]
    exact ⟨⟨by go_cell, by go_cell, by go_cell⟩, by go_cell, by go_cell, by go_cell⟩
  · rw [if_neg hik]
    have n0 : ¬ k * 3 = i * 3 := by omega
    have n1 : ¬ k * 3 = i * 3 + 1 := by omega
    have n2 : ¬ k * 3 = i * 3 + 2 := by omega
    have n3 : ¬ k * 3 + 1 = i * 3 := by omega
    have n4 : ¬ k * 3 + 1 = i * 3 + 1 := by omega
    have n5 : ¬ k * 3 + 1 = i * 3 + 2 := by omega
    have n6 : ¬ k * 3 + 2 = i * 3 := by omega
    have n7 : ¬ k * 3 + 2 = i * 3 + 1 := by omega
    have n8 : ¬ k * 3 + 2 = i * 3 + 2 := by omega
    exact ⟨⟨by go_cell, by go_cell, by go_cell⟩, by go_cell, by go_cell, by go_cell⟩
theorem infoP : (Try.prog.info? 63).map (fun i => (i.zero, i.size, i.bytes)) = some (some (.agg #[.int .i64 0, .int .i64 0, .bool false]), 3, 24) := by kernel_rfl
theorem below_none {w v : World} (k : w.grownBy v none) : Below w.heap.size w v := ⟨k.os, k.tape, k.output, k.size, fun i hi => k.block i hi (by simp)⟩
theorem po_made {W : World} {n₀ b m : Nat} (h : W.ownsRow n₀ 63 3 (.slice (some ⟨b, 0, none⟩) m m) m (madeCells #[.int .i64 0, .int .i64 0, .bool false] (m * 3)).toList) : PO W b m (fun _ => p0) := by
  have hc : ∀ i r, i < m → r < 3 → W.cell? ⟨b, i * 3 + r, none⟩ = some ([Value.int .i64 0, .int .i64 0, .bool false].getD r undef) ∧ W.frozen? ⟨b, i * 3 + r, none⟩ = false := by
    intro i r hi hr
    have hlt : i * 3 + r < m * 3 := by omega
    refine ⟨?_, h.frozenAt _⟩
    rw [h.cellAt _ hlt]
    simp only [madeCells, Array.toList_map, Array.toList_range, List.getElem?_map, List.getElem?_range hlt, Option.map_some, List.size_toArray, List.length_cons, List.length_nil, Nat.zero_add]
    have : (i * 3 + r) % 3 = r := by omega
    rw [show (0 + 1 + 1 + 1 : Nat) = 3 from rfl, this]
    match r, hr with
    | 0, _ => rfl
    | 1, _ => rfl
    | 2, _ => rfl
  intro i hi
  exact ⟨⟨(hc i 0 hi (by omega)).1, (hc i 1 hi (by omega)).1, (hc i 2 hi (by omega)).1⟩, (hc i 0 hi (by omega)).2, (hc i 1 hi (by omega)).2, (hc i 2 hi (by omega)).2⟩
theorem row_lt {W : World} {n₀ b m e s : Nat} {l : List Value} (h : W.ownsRow n₀ e s (.slice (some ⟨b, 0, none⟩) m m) m l) : b < W.heap.size := by
  obtain ⟨_, h2⟩ := h
  rcases h2 with ⟨h2, _⟩ | ⟨g, cap, cur, h2, _, hh, _⟩
  · cases h2
  · cases h2
    exact (Array.getElem?_eq_some_iff.1 hh).1
theorem info_parts {T : TypeId} {z : Value} {s b : Nat} (h : (Try.prog.info? T).map (fun i => (i.zero, i.size, i.bytes)) = some (some z, s, b)) : ∃ i, Try.prog.info? T = some i ∧ i.zero = some z ∧ i.size = s ∧ i.bytes = b := by
  cases hh : Try.prog.info? T with
  | none => rw [hh] at h; cases h
  | some i =>
    rw [hh] at h
    simp only [Option.map_some, Option.some.injEq, Prod.mk.injEq] at h
    exact ⟨i, rfl, h.1, h.2.1, h.2.2⟩
theorem make_pts (W : World) (n : Nat) (h : n ≤ 100000) : ∃ W', (Instr.makeSlice 49 (.int .i64 (n : Int)) (.int .i64 (n : Int))).run Try.prog W = .ok (.slice (some ⟨W.heap.size, 0, none⟩) n n) W' ∧ PO W' W.heap.size n (fun _ => p0) ∧ Below W.heap.size W W' ∧ W.heap.size < W'.heap.size := by
  obtain ⟨i0, hi, hz0, hz1, hz2⟩ := info_parts infoP
  obtain ⟨w1, hmk, hown, hgr⟩ := run_make_full (P := Try.prog) W W.heap.size 49 63 i0 _ 3 Try.underlying49 hi hz0 hz1 .i64 .i64 n (by rw [hz2]; omega) (by unfold maxLen; omega) (Nat.le_refl _)
  exact ⟨w1, hmk, po_made hown, below_none hgr, row_lt hown⟩
/-- How many points a polygon has for a point off the curve, and which. -/
def crvN (g : Nat → Pt) (n k : Nat) : Nat := if onB g ((k + 1) % n) then 3 else 4
def crvP (g : Nat → Pt) (n k t : Nat) : Pt := ⟨cv (endX g k (k - 1)) (g k).x (endX g k ((k + 1) % n)) t, cv (endY g k (k - 1)) (g k).y (endY g k ((k + 1) % n)) t, true⟩
theorem crvN_le (g : Nat → Pt) (n k : Nat) : 3 ≤ crvN g n k ∧ crvN g n k ≤ 4 := by unfold crvN; split <;> omega
theorem mv_new (V : World) (x y : Int) (T : TypeId) : (V.alloc (.cells #[.int .i64 x, .int .i64 y] T)).cell? ⟨V.heap.size, 0, none⟩ = some (.int .i64 x) ∧ (V.alloc (.cells #[.int .i64 x, .int .i64 y] T)).cell? ⟨V.heap.size, 1, none⟩ = some (.int .i64 y) := ⟨by go_cell, by go_cell⟩
/-- What curve has written after some rounds. -/
def crvK (g : Nat → Pt) (n k j i : Nat) : Pt := if i < j then crvP g n k (i + 1) else p0
theorem crvK_next (g : Nat → Pt) (n k j i : Nat) : crvK g n k (j + 1) i = if i = j then crvP g n k (j + 1) else crvK g n k j i := by
  unfold crvK
  by_cases h : i = j
  · subst h; rw [if_pos (by omega), if_pos rfl]
  · rw [if_neg h]
    by_cases h2 : i < j
    · rw [if_pos h2, if_pos (by omega)]
    · rw [if_neg h2, if_neg (by omega)]
theorem ms {N j : Nat} (h : j < N) : N - (intOf (.int .i64 ((j : Int) + 1))).toNat < N - (intOf (.int .i64 (j : Int))).toNat := by simp [intOf]; omega
def CvRel (w : World) (S : Nat) (g : Nat → Pt) (n k N : Nat) (v : Value) (V : World) : Prop := ∃ j : Nat, v = .int .i64 j ∧ j ≤ N ∧ PO V S N (crvK g n k j) ∧ Below w.heap.size w V ∧ w.heap.size ≤ S
end Go.Proofs.Ytjeiapgniflnaaa.Ot
namespace Go.Proofs.Ytjeiapgniflnaaa.Ot
open Go.RowKit
/-- The points of a polygon for one point. -/
def crv (g : Nat → Pt) (n k : Nat) : List Pt := (List.range (crvN g n k)).map fun i => crvP g n k (i + 1)
def on32 (p : Pt) : Pt := ⟨wrap64 (32 * p.x), wrap64 (32 * p.y), true⟩
def stepL (g : Nat → Pt) (n k : Nat) : List Pt := if onB g k then [on32 (g k)] else crv g n k
/-- The polygon of the first points. -/
def plK (g : Nat → Pt) (n : Nat) : Nat → List Pt
  | 0 => []
  | k + 1 => plK g n k ++ stepL g n k
def ptVs (p : Pt) : List Value := [.int .i64 p.x, .int .i64 p.y, .bool p.o]
def vals (l : List Pt) : List Value := l.flatMap ptVs
theorem vals_app (l m : List Pt) : vals (l ++ m) = vals l ++ vals m := by unfold vals; rw [List.flatMap_append]
theorem vals_len : ∀ (l : List Pt), (vals l).length = l.length * 3
  | [] => rfl
  | p :: l => by
    unfold vals
    rw [List.flatMap_cons, List.length_append, List.length_cons]
    have := vals_len l
    unfold vals at this
    rw [this]
    simp only [ptVs, List.length_cons, List.length_nil]
    omega
theorem vals_one : ∀ (l : List Pt), ∀ u ∈ vals l, u.oneCell' = true
  | [], u, h => by cases h
  | p :: l, u, h => by
    unfold vals at h
    rw [List.flatMap_cons, List.mem_append] at h
    rcases h with h | h
    · simp only [ptVs, List.mem_cons, List.not_mem_nil, or_false] at h
      rcases h with rfl | rfl | rfl <;> rfl
    · exact vals_one l u h
theorem vals_get : ∀ (l : List Pt) (i : Nat), i < l.length → (vals l)[i * 3]? = some (.int .i64 (l.getD i p0).x) ∧ (vals l)[i * 3 + 1]? = some (.int .i64 (l.getD i p0).y) ∧ (vals l)[i * 3 + 2]? = some (.bool (l.getD i p0).o)
  | [], i, h => absurd h (by simp)
  | p :: l, 0, _ => ⟨rfl, rfl, rfl⟩
  | p :: l, i + 1, h => by
    have ih := vals_get l i (by simpa using h)
    have e : ∀ r, (vals (p :: l))[(i + 1) * 3 + r]? = (vals l)[i * 3 + r]? := fun r => by
      unfold vals
      rw [List.flatMap_cons, List.getElem?_append_right (by simp [ptVs]; omega)]
      congr 1
      simp only [ptVs, List.length_cons, List.length_nil]
      omega
    refine ⟨?_, ?_, ?_⟩
    · have := e 0; simp only [Nat.add_zero] at this; rw [this]; exact ih.1
    · rw [e 1]; exact ih.2.1
    · rw [e 2]; exact ih.2.2
theorem crv_len (g : Nat → Pt) (n k : Nat) : (crv g n k).length = crvN g n k := by unfold crv; simp
theorem crv_get (g : Nat → Pt) (n k i : Nat) (h : i < crvN g n k) : (crv g n k).getD i p0 = crvP g n k (i + 1) := by
  unfold crv
  rw [List.getD_eq_getElem?_getD, List.getElem?_map, List.getElem?_range h]
  rfl
theorem step_le (g : Nat → Pt) (n k : Nat) : 1 ≤ (stepL g n k).length ∧ (stepL g n k).length ≤ 4 := by
  unfold stepL
  split
  · simp
  · rw [crv_len]; have := crvN_le g n k; omega
theorem plK_le (g : Nat → Pt) (n : Nat) : ∀ k, (plK g n k).length ≤ k * 4
  | 0 => by simp [plK]
  | k + 1 => by
    rw [plK, List.length_append]
    have := plK_le g n k
    have := (step_le g n k).2
    omega
/-- The points that stand in a block, as values. -/
theorem po_news {w : World} {S : Nat} {l : List Pt} {f : Nat → Pt} (h : PO w S l.length f) (e : ∀ i, i < l.length → l.getD i p0 = f i) : ∀ j u, (vals l)[j]? = some u → w.cell? ((⟨S, 0, none⟩ : Addr).add j) = some u := by
  intro j u hj
  have hlt : j < (vals l).length := (List.getElem?_eq_some_iff.1 hj).1
  rw [vals_len] at hlt
  have hi : j / 3 < l.length := by omega
  obtain ⟨v0, v1, v2⟩ := vals_get l (j / 3) hi
  obtain ⟨⟨c0, c1, c2⟩, _⟩ := h (j / 3) hi
  rw [e _ hi] at v0 v1 v2
  have ha : ∀ q : Nat, ((⟨S, 0, none⟩ : Addr).add q) = ⟨S, q, none⟩ := fun q => by simp [Addr.add]; omega
  rw [ha]
  have : j % 3 = 0 ∨ j % 3 = 1 ∨ j % 3 = 2 := by omega
  rcases this with hr | hr | hr
  · have ej : j = j / 3 * 3 := by omega
    rw [ej] at hj ⊢
    rw [v0] at hj
    cases hj
    exact c0
  · have ej : j = j / 3 * 3 + 1 := by omega
    rw [ej] at hj ⊢
    rw [v1] at hj
    cases hj
    exact c1
  · have ej : j = j / 3 * 3 + 2 := by omega
    rw [ej] at hj ⊢
    rw [v2] at hj
    cases hj
    exact c2
/-- What a value that owns points reads as. -/
theorem own_pa {V : World} {n₀ : Nat} {T : TypeId} {v : Value} {l : List Pt} (h : V.ownsRow n₀ T 3 v l.length (vals l)) :
    ∃ (a : Option Addr) (c : Nat), v = .slice a l.length c ∧ l.length ≤ c ∧ c ≤ 9223372036854775807 ∧ PA V a l.length (fun i => l.getD i p0) ∧ ∀ q, a = some q → 0 < l.length → n₀ ≤ q.block := by
  rcases h.2 with ⟨rfl, h0⟩ | ⟨b, cap, cur, rfl, hb, hh, hkc, hcm, _⟩
  · rw [h0]
    exact ⟨none, 0, rfl, Nat.le_refl _, by omega, fun i hi => absurd hi (by omega), fun q e => by cases e⟩
  · unfold maxLen at hcm
    refine ⟨some ⟨b, 0, none⟩, cap, rfl, hkc, by omega, fun i hi => ⟨b, 0, rfl, ?_⟩, fun q e _ => by cases e; exact hb⟩
    obtain ⟨h1, h2, h3⟩ := vals_get l i hi
    rw [Nat.zero_add]
    have hl := vals_len l
    exact ⟨by rw [h.cellAt _ (by omega)]; exact h1, by rw [h.cellAt _ (by omega)]; exact h2, by rw [h.cellAt _ (by omega)]; exact h3⟩
theorem news_pt (W : World) (p : Pt) (T : TypeId) : ∀ j u, (ptVs p)[j]? = some u → (W.alloc (.cells #[.int .i64 p.x, .int .i64 p.y, .bool p.o] T)).cell? ((⟨W.heap.size, 0, none⟩ : Addr).add j) = some u := by
  intro j u hj
  unfold ptVs at hj
  match j, hj with
  | 0, hj => simp at hj; subst hj; simp [Addr.add]
  | 1, hj => simp at hj; subst hj; simp [Addr.add]
  | 2, hj => simp at hj; subst hj; simp [Addr.add]
theorem gBo {w a v : World} {row : Option Nat} (h : Below w.heap.size w a) (g : a.grownBy v row) (hr : ∀ k, row = some k → w.heap.size ≤ k) : Below w.heap.size w v :=
  ⟨g.os.trans h.os, g.tape.trans h.tape, g.output.trans h.output, Nat.le_trans h.size g.size, fun i hi => (g.block i (Nat.lt_of_lt_of_le hi h.size) (fun e => by have := hr i e.symm; omega)).trans (h.block i hi)⟩
theorem own_keep {w V V' : World} {T : TypeId} {sz : Nat} {v : Value} {k : Nat} {xs : List Value} (h : V.ownsRow w.heap.size T sz v k xs) (hB : Below V.heap.size V V') : V'.ownsRow w.heap.size T sz v k xs := by
  refine h.kept (row := none) ⟨hB.os, hB.tape, hB.output, hB.size, fun i hi _ => hB.block i hi⟩ ?_
  rcases e : v.ownBlock with _ | g
  · exact .inl rfl
  · right
    intro h; cases h
def PlRel (w : World) (g : Nat → Pt) (n : Nat) (s3 s8 : Value) (V : World) : Prop :=
  ∃ k : Nat, s8 = .int .i64 k ∧ k ≤ n ∧ V.ownsRow w.heap.size 63 3 s3 (plK g n k).length (vals (plK g n k)) ∧ Below w.heap.size w V
end Go.Proofs.Ytjeiapgniflnaaa.Ot
namespace Go.Proofs.Ytjeiapgniflnaaa.Ot
open Go.RowKit
/-- An outline of a call's own: its lists in a block S, the points of each in a block of their own. -/
structure OO (w : World) (n₀ S N : Nat) (ns B : Nat → Nat) (g : Nat → Nat → Pt) : Prop where
  lo : n₀ ≤ S
  cell : ∀ k, k < N → ∃ a c, w.cell? ⟨S, k, none⟩ = some (.slice a (ns k) c) ∧ ns k ≤ c ∧ c ≤ 9223372036854775807 ∧ (0 < ns k → a = some ⟨B k, 0, none⟩)
  pts : ∀ k, k < N → PO w (B k) (ns k) (g k)
  far : ∀ k, k < N → 0 < ns k → n₀ ≤ B k ∧ B k ≠ S
  own : ∀ k l, k < N → l < N → 0 < ns k → 0 < ns l → B k = B l → k = l
theorem oo_below {w W : World} {n₀ S N : Nat} {ns B : Nat → Nat} {g : Nat → Nat → Pt} (h : OO w n₀ S N ns B g) (hB : Below w.heap.size w W) : OO W n₀ S N ns B g :=
  ⟨h.lo, fun k hk => by
    obtain ⟨a, c, e, h1, h2, h3⟩ := h.cell k hk
    exact ⟨a, c, kc hB e, h1, h2, h3⟩, fun k hk => po_below (h.pts k hk) hB, h.far, h.own⟩
theorem oo_ox {w : World} {n₀ S N : Nat} {ns B : Nat → Nat} {g : Nat → Nat → Pt} (h : OO w n₀ S N ns B g) : OX w (some ⟨S, 0, none⟩) N ns B (fun _ => 0) := fun k hk => by
  obtain ⟨a, c, e, h1, h2, h3⟩ := h.cell k hk
  exact ⟨S, 0, a, c, rfl, by rw [Nat.zero_add]; exact e, h1, h2, h3⟩
theorem oo_ot {w : World} {n₀ S N : Nat} {ns B : Nat → Nat} {g : Nat → Nat → Pt} (h : OO w n₀ S N ns B g) : OT w (some ⟨S, 0, none⟩) N ns g := fun k hk => by
  obtain ⟨a, c, e, h1, h2, h3⟩ := h.cell k hk
  refine ⟨S, 0, a, c, rfl, by rw [Nat.zero_add]; exact e, h1, h2, fun i hi => ?_⟩
  rw [h3 (by omega)]
  exact po_pa (h.pts k hk) i hi
theorem oo_congr {w : World} {n₀ S N : Nat} {ns B : Nat → Nat} {g g' : Nat → Nat → Pt} (h : OO w n₀ S N ns B g) (e : ∀ k, k < N → ∀ i, i < ns k → g k i = g' k i) : OO w n₀ S N ns B g' :=
  ⟨h.lo, h.cell, fun k hk => po_congr (h.pts k hk) (e k hk), h.far, h.own⟩
theorem oo_put {W : World} {r : Nat} {o : Obj} (o' : Obj) {n₀ S N : Nat} {ns B : Nat → Nat} {g : Nat → Nat → Pt} (ho : W.heap[r]? = some o) (hc : o.isCells = false) (h : OO W n₀ S N ns B g) : OO (W.putObj r o') n₀ S N ns B g :=
  ⟨h.lo, fun k hk => by
    obtain ⟨a, c, e, h1, h2, h3⟩ := h.cell k hk
    exact ⟨a, c, (put_cell o' ho hc e).1, h1, h2, h3⟩, fun k hk i hi => by
    obtain ⟨⟨h1, h2, h3⟩, f1, f2, f3⟩ := h.pts k hk i hi
    exact ⟨⟨(put_cell o' ho hc h1).1, (put_cell o' ho hc h2).1, (put_cell o' ho hc h3).1⟩, (put_cell o' ho hc h1).2.trans f1, (put_cell o' ho hc h2).2.trans f2, (put_cell o' ho hc h3).2.trans f3⟩, h.far, h.own⟩
theorem po_grown {w W : World} {b n r : Nat} {f : Nat → Pt} (h : PO w b n f) (hG : w.grownBy W (some r)) (hn : 0 < n → b ≠ r) : PO W b n f := fun i hi => by
  obtain ⟨⟨h1, h2, h3⟩, f1, f2, f3⟩ := h i hi
  have hn := hn (by omega)
  exact ⟨⟨gc hG h1 hn, gc hG h2 hn, gc hG h3 hn⟩, gf hG h1 f1 hn, gf hG h2 f2 hn, gf hG h3 f3 hn⟩
/-- The lists that may be written. -/
def SL (w : World) (S N : Nat) : Prop := ∀ j, j < N → (∃ v, w.cell? ⟨S, j, none⟩ = some v) ∧ w.frozen? ⟨S, j, none⟩ = false
theorem sl_below {w W : World} {S N : Nat} (h : SL w S N) (hB : Below w.heap.size w W) : SL W S N := fun j hj => by
  obtain ⟨⟨v, h1⟩, h2⟩ := h j hj
  exact ⟨⟨v, kc hB h1⟩, kf hB h1 h2⟩
theorem sl_set {w : World} {S N k : Nat} (h : SL w S N) (hk : k < N) (u : Value) : SL (w.setCell ⟨S, k, none⟩ u) S N := fun j hj => by
  obtain ⟨⟨v, h1⟩, h2⟩ := h j hj
  obtain ⟨⟨v', h1'⟩, h2'⟩ := h k hk
  by_cases e : j = k
  · subst e
    exact ⟨⟨u, by go_cell⟩, by go_cell⟩
  · have n1 : ¬ k = j := fun h => e h.symm
    exact ⟨⟨v, by go_cell⟩, by go_cell⟩
/-- One more list is stored. -/
theorem oo_next {V V' : World} {n₀ S k n c : Nat} {a : Option Addr} {b : Nat} {ns B : Nat → Nat} {g : Nat → Nat → Pt} {N : Nat} (h : OO V n₀ S k ns B g) (hS : SL V S N) (hkN : k < N) (hn0 : n₀ ≤ V.heap.size) (hB : Below V.heap.size V V')
    (hn : n = ns k) (hc : n ≤ c) (hc2 : c ≤ 9223372036854775807) (ha : 0 < n → a = some ⟨b, 0, none⟩) (hb : 0 < n → V.heap.size ≤ b) (hP : PO V' b n (g k)) :
    OO (V'.setCell ⟨S, k, none⟩ (.slice a n c)) n₀ S (k + 1) ns (fun j => if j = k then b else B j) g ∧ SL (V'.setCell ⟨S, k, none⟩ (.slice a n c)) S N := by
  subst hn
  have hS' := sl_below hS hB
  obtain ⟨⟨v, s1⟩, s2⟩ := hS' k hkN
  have hSlt : S < V.heap.size := by
    obtain ⟨⟨v, s1⟩, s2⟩ := hS k hkN
    exact block_lt_of_cell s1
  refine ⟨⟨h.lo, fun j hj => ?_, fun j hj => ?_, fun j hj h0 => ?_, fun j l hj hl h0 h1 e => ?_⟩, sl_set hS' hkN _⟩
  · by_cases e : j = k
    · subst e
      simp only [if_true]
      exact ⟨a, c, by go_cell, hc, hc2, ha⟩
    · obtain ⟨a', c', e1, h1, h2, h3⟩ := h.cell j (by omega)
      have e2 := kc hB e1
      have n1 : ¬ k = j := fun h => e h.symm
      simp only [if_neg e]
      exact ⟨a', c', by go_cell, h1, h2, h3⟩
  · by_cases e : j = k
    · subst e
      simp only [if_true]
      exact po_grown hP (gs (gr _ S) _) (fun h0 => by have := hb h0; omega)
    · simp only [if_neg e]
      exact po_grown (po_below (h.pts j (by omega)) hB) (gs (gr _ S) _) (fun h0 => (h.far j (by omega) h0).2)
  · by_cases e : j = k
    · subst e
      simp only [if_true]
      have := hb h0
      exact ⟨by omega, by omega⟩
    · simp only [if_neg e]
      exact h.far j (by omega) h0
  · have old : ∀ x, x < k → 0 < ns x → B x < V.heap.size := fun x hx h0 => block_lt_of_cell (h.pts x hx 0 h0).1.1
    by_cases ej : j = k
    · by_cases el : l = k
      · omega
      · subst ej
        simp only [if_true, if_neg el] at e
        have := hb h0
        have := old l (by omega) h1
        omega
    · by_cases el : l = k
      · subst el
        simp only [if_true, if_neg ej] at e
        have := hb h1
        have := old j (by omega) h0
        omega
      · simp only [if_neg ej, if_neg el] at e
        exact h.own j l (by omega) (by omega) h0 h1 e
theorem infoS : (Try.prog.info? 49).map (fun i => (i.zero, i.size, i.bytes)) = some (some (.slice none 0 0), 1, 24) := by kernel_rfl
theorem sl_made {W : World} {n₀ b m : Nat} (h : W.ownsRow n₀ 49 1 (.slice (some ⟨b, 0, none⟩) m m) m (madeCells #[.slice none 0 0] (m * 1)).toList) : SL W b m := by
  intro i hi
  have hlt : i < m * 1 := by omega
  refine ⟨⟨.slice none 0 0, ?_⟩, h.frozenAt _⟩
  rw [h.cellAt _ hlt]
  simp only [madeCells, Array.toList_map, Array.toList_range, List.getElem?_map, List.getElem?_range hlt, Option.map_some, List.size_toArray, List.length_cons, List.length_nil, Nat.zero_add]
  have : i % 1 = 0 := by omega
  rw [this]
  rfl
theorem make_lists (W : World) (n : Nat) (h : n ≤ 1000000) : ∃ W', (Instr.makeSlice 23 (.int .i64 (n : Int)) (.int .i64 (n : Int))).run Try.prog W = .ok (.slice (some ⟨W.heap.size, 0, none⟩) n n) W' ∧ SL W' W.heap.size n ∧ Below W.heap.size W W' ∧ W.heap.size < W'.heap.size := by
  obtain ⟨i0, hi, hz0, hz1, hz2⟩ := info_parts infoS
  obtain ⟨w1, hmk, hown, hgr⟩ := run_make_full (P := Try.prog) W W.heap.size 23 49 i0 _ 1 Try.underlying23 hi hz0 hz1 .i64 .i64 n (by rw [hz2]; omega) (by unfold maxLen; omega) (Nat.le_refl _)
  exact ⟨w1, hmk, sl_made hown, below_none hgr, row_lt hown⟩
/-- What a value that owns points reads as, with its block. -/
theorem own_po {V : World} {n₀ : Nat} {T : TypeId} {v : Value} {l : List Pt} (h : V.ownsRow n₀ T 3 v l.length (vals l)) :
    ∃ (a : Option Addr) (c b : Nat), v = .slice a l.length c ∧ l.length ≤ c ∧ c ≤ 9223372036854775807 ∧ PO V b l.length (fun i => l.getD i p0) ∧ (0 < l.length → a = some ⟨b, 0, none⟩) ∧ (0 < l.length → n₀ ≤ b) := by
  rcases h.2 with ⟨rfl, h0⟩ | ⟨b, cap, cur, rfl, hb, hh, hkc, hcm, _⟩
  · rw [h0]
    exact ⟨none, 0, 0, rfl, Nat.le_refl _, by omega, fun i hi => absurd hi (by omega), fun h => absurd h (by omega), fun h => absurd h (by omega)⟩
  · unfold maxLen at hcm
    refine ⟨some ⟨b, 0, none⟩, cap, b, rfl, hkc, by omega, fun i hi => ?_, fun _ => rfl, fun _ => hb⟩
    obtain ⟨h1, h2, h3⟩ := vals_get l i hi
    have hl := vals_len l
    exact ⟨⟨by rw [h.cellAt _ (by omega)]; exact h1, by rw [h.cellAt _ (by omega)]; exact h2, by rw [h.cellAt _ (by omega)]; exact h3⟩, h.frozenAt _, h.frozenAt _, h.frozenAt _⟩
def flN (ns : Nat → Nat) (g : Nat → Nat → Pt) (k : Nat) : Nat := (plK (g k) (ns k) (ns k)).length
def flP (ns : Nat → Nat) (g : Nat → Nat → Pt) (k i : Nat) : Pt := (plK (g k) (ns k) (ns k)).getD i p0
def FlRel (w : World) (S N : Nat) (ns : Nat → Nat) (g : Nat → Nat → Pt) (v : Value) (V : World) : Prop := ∃ (k : Nat) (B : Nat → Nat), v = .int .i64 (k : Int) ∧ k ≤ N ∧ OO V w.heap.size S k (flN ns g) B (flP ns g) ∧ SL V S N ∧ Below w.heap.size w V
end Go.Proofs.Ytjeiapgniflnaaa.Ot
namespace Go.Proofs.Ytjeiapgniflnaaa.Ot
open Go.RowKit
/-- The first points as a list. -/
def lst (g : Nat → Pt) (n : Nat) : List Pt := (List.range n).map g
theorem lst_len (g : Nat → Pt) (n : Nat) : (lst g n).length = n := by unfold lst; simp
theorem lst_get (g : Nat → Pt) (n i : Nat) (h : i < n) : (lst g n).getD i p0 = g i := by
  unfold lst
  rw [List.getD_eq_getElem?_getD, List.getElem?_map, List.getElem?_range h]
  rfl
/-- Points in memory, as values. -/
theorem pa_news {w : World} {ad : Addr} {n : Nat} {g : Nat → Pt} (h : PA w (some ad) n g) : ∀ j u, (vals (lst g n))[j]? = some u → w.cell? (ad.add j) = some u := by
  intro j u hj
  have hlt : j < (vals (lst g n)).length := (List.getElem?_eq_some_iff.1 hj).1
  rw [vals_len, lst_len] at hlt
  have hi : j / 3 < n := by omega
  obtain ⟨v0, v1, v2⟩ := vals_get (lst g n) (j / 3) (by rw [lst_len]; exact hi)
  obtain ⟨b, o, e, c0, c1, c2⟩ := h (j / 3) hi
  cases e
  rw [lst_get _ _ _ hi] at v0 v1 v2
  have ha : ∀ q : Nat, ((⟨b, o, none⟩ : Addr).add q) = ⟨b, o + q, none⟩ := fun q => by
    unfold Addr.add
    split
    · rename_i h0
      have h0' : q = 0 := by simpa using h0
      subst h0'
      rfl
    · rfl
  rw [ha]
  have : j % 3 = 0 ∨ j % 3 = 1 ∨ j % 3 = 2 := by omega
  rcases this with hr | hr | hr
  · have ej : j = j / 3 * 3 := by omega
    rw [ej] at hj ⊢
    rw [v0] at hj
    cases hj
    exact c0
  · have ej : j = j / 3 * 3 + 1 := by omega
    rw [ej] at hj ⊢
    rw [v1] at hj
    cases hj
    rw [← Nat.add_assoc]
    exact c1
  · have ej : j = j / 3 * 3 + 2 := by omega
    rw [ej] at hj ⊢
    rw [v2] at hj
    cases hj
    rw [← Nat.add_assoc]
    exact c2
/-- append of points to an empty slice of the call's own. -/
theorem wpList_all {ops : Array Oper} {rest : List Oper} {o : Oper} {a : Act} {W : World} {Q : Exit → Act → World → Prop} (S b n c : Nat) (ad : Addr) (g : Nat → Pt) (hgd : o.guard = none) (s x : Operand)
    (ho : o.op = .call { callee := .builtin .append, args := #[s, x], argTypes := #[49, 49] })
    (hs : a.eval s = .slice (some ⟨b, 0, none⟩) 0 0) (hx : a.eval x = .slice (some ad) n c)
    (hv : W.ownsRow S 63 3 (.slice (some ⟨b, 0, none⟩) 0 0) 0 []) (hD : PA W (some ad) n g) (hn : n ≤ 1000000) (hS : S ≤ W.heap.size)
    (hk : ∀ v' W', W'.ownsRow S 63 3 v' n (vals (lst g n)) → W.grownBy W' (some b) → wpList Try.prog ops Q rest (a.put o.dst v') W') : wpList Try.prog ops Q (o :: rest) a W := by
  refine wpList_plain hgd fun _ hK => ?_
  obtain ⟨i0, ki1, ki2, ki3, ki4⟩ := info_parts infoP
  obtain ⟨v', W', hr, h2, h3, _, _⟩ := run_append_own_at (P := Try.prog) W S 49 o.type 63 i0 _ 3 24 Try.underlying49 ki1 ki2 ki3 ki4 rfl (by decide) _ 0 [] hv ad n c (vals (lst g n)) (by rw [vals_len, lst_len]) (pa_news hD) (vals_one _) (by unfold maxLen; omega) (by omega) hS
  unfold Oper.wp execOp
  simp only [ho, resolve, invoke, builtin, Sem.run_bind, Sem.run_pure, Result.andThen_ok, List.map_toArray, List.map_cons, List.map_nil, hs, hx, hr]
  rw [Nat.zero_add, List.nil_append] at h2
  exact hK _ _ (hk v' W' h2 h3)
theorem own_lst {V : World} {n₀ n : Nat} {T : TypeId} {v : Value} {g : Nat → Pt} (h : V.ownsRow n₀ T 3 v n (vals (lst g n))) :
    ∃ (a : Option Addr) (c b : Nat), v = .slice a n c ∧ n ≤ c ∧ c ≤ 9223372036854775807 ∧ PO V b n g ∧ (0 < n → a = some ⟨b, 0, none⟩) ∧ (0 < n → n₀ ≤ b) := by
  have hl := lst_len g n
  have h' : V.ownsRow n₀ T 3 v (lst g n).length (vals (lst g n)) := by rw [hl]; exact h
  obtain ⟨a, c, b, e, h1, h2, h3, h4, h5⟩ := own_po h'
  rw [hl] at e h1 h3 h4 h5
  exact ⟨a, c, b, e, h1, h2, po_congr h3 (fun i hi => lst_get g n i hi), h4, h5⟩
end Go.Proofs.Ytjeiapgniflnaaa.Ot
namespace Go.Proofs.Ytjeiapgniflnaaa.Ot
open Go.RowKit Go.Shelf
attribute [local go_sem] Oper.semAt_some
theorem oo_set {V : World} {n₀ S N k i : Nat} {ns B : Nat → Nat} {g g' : Nat → Nat → Pt} {q : Pt} (h : OO V n₀ S N ns B g) (hk : k < N) (hi : i < ns k) (e : ∀ k', k' < N → ∀ i', i' < ns k' → g' k' i' = if k' = k ∧ i' = i then q else g k' i') :
    OO (((V.setCell ⟨B k, i * 3, none⟩ (.int .i64 q.x)).setCell ⟨B k, i * 3 + 1, none⟩ (.int .i64 q.y)).setCell ⟨B k, i * 3 + 2, none⟩ (.bool q.o)) n₀ S N ns B g' := by
  have hG : V.grownBy (((V.setCell ⟨B k, i * 3, none⟩ (.int .i64 q.x)).setCell ⟨B k, i * 3 + 1, none⟩ (.int .i64 q.y)).setCell ⟨B k, i * 3 + 2, none⟩ (.bool q.o)) (some (B k)) := gs (gs (gs (gr _ _) _) _) _
  have hS := (h.far k hk (by omega)).2
  refine ⟨h.lo, fun j hj => ?_, fun j hj => ?_, h.far, h.own⟩
  · obtain ⟨a, c, e1, h1, h2, h3⟩ := h.cell j hj
    exact ⟨a, c, gc hG e1 (Ne.symm hS), h1, h2, h3⟩
  · by_cases hjk : j = k
    · subst hjk
      refine po_congr (po_set (g := fun i' => if i' = i then q else g j i') (h.pts j hj) hi (fun _ => rfl)) (fun i' hi' => ?_)
      rw [e j hj i' hi']
      by_cases h' : i' = i
      · subst h'; simp
      · simp [h']
    · refine po_congr (po_grown (h.pts j hj) hG (fun h0 hb => hjk (h.own j k hj hk h0 (by omega) hb))) (fun i' hi' => ?_)
      rw [e j hj i' hi']
      simp [hjk]
/-- What changed has made behind some rounds. -/
def chG (ns : Nat → Nat) (f : Nat → Pt → Pt) (g : Nat → Nat → Pt) (j k i : Nat) : Pt := if pre ns k + i < j then f (pre ns k + i) (g k i) else g k i
structure CI (w : World) (cf : Nat) (lb : Array Value) (S X N : Nat) (ns B : Nat → Nat) (f : Nat → Pt → Pt) (g : Nat → Nat → Pt) (j : Nat) (V : World) : Prop where
  box : V.cell? ⟨w.heap.size, 0, none⟩ = some (.func (.func cf) #[] lb)
  oo : OO V w.heap.size S N ns B (chG ns f g j)
  it : V.cell? ⟨X, 0, none⟩ = some (.slice (some ⟨S, 0, none⟩) N N)
  be : Below w.heap.size w V
theorem ci_below {w V V' : World} {cf : Nat} {lb : Array Value} {S X N : Nat} {ns B : Nat → Nat} {f : Nat → Pt → Pt} {g : Nat → Nat → Pt} {j : Nat} (h : CI w cf lb S X N ns B f g j V) (hB : Below V.heap.size V V') : CI w cf lb S X N ns B f g j V' :=
  ⟨kc hB h.box, oo_below h.oo hB, kc hB h.it, bt h.be hB⟩
theorem ci_put {w V : World} {cf : Nat} {lb : Array Value} {S X N : Nat} {ns B : Nat → Nat} {f : Nat → Pt → Pt} {g : Nat → Nat → Pt} {j : Nat} {r : Nat} {o : Obj} (o' : Obj) (hr : w.heap.size ≤ r) (h : CI w cf lb S X N ns B f g j V) (ho : V.heap[r]? = some o) (hc : o.isCells = false) : CI w cf lb S X N ns B f g j (V.putObj r o') :=
  ⟨(put_cell o' ho hc h.box).1, oo_put o' ho hc h.oo, (put_cell o' ho hc h.it).1, below_put h.be hr o'⟩
theorem ci_next {w V V1 : World} {cf : Nat} {lb : Array Value} {S X N : Nat} {ns B : Nat → Nat} {f : Nat → Pt → Pt} {g : Nat → Nat → Pt} {j k i : Nat} (h : CI w cf lb S X N ns B f g j V) (hk : k < N) (hi : i < ns k) (hj : pre ns k + i = j) (hB : Below V.heap.size V V1) (V2 : World) {q : Pt} (hq : q = f j (g k i))
    (hV : V2 = ((V1.setCell ⟨B k, i * 3, none⟩ (.int .i64 q.x)).setCell ⟨B k, i * 3 + 1, none⟩ (.int .i64 q.y)).setCell ⟨B k, i * 3 + 2, none⟩ (.bool q.o)) :
    KeepsOthers V V2 ∧ CI w cf lb S X N ns B f g (j + 1) V2 := by
  subst hV
  have h1 := ci_below h hB
  obtain ⟨⟨c1, c2, c3⟩, _⟩ := h.oo.pts k hk i hi
  obtain ⟨⟨d1, d2, d3⟩, _⟩ := h1.oo.pts k hk 0 (by omega)
  have hlo := (h.oo.far k hk (by omega)).1
  have hG : V1.grownBy (((V1.setCell ⟨B k, i * 3, none⟩ (.int .i64 q.x)).setCell ⟨B k, i * 3 + 1, none⟩ (.int .i64 q.y)).setCell ⟨B k, i * 3 + 2, none⟩ (.bool q.o)) (some (B k)) := gs (gs (gs (gr _ _) _) _) _
  have n1 : w.heap.size ≠ B k := by
    intro e
    have := h1.box
    rw [e] at this
    simp only [Nat.zero_mul] at d1
    rw [this] at d1
    cases d1
  have n2 : X ≠ B k := by
    intro e
    have := h1.it
    rw [e] at this
    simp only [Nat.zero_mul] at d1
    rw [this] at d1
    cases d1
  refine ⟨gko (r := B k) (gs (gs (gs (gt (gr _ _) hB) _) _) _) c1, gc hG h1.box n1, oo_set h1.oo hk hi (fun k' hk' i' hi' => ?_), gc hG h1.it n2, bs (bs (bs h1.be hlo _) hlo _) hlo _⟩
  unfold chG
  by_cases e : k' = k ∧ i' = i
  · obtain ⟨rfl, rfl⟩ := e
    rw [if_pos (by omega), if_pos ⟨rfl, rfl⟩, hq, hj]
  · rw [if_neg e]
    have hne : pre ns k' + i' ≠ j := by
      intro he
      have e1 := loc_at ns hi' hk'
      have e2 := loc_at ns hi hk
      rw [he] at e1
      rw [hj, e1] at e2
      cases e2
      exact e ⟨rfl, rfl⟩
    by_cases hlt : pre ns k' + i' < j
    · rw [if_pos hlt, if_pos (by omega)]
    · rw [if_neg hlt, if_neg (by omega)]
theorem dB {w v : World} (h : Below w.drew.heap.size w.drew v) : Below w.heap.size w v := ⟨h.os, h.tape, h.output, h.size, h.block⟩
def ChRel (w : World) (cf : Nat) (lb : Array Value) (S N : Nat) (ns : Nat → Nat) (g : Nat → Nat → Pt) (v : Value) (V : World) : Prop :=
  ∃ (k : Nat) (B : Nat → Nat), v = .int .i64 (k : Int) ∧ k ≤ N ∧ V.cell? ⟨w.heap.size, 0, none⟩ = some (.func (.func cf) #[] lb) ∧ OO V w.heap.size S k ns B g ∧ SL V S N ∧ Below w.heap.size w V
theorem nil_oo (V : World) (n₀ S : Nat) (ns : Nat → Nat) (g : Nat → Nat → Pt) (h : n₀ ≤ S) : OO V n₀ S 0 ns (fun _ => 0) g :=
  ⟨h, fun k hk => absurd hk (by omega), fun k hk => absurd hk (by omega), fun k hk => absurd hk (by omega), fun k l hk => absurd hk (by omega)⟩
end Go.Proofs.Ytjeiapgniflnaaa.Ot
namespace Go.Proofs.Ytjeiapgniflnaaa.Ot
open Go.RowKit
theorem oo_lo {w : World} {n₀ n₁ S N : Nat} {ns B : Nat → Nat} {g : Nat → Nat → Pt} (h : OO w n₀ S N ns B g) (hn : n₁ ≤ n₀) : OO w n₁ S N ns B g :=
  ⟨Nat.le_trans hn h.lo, h.cell, h.pts, fun k hk h0 => ⟨Nat.le_trans hn (h.far k hk h0).1, (h.far k hk h0).2⟩, h.own⟩
def scP (n : Int) (p : Pt) : Pt := ⟨wrap64 (n * p.x), wrap64 (n * p.y), p.o⟩
def shP (x y : Int) (p : Pt) : Pt := ⟨wrap64 (p.x + x), wrap64 (p.y + y), p.o⟩
end Go.Proofs.Ytjeiapgniflnaaa.Ot
namespace Go.Proofs.Ytjeiapgniflnaaa.Ot
open Go.RowKit
theorem po_row {w W : World} {b n : Nat} {f : Nat → Pt} {row : Option Nat} (h : PO w b n f) (hG : w.grownBy W row) (hn : 0 < n → row ≠ some b) : PO W b n f := fun i hi => by
  obtain ⟨⟨h1, h2, h3⟩, f1, f2, f3⟩ := h i hi
  have hn := hn (by omega)
  have l1 := block_lt_of_cell h1
  have e : ∀ o, W.cell? ⟨b, o, none⟩ = w.cell? ⟨b, o, none⟩ := fun o => hG.cell_far ⟨b, o, none⟩ l1 (fun h => hn h.symm)
  have e2 : ∀ o, W.frozen? ⟨b, o, none⟩ = w.frozen? ⟨b, o, none⟩ := fun o => hG.frozen_far ⟨b, o, none⟩ l1 (fun h => hn h.symm)
  exact ⟨⟨(e _).trans h1, (e _).trans h2, (e _).trans h3⟩, (e2 _).trans f1, (e2 _).trans f2, (e2 _).trans f3⟩
/-- An outline that is being made: a slice of the call's own, each list in a block of its own. -/
structure MO (w V : World) (v : Value) (k : Nat) (xs : List Value) (ns B : Nat → Nat) (g : Nat → Nat → Pt) : Prop where
  ow : V.ownsRow w.heap.size 49 1 v k xs
  li : ∀ j, j < k → ∃ a c, xs[j]? = some (.slice a (ns j) c) ∧ ns j ≤ c ∧ c ≤ 9223372036854775807 ∧ (0 < ns j → a = some ⟨B j, 0, none⟩)
  pt : ∀ j, j < k → PO V (B j) (ns j) (g j)
  far : ∀ j, j < k → 0 < ns j → w.heap.size ≤ B j ∧ v.ownBlock ≠ some (B j)
  own : ∀ j l, j < k → l < k → 0 < ns j → 0 < ns l → B j = B l → j = l
  be : Below w.heap.size w V
theorem mo_nil (w : World) (ns : Nat → Nat) (g : Nat → Nat → Pt) : MO w w (.slice none 0 0) 0 [] ns (fun _ => 0) g :=
  ⟨World.ownsRow_nil _ _ _ _, fun k hk => absurd hk (by omega), fun k hk => absurd hk (by omega), fun k hk => absurd hk (by omega), fun k l hk => absurd hk (by omega), Below.refl _ _⟩
theorem mo_below {w V V' : World} {v : Value} {k : Nat} {xs : List Value} {ns B : Nat → Nat} {g : Nat → Nat → Pt} (h : MO w V v k xs ns B g) (hB : Below V.heap.size V V') : MO w V' v k xs ns B g :=
  ⟨own_keep h.ow hB, h.li, fun j hj => po_below (h.pt j hj) hB, h.far, h.own, bt h.be hB⟩
theorem mo_app {w V W W' : World} {v : Value} {k s cap : Nat} {xs : List Value} {ns B : Nat → Nat} {g : Nat → Nat → Pt} {a : Option Addr} {n c b : Nat} (h : MO w V v k xs ns B g) (hVW : Below V.heap.size V W)
    (hn : n = ns k) (hc : n ≤ c) (hc2 : c ≤ 9223372036854775807) (ha : 0 < n → a = some ⟨b, 0, none⟩) (hb : 0 < n → V.heap.size ≤ b) (hP : PO W b n (g k))
    (hown : W'.ownsRow w.heap.size 49 1 (.slice (some ⟨s, 0, none⟩) (k + 1) cap) (k + 1) (xs ++ [.slice a n c])) (hg : W.grownBy W' v.ownBlock) (hs : v.ownBlock = some s ∨ s = W.heap.size) :
    MO w W' (.slice (some ⟨s, 0, none⟩) (k + 1) cap) (k + 1) (xs ++ [.slice a n c]) ns (fun j => if j = k then b else B j) g := by
  subst hn
  have hlen : xs.length = k := by have := h.ow.1; omega
  have old : ∀ x, x < k → 0 < ns x → B x < V.heap.size := fun x hx h0 => block_lt_of_cell (h.pt x hx 0 h0).1.1
  have hrow : ∀ q, v.ownBlock = some q → w.heap.size ≤ q ∧ q < V.heap.size := fun q hq => h.ow.lt q hq
  have hw := h.be.size
  have hVs := hVW.size
  have hsl : w.heap.size ≤ s := by
    rcases hs with h1 | h1
    · exact (hrow s h1).1
    · omega
  refine ⟨hown, fun j hj => ?_, fun j hj => ?_, fun j hj h0 => ?_, fun j l hj hl h0 h1 e => ?_, gBo (bt h.be hVW) hg (fun q hq => (hrow q hq).1)⟩
  · by_cases e : j = k
    · subst e
      exact ⟨a, c, by rw [List.getElem?_append_right (by omega), hlen, Nat.sub_self]; rfl, hc, hc2, by simpa using ha⟩
    · obtain ⟨a', c', e1, h1, h2, h3⟩ := h.li j (by omega)
      exact ⟨a', c', by rw [List.getElem?_append_left (by omega)]; exact e1, h1, h2, by simpa only [if_neg e] using h3⟩
  · by_cases e : j = k
    · subst e
      simp only [if_true]
      exact po_row hP hg (fun h0 hq => by have := (hrow b hq).2; have := hb h0; omega)
    · simp only [if_neg e]
      exact po_row (po_below (h.pt j (by omega)) hVW) hg (fun h0 => (h.far j (by omega) h0).2)
  · have hne : ∀ q, q < W.heap.size → v.ownBlock ≠ some q → (Value.slice (some ⟨s, 0, none⟩) (k + 1) cap).ownBlock ≠ some q := by
      intro q hq hq2 he
      have : s = q := by simpa [Value.ownBlock] using he
      subst this
      rcases hs with h1 | h1
      · exact hq2 h1
      · omega
    by_cases e : j = k
    · subst e
      simp only [if_true]
      have hbl := hb h0
      have hlt : b < W.heap.size := block_lt_of_cell (hP 0 h0).1.1
      exact ⟨by omega, hne b hlt (fun hq => by have := (hrow b hq).2; omega)⟩
    · simp only [if_neg e]
      obtain ⟨f1, f2⟩ := h.far j (by omega) h0
      have := old j (by omega) h0
      exact ⟨f1, hne _ (by omega) f2⟩
  · by_cases ej : j = k
    · by_cases el : l = k
      · omega
      · subst ej
        simp only [if_true, if_neg el] at e
        have := hb h0
        have := old l (by omega) h1
        omega
    · by_cases el : l = k
      · subst el
        simp only [if_true, if_neg ej] at e
        have := hb h1
        have := old j (by omega) h0
        omega
      · simp only [if_neg ej, if_neg el] at e
        exact h.own j l (by omega) (by omega) h0 h1 e
/-- What a value that owns an outline reads as. -/
theorem mo_oo {w V : World} {v : Value} {N : Nat} {xs : List Value} {ns B : Nat → Nat} {g : Nat → Nat → Pt} (h : MO w V v N xs ns B g) :
    ∃ (a : Option Addr) (c S : Nat), v = .slice a N c ∧ N ≤ c ∧ c ≤ 9223372036854775807 ∧ (0 < N → a = some ⟨S, 0, none⟩) ∧ OO V w.heap.size S N ns B g ∧ SL V S N := by
  rcases h.ow.2 with ⟨rfl, rfl⟩ | ⟨b, cap, cur, rfl, hb, hh, hkc, hcm, _⟩
  · exact ⟨none, 0, w.heap.size, rfl, Nat.le_refl _, by omega, fun h => absurd h (by omega), ⟨Nat.le_refl _, fun k hk => absurd hk (by omega), fun k hk => absurd hk (by omega), fun k hk => absurd hk (by omega), fun k l hk => absurd hk (by omega)⟩, fun j hj => absurd hj (by omega)⟩
  · unfold maxLen at hcm
    refine ⟨some ⟨b, 0, none⟩, cap, b, rfl, hkc, by omega, fun _ => rfl, ⟨hb, fun k hk => ?_, h.pt, fun k hk h0 => ⟨(h.far k hk h0).1, fun e => (h.far k hk h0).2 (by simp [Value.ownBlock, e])⟩, h.own⟩, fun j hj => ?_⟩
    · obtain ⟨a, c, e, h1, h2, h3⟩ := h.li k hk
      exact ⟨a, c, by rw [h.ow.cellAt _ (by omega)]; exact e, h1, h2, h3⟩
    · obtain ⟨a, c, e, h1, h2, h3⟩ := h.li j hj
      exact ⟨⟨_, by rw [h.ow.cellAt _ (by omega)]; exact e⟩, h.ow.frozenAt _⟩
theorem oo_ot2 {w : World} {n₀ S N : Nat} {ns B : Nat → Nat} {g : Nat → Nat → Pt} {a : Option Addr} (h : OO w n₀ S N ns B g) (ha : 0 < N → a = some ⟨S, 0, none⟩) : OT w a N ns g := fun k hk => by
  rw [ha (by omega)]
  exact oo_ot h k hk
theorem run_all_none (W : World) (b c : Nat) (T : TypeId) : (Builtin.append_ #[49, 49] T #[.slice (some ⟨b, 0, none⟩) 0 0, .slice none 0 c]).run Try.prog W = .ok (.slice (some ⟨b, 0, none⟩) 0 0) W := by
  obtain ⟨i0, ki1, ki2, ki3, ki4⟩ := info_parts infoP
  simp [Builtin.append_, run_underlying Try.underlying49, sizeOf, typeInfo, ki1, Builtin.lenOf, Builtin.firstCells, loadCells, loadCellsFrom, storeCells]
/-- append of points to an empty slice of the call's own, nil or not. -/
theorem wpList_all2 {ops : Array Oper} {rest : List Oper} {o : Oper} {a : Act} {W : World} {Q : Exit → Act → World → Prop} (S b n c : Nat) (ad : Option Addr) (g : Nat → Pt) (hgd : o.guard = none) (s x : Operand)
    (ho : o.op = .call { callee := .builtin .append, args := #[s, x], argTypes := #[49, 49] })
    (hs : a.eval s = .slice (some ⟨b, 0, none⟩) 0 0) (hx : a.eval x = .slice ad n c)
    (hv : W.ownsRow S 63 3 (.slice (some ⟨b, 0, none⟩) 0 0) 0 []) (hD : PA W ad n g) (hn : n ≤ 1000000) (hS : S ≤ W.heap.size)
    (hk : ∀ a' c' b' W', n ≤ c' → c' ≤ 9223372036854775807 → PO W' b' n g → (0 < n → a' = some ⟨b', 0, none⟩) → (0 < n → S ≤ b') → W.grownBy W' (some b) → wpList Try.prog ops Q rest (a.put o.dst (.slice a' n c')) W') : wpList Try.prog ops Q (o :: rest) a W := by
  rcases ad with _ | ad
  · have h0 : n = 0 := by
      rcases Nat.eq_zero_or_pos n with h | h
      · exact h
      · obtain ⟨b, o, e, _⟩ := hD 0 h
        cases e
    subst h0
    refine wpList_plain hgd fun _ hK => ?_
    have hr := run_all_none W b c o.type
    unfold Oper.wp execOp
    simp only [ho, resolve, invoke, builtin, Sem.run_bind, Sem.run_pure, Result.andThen_ok, List.map_toArray, List.map_cons, List.map_nil, hs, hx, hr]
    exact hK _ _ (hk (some ⟨b, 0, none⟩) 0 b W (by omega) (by omega) (fun i hi => absurd hi (by omega)) (fun h => absurd h (by omega)) (fun h => absurd h (by omega)) (gr _ _))
  · refine wpList_all S b n c ad g hgd s x ho hs hx hv hD hn hS (fun v' W' hown hg => ?_)
    obtain ⟨a', c', b', rfl, q1, q2, q3, q4, q5⟩ := own_lst hown
    exact hk a' c' b' W' q1 q2 q3 q4 q5 hg
theorem news_one (W : World) (v : Value) (T : TypeId) : ∀ j u, [v][j]? = some u → (W.alloc (.cells #[v] T)).cell? ((⟨W.heap.size, 0, none⟩ : Addr).add j) = some u := by
  intro j u hj
  match j, hj with
  | 0, hj => simp at hj; subst hj; simp [Addr.add]
def CpRel (w : World) (N : Nat) (ns : Nat → Nat) (g : Nat → Nat → Pt) (s3 s4 : Value) (V : World) : Prop := ∃ (k : Nat) (xs : List Value) (B : Nat → Nat), s4 = .int .i64 (k : Int) ∧ k ≤ N ∧ MO w V s3 k xs ns B g
end Go.Proofs.Ytjeiapgniflnaaa.Ot
namespace Go.Proofs.Ytjeiapgniflnaaa.Ot
open Go.RowKit
theorem grO (w : World) (r : Option Nat) : w.grownBy w r := ⟨rfl, rfl, rfl, Nat.le_refl _, fun _ _ _ => rfl⟩
theorem gaO {a w : World} {r : Option Nat} (h : a.grownBy w r) (o : Obj) : a.grownBy (w.alloc o) r := gt h (ba (Below.refl _ _) o)
theorem gdO {a w : World} {r : Option Nat} (h : a.grownBy w.drew r) : a.grownBy w r := ⟨h.os, h.tape, h.output, h.size, h.block⟩
theorem far {V V' : World} {row : Option Nat} {b o : Nat} {v : Value} (h : V.grownBy V' row) (hb : row ≠ some b) (hc : V.cell? ⟨b, o, none⟩ = some v) : V'.cell? ⟨b, o, none⟩ = some v :=
  (h.cell_far ⟨b, o, none⟩ (block_lt_of_cell hc) (fun e => hb e.symm)).trans hc
theorem own_drew {w : World} {S n e sz : Nat} {v : Value} {xs : List Value} (h : w.ownsRow S e sz v n xs) : w.drew.ownsRow S e sz v n xs := h
/-- The first points of a curve. -/
def crvL (g : Nat → Pt) (n k j : Nat) : List Pt := (List.range j).map fun i => crvP g n k (i + 1)
theorem crvL_all (g : Nat → Pt) (n k : Nat) : crvL g n k (crvN g n k) = crv g n k := rfl
theorem crvL_next (g : Nat → Pt) (n k j : Nat) : crvL g n k (j + 1) = crvL g n k j ++ [crvP g n k (j + 1)] := by unfold crvL; rw [List.range_succ, List.map_append]; rfl
theorem crvL_len (g : Nat → Pt) (n k j : Nat) : (crvL g n k j).length = j := by unfold crvL; simp
def RpRel (w : World) (g : Nat → Pt) (n : Nat) (s3 s4 : Value) (V : World) : Prop :=
  ∃ k : Nat, s4 = .int .i64 k ∧ k ≤ n ∧ V.ownsRow w.heap.size 63 3 s3 (plK g n k).length (vals (plK g n k)) ∧ Below w.heap.size w V
def RqRel (w W0 : World) (row0 : Option Nat) (l : List Pt) (g : Nat → Pt) (n k N : Nat) (s3 s9 : Value) (V : World) : Prop :=
  ∃ j : Nat, s9 = .int .i64 ((j : Int) + 1) ∧ j ≤ N ∧ V.ownsRow w.heap.size 63 3 s3 (l.length + j) (vals (l ++ crvL g n k j)) ∧ W0.grownBy V row0 ∧ (s3.ownBlock = row0 ∨ ∃ q, s3.ownBlock = some q ∧ W0.heap.size ≤ q)
end Go.Proofs.Ytjeiapgniflnaaa.Ot
