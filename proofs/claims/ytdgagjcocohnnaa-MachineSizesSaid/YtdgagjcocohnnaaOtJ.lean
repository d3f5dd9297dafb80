/-
  Layer 6 (outline): outlines that a call makes; Flat and Clone of the program.
-/
import Derived.Test.YtdgagjcocohnnaaOtI
namespace Go.Proofs.Ytdgagjcocohnnaa.Ot
open Go.RowKit
/-- An outline of a call's own: its lists in a block S, the points of each in a block of their own. -/
structure OO (w : World) (n₀ S N : Nat) (ns B : Nat → Nat) (g : Nat → Nat → Pt) : Prop where
  lo : n₀ ≤ S
  cell : ∀ k, k < N → ∃ a c, w.cell? ⟨S, k, none⟩ = some (.slice a (ns k) c) ∧ ns k ≤ c ∧ c ≤ 9223372036854775807 ∧ (0 < ns k → a = some ⟨B k, 0, none⟩)
  pts : ∀ k, k < N → PO w (B k) (ns k) (g k)
  far : ∀ k, k < N → 0 < ns k → n₀ ≤ B k ∧ B k ≠ S
  own : ∀ k l, k < N → l < N → 0 < ns k → 0 < ns l → B k = B l → k = l
theorem oo_below {w W : World} {n₀ S N : Nat} {ns B : Nat → Nat} {g : Nat → Nat → Pt} (h : OO w n₀ S N ns B g) (hB : Below w.heap.size w W) : OO W n₀ S N ns B g :=
  ⟨h.lo, fun k hk => by
    obtain ⟨a, c, e, h1, h2, h3⟩ := h.cell k hk
    exact ⟨a, c, kc hB e, h1, h2, h3⟩, fun k hk => po_below (h.pts k hk) hB, h.far, h.own⟩
theorem oo_ox {w : World} {n₀ S N : Nat} {ns B : Nat → Nat} {g : Nat → Nat → Pt} (h : OO w n₀ S N ns B g) : OX w (some ⟨S, 0, none⟩) N ns B (fun _ => 0) := fun k hk => by
  obtain ⟨a, c, e, h1, h2, h3⟩ := h.cell k hk
  exact ⟨S, 0, a, c, rfl, by rw [Nat.zero_add]; exact e, h1, h2, h3⟩
theorem oo_ot {w : World} {n₀ S N : Nat} {ns B : Nat → Nat} {g : Nat → Nat → Pt} (h : OO w n₀ S N ns B g) : OT w (some ⟨S, 0, none⟩) N ns g := fun k hk => by
  obtain ⟨a, c, e, h1, h2, h3⟩ := h.cell k hk
  refine ⟨S, 0, a, c, rfl, by rw [Nat.zero_add]; exact e, h1, h2, fun i hi => ?_⟩
  rw [h3 (by omega)]
  exact po_pa (h.pts k hk) i hi
theorem oo_congr {w : World} {n₀ S N : Nat} {ns B : Nat → Nat} {g g' : Nat → Nat → Pt} (h : OO w n₀ S N ns B g) (e : ∀ k, k < N → ∀ i, i < ns k → g k i = g' k i) : OO w n₀ S N ns B g' :=
  ⟨h.lo, h.cell, fun k hk => po_congr (h.pts k hk) (e k hk), h.far, h.own⟩
theorem oo_put {W : World} {r : Nat} {o : Obj} (o' : Obj) {n₀ S N : Nat} {ns B : Nat → Nat} {g : Nat → Nat → Pt} (ho : W.heap[r]? = some o) (hc : o.isCells = false) (h : OO W n₀ S N ns B g) : OO (W.putObj r o') n₀ S N ns B g :=
  ⟨h.lo, fun k hk => by
    obtain ⟨a, c, e, h1, h2, h3⟩ := h.cell k hk
    exact ⟨a, c, (put_cell o' ho hc e).1, h1, h2, h3⟩, fun k hk i hi => by
    obtain ⟨⟨h1, h2, h3⟩, f1, f2, f3⟩ := h.pts k hk i hi
    exact ⟨⟨(put_cell o' ho hc h1).1, (put_cell o' ho hc h2).1, (put_cell o' ho hc h3).1⟩, (put_cell o' ho hc h1).2.trans f1, (put_cell o' ho hc h2).2.trans f2, (put_cell o' ho hc h3).2.trans f3⟩, h.far, h.own⟩
theorem po_grown {w W : World} {b n r : Nat} {f : Nat → Pt} (h : PO w b n f) (hG : w.grownBy W (some r)) (hn : 0 < n → b ≠ r) : PO W b n f := fun i hi => by
  obtain ⟨⟨h1, h2, h3⟩, f1, f2, f3⟩ := h i hi
  have hn := hn (by omega)
  exact ⟨⟨gc hG h1 hn, gc hG h2 hn, gc hG h3 hn⟩, gf hG h1 f1 hn, gf hG h2 f2 hn, gf hG h3 f3 hn⟩
/-- The lists that may be written. -/
def SL (w : World) (S N : Nat) : Prop := ∀ j, j < N → (∃ v, w.cell? ⟨S, j, none⟩ = some v) ∧ w.frozen? ⟨S, j, none⟩ = false
theorem sl_below {w W : World} {S N : Nat} (h : SL w S N) (hB : Below w.heap.size w W) : SL W S N := fun j hj => by
  obtain ⟨⟨v, h1⟩, h2⟩ := h j hj
  exact ⟨⟨v, kc hB h1⟩, kf hB h1 h2⟩
theorem sl_set {w : World} {S N k : Nat} (h : SL w S N) (hk : k < N) (u : Value) : SL (w.setCell ⟨S, k, none⟩ u) S N := fun j hj => by
  obtain ⟨⟨v, h1⟩, h2⟩ := h j hj
  obtain ⟨⟨v', h1'⟩, h2'⟩ := h k hk
  by_cases e : j = k
  · subst e
    exact ⟨⟨u, by go_cell⟩, by go_cell⟩
  · have n1 : ¬ k = j := fun h => e h.symm
    exact ⟨⟨v, by go_cell⟩, by go_cell⟩
/-- One more list is stored. -/
theorem oo_next {V V' : World} {n₀ S k n c : Nat} {a : Option Addr} {b : Nat} {ns B : Nat → Nat} {g : Nat → Nat → Pt} {N : Nat} (h : OO V n₀ S k ns B g) (hS : SL V S N) (hkN : k < N) (hn0 : n₀ ≤ V.heap.size) (hB : Below V.heap.size V V')
    (hn : n = ns k) (hc : n ≤ c) (hc2 : c ≤ 9223372036854775807) (ha : 0 < n → a = some ⟨b, 0, none⟩) (hb : 0 < n → V.heap.size ≤ b) (hP : PO V' b n (g k)) :
    OO (V'.setCell ⟨S, k, none⟩ (.slice a n c)) n₀ S (k + 1) ns (fun j => if j = k then b else B j) g ∧ SL (V'.setCell ⟨S, k, none⟩ (.slice a n c)) S N := by
  subst hn
  have hS' := sl_below hS hB
  obtain ⟨⟨v, s1⟩, s2⟩ := hS' k hkN
  have hSlt : S < V.heap.size := by
    obtain ⟨⟨v, s1⟩, s2⟩ := hS k hkN
    exact block_lt_of_cell s1
  refine ⟨⟨h.lo, fun j hj => ?_, fun j hj => ?_, fun j hj h0 => ?_, fun j l hj hl h0 h1 e => ?_⟩, sl_set hS' hkN _⟩
  · by_cases e : j = k
    · subst e
      simp only [if_true]
      exact ⟨a, c, by go_cell, hc, hc2, ha⟩
    · obtain ⟨a', c', e1, h1, h2, h3⟩ := h.cell j (by omega)
      have e2 := kc hB e1
      have n1 : ¬ k = j := fun h => e h.symm
      simp only [if_neg e]
      exact ⟨a', c', by go_cell, h1, h2, h3⟩
  · by_cases e : j = k
    · subst e
      simp only [if_true]
      exact po_grown hP (gs (gr _ S) _) (fun h0 => by have := hb h0; omega)
    · simp only [if_neg e]
      exact po_grown (po_below (h.pts j (by omega)) hB) (gs (gr _ S) _) (fun h0 => (h.far j (by omega) h0).2)
  · by_cases e : j = k
    · subst e
      simp only [if_true]
      have := hb h0
      exact ⟨by omega, by omega⟩
    · simp only [if_neg e]
      exact h.far j (by omega) h0
  · have old : ∀ x, x < k → 0 < ns x → B x < V.heap.size := fun x hx h0 => block_lt_of_cell (h.pts x hx 0 h0).1.1
    by_cases ej : j = k
    · by_cases el : l = k
      · omega
      · subst ej
        simp only [if_true, if_neg el] at e
        have := hb h0
        have := old l (by omega) h1
        omega
    · by_cases el : l = k
      · subst el
        simp only [if_true, if_neg ej] at e
        have := hb h1
        have := old j (by omega) h0
        omega
      · simp only [if_neg ej, if_neg el] at e
        exact h.own j l (by omega) (by omega) h0 h1 e
theorem infoS : (Try.prog.info? 32).map (fun i => (i.zero, i.size, i.bytes)) = some (some (.slice none 0 0), 1, 24) := by kernel_rfl
theorem sl_made {W : World} {n₀ b m : Nat} (h : W.ownsRow n₀ 32 1 (.slice (some ⟨b, 0, none⟩) m m) m (madeCells #[.slice none 0 0] (m * 1)).toList) : SL W b m := by
  intro i hi
  have hlt : i < m * 1 := by omega
  refine ⟨⟨.slice none 0 0, ?_⟩, h.frozenAt _⟩
  rw [h.cellAt _ hlt]
  simp only [madeCells, Array.toList_map, Array.toList_range, List.getElem?_map, List.getElem?_range hlt, Option.map_some, List.size_toArray, List.length_cons, List.length_nil, Nat.zero_add]
  have : i % 1 = 0 := by omega
  rw [this]
  rfl
theorem make_lists (W : World) (n : Nat) (h : n ≤ 1000000) : ∃ W', (Instr.makeSlice 28 (.int .i64 (n : Int)) (.int .i64 (n : Int))).run Try.prog W = .ok (.slice (some ⟨W.heap.size, 0, none⟩) n n) W' ∧ SL W' W.heap.size n ∧ Below W.heap.size W W' ∧ W.heap.size < W'.heap.size := by
  obtain ⟨i0, hi, hz0, hz1, hz2⟩ := info_parts infoS
  obtain ⟨w1, hmk, hown, hgr⟩ := run_make_full (P := Try.prog) W W.heap.size 28 32 i0 _ 1 Try.underlying28 hi hz0 hz1 .i64 .i64 n (by rw [hz2]; omega) (by unfold maxLen; omega) (Nat.le_refl _)
  exact ⟨w1, hmk, sl_made hown, below_none hgr, row_lt hown⟩
/-- What a value that owns points reads as, with its block. -/
theorem own_po {V : World} {n₀ : Nat} {T : TypeId} {v : Value} {l : List Pt} (h : V.ownsRow n₀ T 3 v l.length (vals l)) :
    ∃ (a : Option Addr) (c b : Nat), v = .slice a l.length c ∧ l.length ≤ c ∧ c ≤ 9223372036854775807 ∧ PO V b l.length (fun i => l.getD i p0) ∧ (0 < l.length → a = some ⟨b, 0, none⟩) ∧ (0 < l.length → n₀ ≤ b) := by
  rcases h.2 with ⟨rfl, h0⟩ | ⟨b, cap, cur, rfl, hb, hh, hkc, hcm, _⟩
  · rw [h0]
    exact ⟨none, 0, 0, rfl, Nat.le_refl _, by omega, fun i hi => absurd hi (by omega), fun h => absurd h (by omega), fun h => absurd h (by omega)⟩
  · unfold maxLen at hcm
    refine ⟨some ⟨b, 0, none⟩, cap, b, rfl, hkc, by omega, fun i hi => ?_, fun _ => rfl, fun _ => hb⟩
    obtain ⟨h1, h2, h3⟩ := vals_get l i hi
    have hl := vals_len l
    exact ⟨⟨by rw [h.cellAt _ (by omega)]; exact h1, by rw [h.cellAt _ (by omega)]; exact h2, by rw [h.cellAt _ (by omega)]; exact h3⟩, h.frozenAt _, h.frozenAt _, h.frozenAt _⟩
def flN (ns : Nat → Nat) (g : Nat → Nat → Pt) (k : Nat) : Nat := (plK (g k) (ns k) (ns k)).length
def flP (ns : Nat → Nat) (g : Nat → Nat → Pt) (k i : Nat) : Pt := (plK (g k) (ns k) (ns k)).getD i p0
def FlRel (w : World) (S N : Nat) (ns : Nat → Nat) (g : Nat → Nat → Pt) (v : Value) (V : World) : Prop := ∃ (k : Nat) (B : Nat → Nat), v = .int .i64 (k : Int) ∧ k ≤ N ∧ OO V w.heap.size S k (flN ns g) B (flP ns g) ∧ SL V S N ∧ Below w.heap.size w V
end Go.Proofs.Ytdgagjcocohnnaa.Ot
