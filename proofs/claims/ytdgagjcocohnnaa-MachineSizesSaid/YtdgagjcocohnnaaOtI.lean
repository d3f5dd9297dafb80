/-
  Layer 6 (outline): polygons of the program.
-/
import Derived.Test.YtdgagjcocohnnaaOtH
namespace Go.Proofs.Ytdgagjcocohnnaa.Ot
open Go.RowKit
/-- The points of a polygon for one point. -/
def crv (g : Nat → Pt) (n k : Nat) : List Pt := (List.range (crvN g n k)).map fun i => crvP g n k (i + 1)
def on32 (p : Pt) : Pt := ⟨wrap64 (32 * p.x), wrap64 (32 * p.y), true⟩
def stepL (g : Nat → Pt) (n k : Nat) : List Pt := if onB g k then [on32 (g k)] else crv g n k
/-- The polygon of the first points. -/
def plK (g : Nat → Pt) (n : Nat) : Nat → List Pt
  | 0 => []
  | k + 1 => plK g n k ++ stepL g n k
def ptVs (p : Pt) : List Value := [.int .i64 p.x, .int .i64 p.y, .bool p.o]
def vals (l : List Pt) : List Value := l.flatMap ptVs
theorem vals_app (l m : List Pt) : vals (l ++ m) = vals l ++ vals m := by unfold vals; rw [List.flatMap_append]
theorem vals_len : ∀ (l : List Pt), (vals l).length = l.length * 3
  | [] => rfl
  | p :: l => by
    unfold vals
    rw [List.flatMap_cons, List.length_append, List.length_cons]
    have := vals_len l
    unfold vals at this
    rw [this]
    simp only [ptVs, List.length_cons, List.length_nil]
    omega
theorem vals_one : ∀ (l : List Pt), ∀ u ∈ vals l, u.oneCell' = true
  | [], u, h => by cases h
  | p :: l, u, h => by
    unfold vals at h
    rw [List.flatMap_cons, List.mem_append] at h
    rcases h with h | h
    · simp only [ptVs, List.mem_cons, List.not_mem_nil, or_false] at h
      rcases h with rfl | rfl | rfl <;> rfl
    · exact vals_one l u h
theorem vals_get : ∀ (l : List Pt) (i : Nat), i < l.length → (vals l)[i * 3]? = some (.int .i64 (l.getD i p0).x) ∧ (vals l)[i * 3 + 1]? = some (.int .i64 (l.getD i p0).y) ∧ (vals l)[i * 3 + 2]? = some (.bool (l.getD i p0).o)
  | [], i, h => absurd h (by simp)
  | p :: l, 0, _ => ⟨rfl, rfl, rfl⟩
  | p :: l, i + 1, h => by
    have ih := vals_get l i (by simpa using h)
    have e : ∀ r, (vals (p :: l))[(i + 1) * 3 + r]? = (vals l)[i * 3 + r]? := fun r => by
      unfold vals
      rw [List.flatMap_cons, List.getElem?_append_right (by simp [ptVs]; omega)]
      congr 1
      simp only [ptVs, List.length_cons, List.length_nil]
      omega
    refine ⟨?_, ?_, ?_⟩
    · have := e 0; simp only [Nat.add_zero] at this; rw [this]; exact ih.1
    · rw [e 1]; exact ih.2.1
    · rw [e 2]; exact ih.2.2
theorem crv_len (g : Nat → Pt) (n k : Nat) : (crv g n k).length = crvN g n k := by unfold crv; simp
theorem crv_get (g : Nat → Pt) (n k i : Nat) (h : i < crvN g n k) : (crv g n k).getD i p0 = crvP g n k (i + 1) := by
  unfold crv
  rw [List.getD_eq_getElem?_getD, List.getElem?_map, List.getElem?_range h]
  rfl
theorem step_le (g : Nat → Pt) (n k : Nat) : 1 ≤ (stepL g n k).length ∧ (stepL g n k).length ≤ 4 := by
  unfold stepL
  split
  · simp
  · rw [crv_len]; have := crvN_le g n k; omega
theorem plK_le (g : Nat → Pt) (n : Nat) : ∀ k, (plK g n k).length ≤ k * 4
  | 0 => by simp [plK]
  | k + 1 => by
    rw [plK, List.length_append]
    have := plK_le g n k
    have := (step_le g n k).2
    omega
/-- The points that stand in a block, as values. -/
theorem po_news {w : World} {S : Nat} {l : List Pt} {f : Nat → Pt} (h : PO w S l.length f) (e : ∀ i, i < l.length → l.getD i p0 = f i) : ∀ j u, (vals l)[j]? = some u → w.cell? ((⟨S, 0, none⟩ : Addr).add j) = some u := by
  intro j u hj
  have hlt : j < (vals l).length := (List.getElem?_eq_some_iff.1 hj).1
  rw [vals_len] at hlt
  have hi : j / 3 < l.length := by omega
  obtain ⟨v0, v1, v2⟩ := vals_get l (j / 3) hi
  obtain ⟨⟨c0, c1, c2⟩, _⟩ := h (j / 3) hi
  rw [e _ hi] at v0 v1 v2
  have ha : ∀ q : Nat, ((⟨S, 0, none⟩ : Addr).add q) = ⟨S, q, none⟩ := fun q => by simp [Addr.add]; omega
  rw [ha]
  have : j % 3 = 0 ∨ j % 3 = 1 ∨ j % 3 = 2 := by omega
  rcases this with hr | hr | hr
  · have ej : j = j / 3 * 3 := by omega
    rw [ej] at hj ⊢
    rw [v0] at hj
    cases hj
    exact c0
  · have ej : j = j / 3 * 3 + 1 := by omega
    rw [ej] at hj ⊢
    rw [v1] at hj
    cases hj
    exact c1
  · have ej : j = j / 3 * 3 + 2 := by omega
    rw [ej] at hj ⊢
    rw [v2] at hj
    cases hj
    exact c2
/-- What a value that owns points reads as. -/
theorem own_pa {V : World} {n₀ : Nat} {T : TypeId} {v : Value} {l : List Pt} (h : V.ownsRow n₀ T 3 v l.length (vals l)) :
    ∃ (a : Option Addr) (c : Nat), v = .slice a l.length c ∧ l.length ≤ c ∧ c ≤ 9223372036854775807 ∧ PA V a l.length (fun i => l.getD i p0) ∧ ∀ q, a = some q → 0 < l.length → n₀ ≤ q.block := by
  rcases h.2 with ⟨rfl, h0⟩ | ⟨b, cap, cur, rfl, hb, hh, hkc, hcm, _⟩
  · rw [h0]
    exact ⟨none, 0, rfl, Nat.le_refl _, by omega, fun i hi => absurd hi (by omega), fun q e => by cases e⟩
  · unfold maxLen at hcm
    refine ⟨some ⟨b, 0, none⟩, cap, rfl, hkc, by omega, fun i hi => ⟨b, 0, rfl, ?_⟩, fun q e _ => by cases e; exact hb⟩
    obtain ⟨h1, h2, h3⟩ := vals_get l i hi
    rw [Nat.zero_add]
    have hl := vals_len l
    exact ⟨by rw [h.cellAt _ (by omega)]; exact h1, by rw [h.cellAt _ (by omega)]; exact h2, by rw [h.cellAt _ (by omega)]; exact h3⟩
theorem news_pt (W : World) (p : Pt) (T : TypeId) : ∀ j u, (ptVs p)[j]? = some u → (W.alloc (.cells #[.int .i64 p.x, .int .i64 p.y, .bool p.o] T)).cell? ((⟨W.heap.size, 0, none⟩ : Addr).add j) = some u := by
  intro j u hj
  unfold ptVs at hj
  match j, hj with
  | 0, hj => simp at hj; subst hj; simp [Addr.add]
  | 1, hj => simp at hj; subst hj; simp [Addr.add]
  | 2, hj => simp at hj; subst hj; simp [Addr.add]
theorem gBo {w a v : World} {row : Option Nat} (h : Below w.heap.size w a) (g : a.grownBy v row) (hr : ∀ k, row = some k → w.heap.size ≤ k) : Below w.heap.size w v :=
  ⟨g.os.trans h.os, g.tape.trans h.tape, g.output.trans h.output, Nat.le_trans h.size g.size, fun i hi => (g.block i (Nat.lt_of_lt_of_le hi h.size) (fun e => by have := hr i e.symm; omega)).trans (h.block i hi)⟩
theorem own_keep {w V V' : World} {T : TypeId} {sz : Nat} {v : Value} {k : Nat} {xs : List Value} (h : V.ownsRow w.heap.size T sz v k xs) (hB : Below V.heap.size V V') : V'.ownsRow w.heap.size T sz v k xs := by
  refine h.kept (row := none) ⟨hB.os, hB.tape, hB.output, hB.size, fun i hi _ => hB.block i hi⟩ ?_
  rcases e : v.ownBlock with _ | g
  · exact .inl rfl
  · right
    intro h; cases h
def PlRel (w : World) (g : Nat → Pt) (n : Nat) (s3 s8 : Value) (V : World) : Prop :=
  ∃ k : Nat, s8 = .int .i64 k ∧ k ≤ n ∧ V.ownsRow w.heap.size 53 3 s3 (plK g n k).length (vals (plK g n k)) ∧ Below w.heap.size w V
end Go.Proofs.Ytdgagjcocohnnaa.Ot
