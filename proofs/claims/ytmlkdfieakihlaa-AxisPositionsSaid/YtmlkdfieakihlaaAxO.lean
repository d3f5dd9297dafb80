/-
  Layer 5 (axis): what Made of the document's own makes: memory.
-/
import Derived.Test.YtmlkdfieakihlaaAxN
import Derived.Test.YtmlkdfieakihlaaAxF
import Derived.Deep.AppendLies
namespace Go.Proofs.Ytmlkdfieakihlaa.Ax
open Go.RowKit

/-- Draws from a list, however many were drawn. -/
def DW (V : World) (B : Nat) (a : Option Addr) (L c : Nat) (l : Nat → Int) : Prop := (∃ k, k ≤ L ∧ DS V B a L c k) ∧ LA V a L l
theorem dw_below {w W : World} {B : Nat} {a : Option Addr} {L c : Nat} {l : Nat → Int} (h : DW w B a L c l) (hB : Below w.heap.size w W) : DW W B a L c l := by
  obtain ⟨⟨k, h1, h2⟩, h3⟩ := h
  exact ⟨⟨k, h1, ds_below h2 hB⟩, la_below h3 hB⟩
theorem Next_w (B : Nat) (a : Option Addr) (L c : Nat) (l : Nat → Int) (n : Int) (hn : 1 ≤ n ∧ n ≤ 1000000) (hL : L ≤ 9223372036854775807) (hl : ∀ i, i < L → R64 (l i)) (hne : ∀ q, a = some q → 0 < L → q.block ≠ B) (w : World) (hS : DW w B a L c l) :
    Calls Try.prog 23 #[.pointer (some ⟨B, 0, none⟩), .int .i64 n] w fun e w' => ∃ v : Nat, e = .returned (.int .i64 (v : Int)) ∧ (v : Int) < n ∧ DW w' B a L c l ∧ w.grownBy w' (some B) := by
  obtain ⟨⟨k, h1, h2⟩, h3⟩ := hS
  refine (Next_any B a L c k l n hn hL h1 w h2 h3 hl hne).mono ?_
  rintro e w' ⟨rfl, hd, hg⟩
  have hv := nxV_in (L := L) (l := l) (k := k) hn.1
  exact ⟨(nxV L l k n).toNat, by rw [Int.toNat_of_nonneg hv.1], by omega, ⟨⟨_, nxA_le h1, hd⟩, la_grown h3 hg hne⟩, hg⟩
/-- The memory of a list that is made. -/
structure MI (w V : World) (T : TypeId) (sz : Nat) (a : Option Addr) (L c : Nat) (l : Nat → Int) (v : Value) (k : Nat) (xs : List Value) : Prop where
  dw : DW V w.heap.size a L c l
  ow : V.ownsRow (w.heap.size + 1) T sz v k xs
  be : Below w.heap.size w V
theorem mi_next {w V V' : World} {T : TypeId} {sz : Nat} {a : Option Addr} {L c : Nat} {l : Nat → Int} {v : Value} {k : Nat} {xs : List Value} (h : MI w V T sz a L c l v k xs) (hd : DW V' w.heap.size a L c l) (hg : V.grownBy V' (some w.heap.size)) : MI w V' T sz a L c l v k xs := by
  obtain ⟨h1, h2, h3⟩ := h
  refine ⟨hd, h2.kept hg ?_, gB h3 hg (Nat.le_refl _)⟩
  rcases e : v.ownBlock with _ | g
  · exact .inl rfl
  · right
    have := (h2.lt g e).1
    intro h
    cases h
    omega
theorem mi_alloc {w V : World} {T : TypeId} {sz : Nat} {a : Option Addr} {L c : Nat} {l : Nat → Int} {v : Value} {k : Nat} {xs : List Value} (h : MI w V T sz a L c l v k xs) (o : Obj) : MI w (V.alloc o) T sz a L c l v k xs :=
  ⟨dw_below h.dw (ba (Below.refl _ _) _), h.ow.alloc _, ba h.be _⟩
theorem mi_start (w : World) (T : TypeId) (sz : Nat) (a : Option Addr) (L c : Nat) (l : Nat → Int) (hA : LA w a L l) (T2 : TypeId) : MI w (w.alloc (.cells #[.slice a L c, .int .i64 0] T2)) T sz a L c l (.slice none 0 0) 0 [] :=
  ⟨⟨⟨0, by omega, ⟨by go_cell, by go_cell, by go_cell⟩⟩, la_below hA (ba (Below.refl _ _) _)⟩, ⟨by simp, .inl ⟨rfl, rfl⟩⟩, ba (Below.refl _ _) _⟩
theorem mi_lt {w V : World} {T : TypeId} {sz : Nat} {a : Option Addr} {L c : Nat} {l : Nat → Int} {v : Value} {k : Nat} {xs : List Value} (h : MI w V T sz a L c l v k xs) : w.heap.size < V.heap.size := by
  obtain ⟨⟨k, _, h2⟩, _⟩ := h.dw
  exact block_lt_of_cell h2.1
theorem gBr {w a v : World} {row : Option Nat} (h : Below w.heap.size w a) (g : a.grownBy v row) (hr : ∀ k, row = some k → w.heap.size ≤ k) : Below w.heap.size w v :=
  ⟨g.os.trans h.os, g.tape.trans h.tape, g.output.trans h.output, Nat.le_trans h.size g.size, fun i hi => (g.block i (Nat.lt_of_lt_of_le hi h.size) (fun e => by have := hr i e.symm; omega)).trans (h.block i hi)⟩
theorem mi_app {w V V' : World} {T : TypeId} {sz : Nat} {a : Option Addr} {L c : Nat} {l : Nat → Int} {v v' : Value} {k k' : Nat} {xs xs' : List Value} (h : MI w V T sz a L c l v k xs) (HA : LA w a L l)
    (hown : V'.ownsRow (w.heap.size + 1) T sz v' k' xs') (hg : V.grownBy V' v.ownBlock) : MI w V' T sz a L c l v' k' xs' := by
  obtain ⟨⟨⟨k0, h1, d0, d1, d2⟩, h2⟩, h3, h4⟩ := h
  have hr : ∀ k, v.ownBlock = some k → w.heap.size + 1 ≤ k := fun k e => (h3.lt k e).1
  have hB := gBr h4 hg (fun k e => by have := hr k e; omega)
  have hlt := block_lt_of_cell d0
  have hne : some w.heap.size ≠ v.ownBlock := fun e => by have := hr _ e.symm; omega
  refine ⟨⟨⟨k0, h1, ?_, ?_, ?_⟩, la_below HA hB⟩, hown, hB⟩
  · rw [hg.cell_far ⟨w.heap.size, 0, none⟩ hlt hne]; exact d0
  · rw [hg.cell_far ⟨w.heap.size, 1, none⟩ hlt hne]; exact d1
  · rw [hg.frozen_far ⟨w.heap.size, 1, none⟩ hlt hne]; exact d2
/-- The tags of what is made. -/
def tagN (i : Nat) : ByteArray := if i = 0 then ⟨#[119, 103, 104, 116]⟩ else if i = 1 then ⟨#[119, 100, 116, 104]⟩ else ⟨#[115]⟩
def mdOk (x : Axs) (i : Nat) : Prop := x.t = tagN i ∧ -1000 ≤ x.l ∧ x.l ≤ x.u ∧ x.u ≤ x.h ∧ x.h ≤ 1000
/-- The cells of axes in a row. -/
def AL (xs : List Value) (k : Nat) (g : Nat → Axs) : Prop := ∀ i, i < k → xs[i * 4]? = some (.string (g i).t) ∧ xs[i * 4 + 1]? = some (.int .i64 (g i).l) ∧ xs[i * 4 + 2]? = some (.int .i64 (g i).u) ∧ xs[i * 4 + 3]? = some (.int .i64 (g i).h)
theorem al_next {xs : List Value} {k : Nat} {g : Nat → Axs} (h : AL xs k g) (hl : xs.length = k * 4) (x : Axs) : AL (xs ++ [.string x.t, .int .i64 x.l, .int .i64 x.u, .int .i64 x.h]) (k + 1) (fun i => if i = k then x else g i) := by
  intro i hi
  by_cases e : i = k
  · subst e
    simp only [if_true]
    refine ⟨?_, ?_, ?_, ?_⟩
    · rw [List.getElem?_append_right (by omega), hl, Nat.sub_self]; rfl
    · rw [List.getElem?_append_right (by omega), hl, show i * 4 + 1 - i * 4 = 1 by omega]; rfl
    · rw [List.getElem?_append_right (by omega), hl, show i * 4 + 2 - i * 4 = 2 by omega]; rfl
    · rw [List.getElem?_append_right (by omega), hl, show i * 4 + 3 - i * 4 = 3 by omega]; rfl
  · simp only [if_neg e]
    obtain ⟨h1, h2, h3, h4⟩ := h i (by omega)
    refine ⟨?_, ?_, ?_, ?_⟩
    · rw [List.getElem?_append_left (by omega)]; exact h1
    · rw [List.getElem?_append_left (by omega)]; exact h2
    · rw [List.getElem?_append_left (by omega)]; exact h3
    · rw [List.getElem?_append_left (by omega)]; exact h4
/-- Axes that a call owns. -/
def OA (w : World) (B : Nat) (a : Option Addr) (n : Nat) (g : Nat → Axs) : Prop :=
  ∀ i, i < n → ∃ b, a = some ⟨b, 0, none⟩ ∧ B ≤ b ∧ AxAt w b (i * 4) (g i) ∧ ∀ j, w.frozen? ⟨b, j, none⟩ = false
theorem oa_aa {w : World} {B : Nat} {a : Option Addr} {n : Nat} {g : Nat → Axs} (h : OA w B a n g) : AA w a n g := fun i hi => by
  obtain ⟨b, e, _, hc, _⟩ := h i hi
  exact ⟨b, 0, e, by rw [Nat.zero_add]; exact hc⟩
theorem own_oa {w V : World} {T : TypeId} {v : Value} {k : Nat} {xs : List Value} {g : Nat → Axs} (h : V.ownsRow (w.heap.size + 1) T 4 v k xs) (hx : AL xs k g) (hk : k ≤ 3) :
    ∃ (a : Option Addr) (c : Nat), v = .slice a k c ∧ k ≤ c ∧ c ≤ 9223372036854775807 ∧ OA V w.heap.size a k g := by
  rcases h.2 with ⟨rfl, rfl⟩ | ⟨b, cap, cur, rfl, hb, hh, hkc, hcm, _⟩
  · exact ⟨none, 0, rfl, Nat.le_refl _, by omega, fun i hi => absurd hi (by omega)⟩
  · unfold maxLen at hcm
    refine ⟨some ⟨b, 0, none⟩, cap, rfl, hkc, by omega, fun i hi => ⟨b, rfl, by omega, ?_, fun j => h.frozenAt j⟩⟩
    obtain ⟨h1, h2, h3, h4⟩ := hx i hi
    exact ⟨by rw [h.cellAt _ (by omega)]; exact h1, by rw [h.cellAt _ (by omega)]; exact h2, by rw [h.cellAt _ (by omega)]; exact h3, by rw [h.cellAt _ (by omega)]; exact h4⟩
theorem infoA : (Try.prog.info? 29).map (fun i => (i.zero, i.size, i.bytes)) = some (some (.agg #[.string ⟨#[]⟩, .int .i64 0, .int .i64 0, .int .i64 0]), 4, 40) := by kernel_rfl
theorem news_ax (W : World) (x : Axs) (T : TypeId) : ∀ j u, [Value.string x.t, .int .i64 x.l, .int .i64 x.u, .int .i64 x.h][j]? = some u → (W.alloc (.cells #[.string x.t, .int .i64 x.l, .int .i64 x.u, .int .i64 x.h] T)).cell? ((⟨W.heap.size, 0, none⟩ : Addr).add j) = some u := by
  intro j u hj
  match j, hj with
  | 0, hj => simp at hj; subst hj; simp [Addr.add]
  | 1, hj => simp at hj; subst hj; simp [Addr.add]
  | 2, hj => simp at hj; subst hj; simp [Addr.add]
  | 3, hj => simp at hj; subst hj; simp [Addr.add]
end Go.Proofs.Ytmlkdfieakihlaa.Ax
