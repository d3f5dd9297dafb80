/-
  Layer 2 (wire): what lists of serializations are divided into.
-/
import Derived.Test.YtadnkofbgifliaaWrF
import Derived.Deep.AppendLies
namespace Go.Proofs.Ytadnkofbgifliaa.Wr
open Go.RowKit

set_option maxRecDepth 100000 in
set_option maxHeartbeats 2000000 in
theorem fr31 (p : Value) (a : Act) (h : JF 31 p a) : ∃ u1 u2 u3 u4 u5 u6 u7 u8 u9 u10 u11 u12 u13 u14 u15 u16 u17 u18 u19 u20 u21 u22 u23 u24 u25 u26 u27 u28 u29 u30 : Value, a = { tmps := #[p, u1, u2, u3, u4, u5, u6, u7, u8, u9, u10, u11, u12, u13, u14, u15, u16, u17, u18, u19, u20, u21, u22, u23, u24, u25, u26, u27, u28, u29, u30], defers := [] } := by
  obtain ⟨⟨l⟩, d⟩ := a
  obtain ⟨h1, h2, h3⟩ := h
  simp only at h1 h2 h3
  subst h1
  have h2' : l.length = 31 := h2
  clear h2
  iterate 31 (rcases l with _ | ⟨x, l⟩; (· simp at h2'); simp only [List.length_cons, Nat.add_right_cancel_iff] at h2')
  have : l = [] := List.eq_nil_of_length_eq_zero (by omega)
  subst this
  have h3' : _ = p := h3
  subst h3'
  exact ⟨_, _, _, _, _, _, _, _, _, _, _, _, _, _, _, _, _, _, _, _, _, _, _, _, _, _, _, _, _, _, rfl⟩

theorem encT_prefix {x y s t : List UInt8} (h : encT x ++ s = encT y ++ t) : x = y ∧ s = t := by
  unfold encT at h
  rw [List.append_assoc, List.append_assoc] at h
  obtain ⟨h1, h2⟩ := encI_prefix h
  have h1' : x.length = y.length := by omega
  exact List.append_inj h2 h1'

/-- Two lists of serializations that begin alike: the longer one goes on where the shorter one ends. -/
theorem flat_next {α : Type} (f : α → List UInt8) (hf : ∀ x y s t, f x ++ s = f y ++ t → x = y ∧ s = t) :
    ∀ (l l' : List α) (s t : List UInt8), l.length < l'.length → l.flatMap f ++ s = l'.flatMap f ++ t → ∃ x t', x ∈ l' ∧ s = f x ++ t' := by
  intro l
  induction l with
  | nil =>
    intro l' s t h e
    cases l' with
    | nil => simp at h
    | cons y l' => exact ⟨y, l'.flatMap f ++ t, by simp, by simpa using e⟩
  | cons x l ih =>
    intro l' s t h e
    cases l' with
    | nil => simp at h
    | cons y l' =>
      simp only [List.flatMap_cons, List.append_assoc] at e
      obtain ⟨_, e2⟩ := hf _ _ _ _ e
      obtain ⟨z, t', hz, ht⟩ := ih l' s t (by simpa using h) e2
      exact ⟨z, t', by simp [hz], ht⟩
theorem flat_same {α : Type} (f : α → List UInt8) (hf : ∀ x y s t, f x ++ s = f y ++ t → x = y ∧ s = t) :
    ∀ (l l' : List α) (s t : List UInt8), l.length = l'.length → l.flatMap f ++ s = l'.flatMap f ++ t → l = l' ∧ s = t := by
  intro l
  induction l with
  | nil =>
    intro l' s t h e
    cases l' with
    | nil => exact ⟨rfl, by simpa using e⟩
    | cons y l' => simp at h
  | cons x l ih =>
    intro l' s t h e
    cases l' with
    | nil => simp at h
    | cons y l' =>
      simp only [List.flatMap_cons, List.append_assoc] at e
      obtain ⟨e1, e2⟩ := hf _ _ _ _ e
      obtain ⟨h1, h2⟩ := ih l' s t (by simpa using h) e2
      exact ⟨by rw [e1, h1], h2⟩
theorem flat_len {α : Type} (f : α → List UInt8) (hp : ∀ x, 1 ≤ (f x).length) : ∀ l : List α, l.length ≤ (l.flatMap f).length := by
  intro l
  induction l with
  | nil => simp
  | cons x l ih => rw [List.flatMap_cons, List.length_append, List.length_cons]; have := hp x; omega
theorem encT_pos (x : List UInt8) : 1 ≤ (encT x).length := by unfold encT; rw [List.length_append]; have := encI_pos x.length; omega

/-- No list of serializations begins a string. -/
def NoL {α : Type} (f : α → List UInt8) (p : α → Prop) (s : ByteArray) : Prop := ∀ (l : List α) t, (∀ x ∈ l, p x) → s.data.toList ≠ (encI l.length ++ l.flatMap f) ++ t

theorem noL_of_noI {α : Type} {f : α → List UInt8} {p : α → Prop} (hp : ∀ x, 1 ≤ (f x).length) (s : ByteArray) (hs : s.size ≤ 140737488355327) (h : NoI s) : NoL f p s := by
  intro l t _ e
  have hl := flat_len f hp l
  have hz : s.size = ((encI l.length ++ l.flatMap f) ++ t).length := by rw [← e, size_list]
  rw [List.length_append, List.length_append] at hz
  rw [List.append_assoc] at e
  exact h _ _ (by unfold inI; omega) e
theorem noL_of {α : Type} {f : α → List UInt8} {p : α → Prop} (hp : ∀ x, 1 ≤ (f x).length) (s : ByteArray) (n : Int) (t : List UInt8) (e : s.data.toList = encI n ++ t) (h : n < 0 ∨ (t.length : Int) < n) : NoL f p s := by
  intro l t' _ e'
  rw [e', List.append_assoc] at e
  obtain ⟨h1, h2⟩ := encI_prefix e
  have hl := flat_len f hp l
  rw [← h2, ← h1] at h
  simp only [List.length_append] at h
  omega
theorem noL_at {α : Type} {f : α → List UInt8} {p : α → Prop} (hf : ∀ x y s t, f x ++ s = f y ++ t → x = y ∧ s = t) (s : ByteArray) (n : Nat) (l : List α) (t : List UInt8) (e : s.data.toList = encI n ++ (l.flatMap f ++ t)) (hl : l.length < n)
    (h : ∀ x t', p x → t ≠ f x ++ t') : NoL f p s := by
  intro l' t' hp e'
  rw [e', List.append_assoc] at e
  obtain ⟨h1, h2⟩ := encI_prefix e
  obtain ⟨x, t'', hx, ht⟩ := flat_next f hf l l' t t' (by omega) h2.symm
  exact h x t'' (hp x hx) ht

/-- What reading a list answers and leaves. -/
def RList {α : Type} (f : α → List UInt8) (p : α → Prop) (E : TypeId) (val : α → Value) (s : ByteArray) (bad : Bool) (b : Nat) (w : World) (e : Ending) (w' : World) : Prop :=
  (∃ (l : List α) (t : List UInt8) (v : Value), (∀ x ∈ l, p x) ∧ s.data.toList = (encI l.length ++ l.flatMap f) ++ t ∧ e = .returned v ∧ w'.ownsRow w.heap.size E 1 v l.length (l.map val) ∧ RS w' b ⟨t.toArray⟩ bad ∧ w.grownBy w' (some b)) ∨
    (NoL f p s ∧ e = .returned (.slice none 0 0) ∧ RS w' b empty true ∧ w.grownBy w' (some b))

theorem row_kept {w w' : World} {B E : Nat} {v : Value} {n : Nat} {xs : List Value} {b : Nat} (h : w.ownsRow B E 1 v n xs) (hb : b < B) (hg : w.grownBy w' (some b)) : w'.ownsRow B E 1 v n xs :=
  h.kept hg (by
    cases hv : v.ownBlock with
    | none => exact Or.inl rfl
    | some k => exact Or.inr (fun e => by injection e with e; have := (h.lt k hv).1; omega))

theorem rs_kept {w w' : World} {b : Nat} {s : ByteArray} {bad : Bool} {row : Option Nat} (h : RS w b s bad) (hg : w.grownBy w' row) (hne : row ≠ some b) : RS w' b s bad := by
  obtain ⟨h0, h1, f0, f1⟩ := h
  have hlt : b < w.heap.size := block_lt_of_cell h0
  exact ⟨hg.cell h0 (by simpa using Ne.symm hne), hg.cell h1 (by simpa using Ne.symm hne), by rw [World.grownBy.frozen_far hg ⟨b, 0, none⟩ hlt (by simpa using Ne.symm hne)]; exact f0, by rw [World.grownBy.frozen_far hg ⟨b, 1, none⟩ hlt (by simpa using Ne.symm hne)]; exact f1⟩
theorem rs_lt {w : World} {b : Nat} {s : ByteArray} {bad : Bool} (h : RS w b s bad) : b < w.heap.size := block_lt_of_cell h.1
/-- Beside the reader's block, an own row may be written as well. -/
theorem gown {a w v : World} {b : Nat} {row : Option Nat} (h : a.grownBy w (some b)) (k : w.grownBy v row) (hr : ∀ g, row = some g → a.heap.size ≤ g) : a.grownBy v (some b) :=
  ⟨k.os.trans h.os, k.tape.trans h.tape, k.output.trans h.output, Nat.le_trans h.size k.size, fun i hi hne => (k.block i (Nat.lt_of_lt_of_le hi h.size) (fun e => by have := hr i e.symm; omega)).trans (h.block i hi hne)⟩

theorem infoI : (Try.prog.info? 3).map (fun i => (i.zero, i.size, i.bytes)) = some (some (.int .i64 0), 1, 8) := by kernel_rfl
theorem infoS : (Try.prog.info? 9).map (fun i => (i.zero, i.size, i.bytes)) = some (some (.string ⟨#[]⟩), 1, 16) := by kernel_rfl

/-- The state at the head of a round. -/
def ElRel {α : Type} (f : α → List UInt8) (p : α → Prop) (E : TypeId) (val : α → Value) (s : ByteArray) (b : Nat) (w : World) (n : Nat) (s5 s18 : Value) (wr : World) : Prop :=
  ∃ (l : List α) (t : List UInt8), Hid (∀ x ∈ l, p x) ∧ Hid (s.data.toList = encI n ++ (l.flatMap f ++ t)) ∧ l.length ≤ n ∧ s18 = .int .i64 l.length ∧ wr.ownsRow w.heap.size E 1 s5 l.length (l.map val) ∧ RS wr b ⟨t.toArray⟩ false ∧ w.grownBy wr (some b)
end Go.Proofs.Ytadnkofbgifliaa.Wr
