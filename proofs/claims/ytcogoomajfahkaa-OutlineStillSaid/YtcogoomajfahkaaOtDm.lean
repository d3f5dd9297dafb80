/-
  Layer 6 (outline): made deltas in memory; tents of the document's own.
-/
import Derived.Test.YtcogoomajfahkaaOtMd
import Derived.Test.YtcogoomajfahkaaOtL
namespace Go.Proofs.Ytcogoomajfahkaa.Ot
open Go.RowKit
open Go.Proofs.Ytcogoomajfahkaa.Ax (Tns TA TnAt LA DW MI Next_w dw_below fit vt vts)
def tn6 (i : Nat) : Tns := match i with | 0 => ⟨0, 64, 64⟩ | 1 => ⟨-64, -64, 0⟩ | 2 => ⟨0, 32, 64⟩ | 3 => ⟨16, 40, 60⟩ | 4 => ⟨-64, 0, 64⟩ | 5 => ⟨-50, -20, -20⟩ | _ => ⟨0, 0, 0⟩
theorem tn6_ok (i : Nat) (h : i < 6) : vt (tn6 i) = true := by
  have : i = 0 ∨ i = 1 ∨ i = 2 ∨ i = 3 ∨ i = 4 ∨ i = 5 := by omega
  rcases this with rfl | rfl | rfl | rfl | rfl | rfl <;> decide +kernel
/-- Tents in a block of their own. -/
def TP (w : World) (b n : Nat) (r : Nat → Tns) : Prop := ∀ i, i < n → TnAt w b (i * 3) (r i)
/-- Moves in a block of their own. -/
def MP (w : World) (b n : Nat) (x y : Nat → Int) : Prop := ∀ i, i < n → MvAt w b (i * 2) (x i) (y i)
theorem tp_row {w W : World} {b n : Nat} {r : Nat → Tns} {row : Option Nat} (h : TP w b n r) (hG : w.grownBy W row) (hn : 0 < n → row ≠ some b) : TP W b n r := fun i hi => by
  obtain ⟨h1, h2, h3⟩ := h i hi
  have hn := hn (by omega)
  exact ⟨far hG hn h1, far hG hn h2, far hG hn h3⟩
theorem mp_row {w W : World} {b n : Nat} {x y : Nat → Int} {row : Option Nat} (h : MP w b n x y) (hG : w.grownBy W row) (hn : 0 < n → row ≠ some b) : MP W b n x y := fun i hi => by
  obtain ⟨h1, h2⟩ := h i hi
  have hn := hn (by omega)
  exact ⟨far hG hn h1, far hG hn h2⟩
theorem grB {w W : World} (h : Below w.heap.size w W) : w.grownBy W none := ⟨h.os, h.tape, h.output, h.size, fun i hi _ => h.block i hi⟩
theorem tp_below {w W : World} {b n : Nat} {r : Nat → Tns} (h : TP w b n r) (hB : Below w.heap.size w W) : TP W b n r := tp_row h (grB hB) (fun _ e => by cases e)
theorem mp_below {w W : World} {b n : Nat} {x y : Nat → Int} (h : MP w b n x y) (hB : Below w.heap.size w W) : MP W b n x y := mp_row h (grB hB) (fun _ e => by cases e)
def tns6 : List Value := [.int .i64 0, .int .i64 64, .int .i64 64, .int .i64 (-64), .int .i64 (-64), .int .i64 0, .int .i64 0, .int .i64 32, .int .i64 64, .int .i64 16, .int .i64 40, .int .i64 60, .int .i64 (-64), .int .i64 0, .int .i64 64, .int .i64 (-50), .int .i64 (-20), .int .i64 (-20)]
theorem tp_six (V : World) (T : TypeId) : TP (V.alloc (.cells #[.int .i64 0, .int .i64 64, .int .i64 64, .int .i64 (-64), .int .i64 (-64), .int .i64 0, .int .i64 0, .int .i64 32, .int .i64 64, .int .i64 16, .int .i64 40, .int .i64 60, .int .i64 (-64), .int .i64 0, .int .i64 64, .int .i64 (-50), .int .i64 (-20), .int .i64 (-20)] T)) V.heap.size 6 tn6 := by
  intro i hi
  have : i = 0 ∨ i = 1 ∨ i = 2 ∨ i = 3 ∨ i = 4 ∨ i = 5 := by omega
  rcases this with rfl | rfl | rfl | rfl | rfl | rfl
  · exact ⟨by show World.cell? _ _ = some (Value.int IntKind.i64 0); go_cell, by show World.cell? _ _ = some (Value.int IntKind.i64 64); go_cell, by show World.cell? _ _ = some (Value.int IntKind.i64 64); go_cell⟩
  · exact ⟨by show World.cell? _ _ = some (Value.int IntKind.i64 (-64)); go_cell, by show World.cell? _ _ = some (Value.int IntKind.i64 (-64)); go_cell, by show World.cell? _ _ = some (Value.int IntKind.i64 0); go_cell⟩
  · exact ⟨by show World.cell? _ _ = some (Value.int IntKind.i64 0); go_cell, by show World.cell? _ _ = some (Value.int IntKind.i64 32); go_cell, by show World.cell? _ _ = some (Value.int IntKind.i64 64); go_cell⟩
  · exact ⟨by show World.cell? _ _ = some (Value.int IntKind.i64 16); go_cell, by show World.cell? _ _ = some (Value.int IntKind.i64 40); go_cell, by show World.cell? _ _ = some (Value.int IntKind.i64 60); go_cell⟩
  · exact ⟨by show World.cell? _ _ = some (Value.int IntKind.i64 (-64)); go_cell, by show World.cell? _ _ = some (Value.int IntKind.i64 0); go_cell, by show World.cell? _ _ = some (Value.int IntKind.i64 64); go_cell⟩
  · exact ⟨by show World.cell? _ _ = some (Value.int IntKind.i64 (-50)); go_cell, by show World.cell? _ _ = some (Value.int IntKind.i64 (-20)); go_cell, by show World.cell? _ _ = some (Value.int IntKind.i64 (-20)); go_cell⟩
theorem tents_any (w : World) :
    Calls Try.prog 65 #[] w fun e w' => ∃ b, e = .returned (.slice (some ⟨b, 0, none⟩) 6 6) ∧ w.heap.size ≤ b ∧ TP w' b 6 tn6 ∧ Below w.heap.size w w' := by
  go_enter Try.func65, Try.ntmps65
  go_wp2_with fail
  go_ret
  exact ⟨w.heap.size, rfl, Nat.le_refl _, tp_six w _, ba (Below.refl _ _) _⟩
/-- What is made of one field of a delta: the draws, the slice that grows, the field, the other field. -/
structure DI (V0 V : World) (n₀ : Nat) (T : TypeId) (sz : Nat) (a : Option Addr) (L c : Nat) (l : Nat → Int) (v : Value) (k : Nat) (xs : List Value) (o o' : Nat) (u : Value) : Prop where
  dw : DW V V0.heap.size a L c l
  ow : V.ownsRow n₀ T sz v k xs
  cl : V.cell? ⟨V0.heap.size + 1, o, none⟩ = some v
  fz : V.frozen? ⟨V0.heap.size + 1, o, none⟩ = false
  ot : V.cell? ⟨V0.heap.size + 1, o', none⟩ = some u
  fz1 : V.frozen? ⟨V0.heap.size + 1, o', none⟩ = false
  be : Below V0.heap.size V0 V
  n0 : V0.heap.size + 2 ≤ n₀ ∧ n₀ ≤ V.heap.size
theorem di_below {V0 V V' : World} {n₀ : Nat} {T : TypeId} {sz : Nat} {a : Option Addr} {L c : Nat} {l : Nat → Int} {v : Value} {k : Nat} {xs : List Value} {o o' : Nat} {u : Value} (h : DI V0 V n₀ T sz a L c l v k xs o o' u) (hB : Below V.heap.size V V') : DI V0 V' n₀ T sz a L c l v k xs o o' u := by
  refine ⟨dw_below h.dw hB, h.ow.kept (row := none) (grB hB) ?_, kc hB h.cl, kf hB h.cl h.fz, kc hB h.ot, kf hB h.ot h.fz1, bt h.be hB, ⟨h.n0.1, Nat.le_trans h.n0.2 hB.size⟩⟩
  rcases e : v.ownBlock with _ | g
  · exact .inl rfl
  · right
    intro h; cases h
theorem di_drew {V0 V : World} {n₀ : Nat} {T : TypeId} {sz : Nat} {a : Option Addr} {L c : Nat} {l : Nat → Int} {v : Value} {k : Nat} {xs : List Value} {o o' : Nat} {u : Value} (h : DI V0 V n₀ T sz a L c l v k xs o o' u) : DI V0 V.drew n₀ T sz a L c l v k xs o o' u := di_below h (bd1 (Below.refl _ _))
theorem di_next {V0 V V' : World} {n₀ : Nat} {T : TypeId} {sz : Nat} {a : Option Addr} {L c : Nat} {l : Nat → Int} {v : Value} {k : Nat} {xs : List Value} {o o' : Nat} {u : Value} (h : DI V0 V n₀ T sz a L c l v k xs o o' u) (hd : DW V' V0.heap.size a L c l) (hg : V.grownBy V' (some V0.heap.size)) : DI V0 V' n₀ T sz a L c l v k xs o o' u := by
  have hn : ∀ q, v.ownBlock = some q → q ≠ V0.heap.size := fun q hq => by have := (h.ow.lt q hq).1; have := h.n0.1; omega
  have hne : (some V0.heap.size : Option Nat) ≠ some (V0.heap.size + 1) := fun e => by injection e; omega
  refine ⟨hd, h.ow.kept hg ?_, far hg hne h.cl, ?_, far hg hne h.ot, ?_, gBo h.be hg (fun q e => by cases e; exact Nat.le_refl _), ⟨h.n0.1, Nat.le_trans h.n0.2 hg.size⟩⟩
  · rcases e : v.ownBlock with _ | g
    · exact .inl rfl
    · right
      intro h1
      exact hn g e (Option.some.inj h1)
  · rw [hg.frozen_far ⟨V0.heap.size + 1, o, none⟩ (block_lt_of_cell h.cl) (fun e => hne e.symm)]
    exact h.fz
  · rw [hg.frozen_far ⟨V0.heap.size + 1, o', none⟩ (block_lt_of_cell h.ot) (fun e => hne e.symm)]
    exact h.fz1
/-- One more: appended and stored. -/
theorem di_app {V0 V V' : World} {n₀ : Nat} {T : TypeId} {sz : Nat} {a : Option Addr} {L c : Nat} {l : Nat → Int} {v v' : Value} {k k' : Nat} {xs xs' : List Value} {o o' : Nat} {u : Value} (h : DI V0 V n₀ T sz a L c l v k xs o o' u) (HA : LA V0 a L l)
    (hown : V'.ownsRow n₀ T sz v' k' xs') (hg : V.grownBy V' v.ownBlock) (hoo : o ≠ o') : DI V0 (V'.setCell ⟨V0.heap.size + 1, o, none⟩ v') n₀ T sz a L c l v' k' xs' o o' u := by
  have hr : ∀ q, v.ownBlock = some q → V0.heap.size + 2 ≤ q := fun q hq => by have := (h.ow.lt q hq).1; have := h.n0.1; omega
  have h1 : v.ownBlock ≠ some (V0.heap.size + 1) := fun e => by have := hr _ e; omega
  have h0 : v.ownBlock ≠ some V0.heap.size := fun e => by have := hr _ e; omega
  have hB : Below V0.heap.size V0 V' := gBo h.be hg (fun q e => by have := hr q e; omega)
  have c1 := far hg h1 h.cl
  have c2 := far hg h1 h.ot
  have f1 : V'.frozen? ⟨V0.heap.size + 1, o, none⟩ = false := by
    rw [hg.frozen_far ⟨V0.heap.size + 1, o, none⟩ (block_lt_of_cell h.cl) (fun e => h1 e.symm)]
    exact h.fz
  have f2 : V'.frozen? ⟨V0.heap.size + 1, o', none⟩ = false := by
    rw [hg.frozen_far ⟨V0.heap.size + 1, o', none⟩ (block_lt_of_cell h.ot) (fun e => h1 e.symm)]
    exact h.fz1
  obtain ⟨⟨q, q1, d0, d1, d2⟩, _⟩ := h.dw
  have e0 := far hg h0 d0
  have e1 := far hg h0 d1
  have e2 : V'.frozen? ⟨V0.heap.size, 1, none⟩ = false := by
    rw [hg.frozen_far ⟨V0.heap.size, 1, none⟩ (block_lt_of_cell d1) (fun e => h0 e.symm)]
    exact d2
  have hS : V'.grownBy (V'.setCell ⟨V0.heap.size + 1, o, none⟩ v') (some (V0.heap.size + 1)) := gs (gr _ _) _
  have hne : (some (V0.heap.size + 1) : Option Nat) ≠ some V0.heap.size := fun e => by injection e; omega
  have hBS := bs hB (p := ⟨V0.heap.size + 1, o, none⟩) (Nat.le_succ _) v'
  have n1 : ¬ o = o' := hoo
  refine ⟨⟨⟨q, q1, far hS hne e0, far hS hne e1, by rw [hS.frozen_far ⟨V0.heap.size, 1, none⟩ (block_lt_of_cell e1) (fun e => hne e.symm)]; exact e2⟩, Ax.la_below HA hBS⟩, hown.kept hS ?_, by go_cell, by go_cell, by go_cell, by go_cell, hBS, ⟨h.n0.1, ?_⟩⟩
  · rcases e : v'.ownBlock with _ | g
    · exact .inl rfl
    · right
      have := (hown.lt g e).1
      have := h.n0.1
      intro hh
      injection hh
      omega
  · have := hg.size
    have := h.n0.2
    simp only [World.size_setCell]
    omega
def tnVs (t : Tns) : List Value := [.int .i64 t.l, .int .i64 t.p, .int .i64 t.h]
def mvVs (p : Int × Int) : List Value := [.int .i64 p.1, .int .i64 p.2]
def tvals (l : List Tns) : List Value := l.flatMap tnVs
def mvals (l : List (Int × Int)) : List Value := l.flatMap mvVs
theorem tvals_app (l m : List Tns) : tvals (l ++ m) = tvals l ++ tvals m := by unfold tvals; rw [List.flatMap_append]
theorem mvals_app (l m : List (Int × Int)) : mvals (l ++ m) = mvals l ++ mvals m := by unfold mvals; rw [List.flatMap_append]
def t0 : Tns := ⟨0, 0, 0⟩
theorem tvals_get : ∀ (l : List Tns) (i : Nat), i < l.length → (tvals l)[i * 3]? = some (.int .i64 (l.getD i t0).l) ∧ (tvals l)[i * 3 + 1]? = some (.int .i64 (l.getD i t0).p) ∧ (tvals l)[i * 3 + 2]? = some (.int .i64 (l.getD i t0).h)
  | [], i, h => absurd h (by simp)
  | p :: l, 0, _ => by simp [tvals, tnVs]
  | p :: l, i + 1, h => by
    have := tvals_get l i (by simpa using h)
    have e1 : (i + 1) * 3 = i * 3 + 1 + 1 + 1 := by omega
    have e2 : (i + 1) * 3 + 1 = i * 3 + 1 + 1 + 1 + 1 := by omega
    have e3 : (i + 1) * 3 + 2 = i * 3 + 2 + 1 + 1 + 1 := by omega
    rw [e2, e3, e1]
    simpa [tvals, tnVs] using this
theorem mvals_get : ∀ (l : List (Int × Int)) (i : Nat), i < l.length → (mvals l)[i * 2]? = some (.int .i64 (l.getD i (0, 0)).1) ∧ (mvals l)[i * 2 + 1]? = some (.int .i64 (l.getD i (0, 0)).2)
  | [], i, h => absurd h (by simp)
  | p :: l, 0, _ => by simp [mvals, mvVs]
  | p :: l, i + 1, h => by
    have := mvals_get l i (by simpa using h)
    have e1 : (i + 1) * 2 = i * 2 + 1 + 1 := by omega
    have e2 : (i + 1) * 2 + 1 = i * 2 + 1 + 1 + 1 := by omega
    rw [e2, e1]
    simpa [mvals, mvVs] using this
theorem own_tp {V : World} {n₀ : Nat} {T : TypeId} {v : Value} {l : List Tns} (h : V.ownsRow n₀ T 3 v l.length (tvals l)) :
    ∃ (a : Option Addr) (c b : Nat), v = .slice a l.length c ∧ l.length ≤ c ∧ c ≤ 9223372036854775807 ∧ TP V b l.length (fun i => l.getD i t0) ∧ (0 < l.length → a = some ⟨b, 0, none⟩) ∧ (0 < l.length → n₀ ≤ b ∧ v.ownBlock = some b) := by
  rcases h.2 with ⟨rfl, h0⟩ | ⟨b, cap, cur, rfl, hb, hh, hkc, hcm, _⟩
  · rw [h0]
    exact ⟨none, 0, 0, rfl, Nat.le_refl _, by omega, fun i hi => absurd hi (by omega), fun h => absurd h (by omega), fun h => absurd h (by omega)⟩
  · unfold maxLen at hcm
    refine ⟨some ⟨b, 0, none⟩, cap, b, rfl, hkc, by omega, fun i hi => ?_, fun _ => rfl, fun _ => ⟨hb, rfl⟩⟩
    obtain ⟨h1, h2, h3⟩ := tvals_get l i hi
    have hl := h.1
    have hl2 : i * 3 + 2 < l.length * 3 := by omega
    exact ⟨by rw [h.cellAt _ (by omega)]; exact h1, by rw [h.cellAt _ (by omega)]; exact h2, by rw [h.cellAt _ (by omega)]; exact h3⟩
theorem own_mp {V : World} {n₀ : Nat} {T : TypeId} {v : Value} {l : List (Int × Int)} (h : V.ownsRow n₀ T 2 v l.length (mvals l)) :
    ∃ (a : Option Addr) (c b : Nat), v = .slice a l.length c ∧ l.length ≤ c ∧ c ≤ 9223372036854775807 ∧ MP V b l.length (fun i => (l.getD i (0, 0)).1) (fun i => (l.getD i (0, 0)).2) ∧ (0 < l.length → a = some ⟨b, 0, none⟩) ∧ (0 < l.length → n₀ ≤ b ∧ v.ownBlock = some b) := by
  rcases h.2 with ⟨rfl, h0⟩ | ⟨b, cap, cur, rfl, hb, hh, hkc, hcm, _⟩
  · rw [h0]
    exact ⟨none, 0, 0, rfl, Nat.le_refl _, by omega, fun i hi => absurd hi (by omega), fun h => absurd h (by omega), fun h => absurd h (by omega)⟩
  · unfold maxLen at hcm
    refine ⟨some ⟨b, 0, none⟩, cap, b, rfl, hkc, by omega, fun i hi => ?_, fun _ => rfl, fun _ => ⟨hb, rfl⟩⟩
    obtain ⟨h1, h2⟩ := mvals_get l i hi
    have hl := h.1
    exact ⟨by rw [h.cellAt _ (by omega)]; exact h1, by rw [h.cellAt _ (by omega)]; exact h2⟩
theorem infoT : (Try.prog.info? 70).map (fun i => (i.zero, i.size, i.bytes)) = some (some (.agg #[.int .i64 0, .int .i64 0, .int .i64 0]), 3, 24) := by kernel_rfl
theorem infoM : (Try.prog.info? 39).map (fun i => (i.zero, i.size, i.bytes)) = some (some (.agg #[.int .i64 0, .int .i64 0]), 2, 16) := by kernel_rfl
theorem infoD : (Try.prog.info? 54).map (fun i => (i.zero, i.size, i.bytes)) = some (some (.agg #[.slice none 0 0, .slice none 0 0]), 2, 48) := by kernel_rfl
theorem news_tn (W : World) (t : Tns) (T : TypeId) : ∀ j u, (tnVs t)[j]? = some u → (W.alloc (.cells #[.int .i64 t.l, .int .i64 t.p, .int .i64 t.h] T)).cell? ((⟨W.heap.size, 0, none⟩ : Addr).add j) = some u := by
  intro j u hj
  unfold tnVs at hj
  match j, hj with
  | 0, hj => simp at hj; subst hj; simp [Addr.add]
  | 1, hj => simp at hj; subst hj; simp [Addr.add]
  | 2, hj => simp at hj; subst hj; simp [Addr.add]
theorem news_mv (W : World) (p : Int × Int) (T : TypeId) : ∀ j u, (mvVs p)[j]? = some u → (W.alloc (.cells #[.int .i64 p.1, .int .i64 p.2] T)).cell? ((⟨W.heap.size, 0, none⟩ : Addr).add j) = some u := by
  intro j u hj
  unfold mvVs at hj
  match j, hj with
  | 0, hj => simp at hj; subst hj; simp [Addr.add]
  | 1, hj => simp at hj; subst hj; simp [Addr.add]
end Go.Proofs.Ytcogoomajfahkaa.Ot
