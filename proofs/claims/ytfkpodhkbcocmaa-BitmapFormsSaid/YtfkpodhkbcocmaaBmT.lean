/-
  Layer 4 (bitmap): the bitmaps and the small numbers of a case.
-/
import Derived.Test.YtfkpodhkbcocmaaBmS
import Derived.Deep.RegionHeld3
import Derived.Deep.RegionHeldLaw
namespace Go.Proofs.Ytfkpodhkbcocmaa.Bm
open Go.RowKit
/-- A case, as the program's value. -/
def caseV (aA : Option Addr) (nA cA : Nat) (aB : Option Addr) (nB cB : Nat) (q l0 l1 l2 l3 : Int) : Value := .agg #[.slice aA nA cA, .slice aB nB cB, .int .i64 q, .int .i64 l0, .int .i64 l1, .int .i64 l2, .int .i64 l3]
def mdN (L : Nat) (l : Nat → Int) : Nat := mdW L l * mdH L l
theorem md_in (L : Nat) (l : Nat → Int) : mdW L l ≤ 16 ∧ mdH L l ≤ 12 ∧ mdN L l ≤ 192 := by
  have h1 : mdW L l ≤ 16 := by unfold mdW; have := nxV_in (L := L) (l := l) (k := 0) (n := 17) (by omega); omega
  have h2 : mdH L l ≤ 12 := by unfold mdH; have := nxV_in (L := L) (l := l) (k := nxA L 0) (n := 13) (by omega); omega
  exact ⟨h1, h2, Nat.mul_le_mul h1 h2⟩
def Made2Post (L : Nat) (l : Nat → Int) (w : World) (e : Ending) (w' : World) : Prop :=
  ∃ b, e = .returned (.agg #[.int .i64 (mdW L l), .int .i64 (mdH L l), .slice (some ⟨b, 0, none⟩) (mdN L l) (mdN L l)]) ∧ OB w' b (mdN L l) (mdF L l) ∧ (w.heap.size ≤ b ∧ b < w'.heap.size) ∧ Below w.heap.size w w'
theorem Made2_any (a : Option Addr) (L c : Nat) (l : Nat → Int) (hL : L ≤ 9223372036854775807) (w : World) (hD : LA w a L l) (hl : ∀ i, i < L → R64 (l i)) :
    Calls Try.prog 32 #[.slice a L c] w (Made2Post L l w) := Made_any a L c l hL w hD hl
def Odd2Post (w : World) (e : Ending) (w' : World) : Prop :=
  ∃ (W H : Int) (g n c : Nat) (f : Nat → Bool), e = .returned (.agg #[.int .i64 W, .int .i64 H, .slice (some ⟨g, 0, none⟩) n c]) ∧ R64 W ∧ R64 H ∧ n ≤ 1000 ∧ n ≤ c ∧ w.heap.size ≤ g ∧ DA w' (some ⟨g, 0, none⟩) n f ∧ Below w.heap.size w w'
theorem Odd2_any (W H : Nat) (b n : Nat) (f : Nat → Bool) (hW : W ≤ 16) (hH : H ≤ 12) (hn : n ≤ 192) (q : Int) (hq : R64 q) (w : World) (hD : DA w (some ⟨b, 0, none⟩) n f) :
    Calls Try.prog 34 #[.agg #[.int .i64 W, .int .i64 H, .slice (some ⟨b, 0, none⟩) n n], .int .i64 q] w (Odd2Post w) := Odd_any W H b n f hW hH hn q hq w hD
theorem bms_start (w : World) (aA : Option Addr) (nA cA : Nat) (aB : Option Addr) (nB cB : Nat) (q l0 l1 l2 l3 : Int) : RZ ((((w.alloc (.cells #[.slice aA nA cA, .slice aB nB cB, .int .i64 q, .int .i64 l0, .int .i64 l1, .int .i64 l2, .int .i64 l3] 25)).alloc (.cells #[.int .i64 0, .int .i64 0, .slice none 0 0] 28)).alloc (.cells #[.int .i64 0, .int .i64 0, .slice none 0 0] 28)).alloc (.cells #[.int .i64 0, .int .i64 0, .slice none 0 0] 28)) (w.heap.size + 1) ∧ RZ ((((w.alloc (.cells #[.slice aA nA cA, .slice aB nB cB, .int .i64 q, .int .i64 l0, .int .i64 l1, .int .i64 l2, .int .i64 l3] 25)).alloc (.cells #[.int .i64 0, .int .i64 0, .slice none 0 0] 28)).alloc (.cells #[.int .i64 0, .int .i64 0, .slice none 0 0] 28)).alloc (.cells #[.int .i64 0, .int .i64 0, .slice none 0 0] 28)) (w.heap.size + 1 + 1) ∧ RZ ((((w.alloc (.cells #[.slice aA nA cA, .slice aB nB cB, .int .i64 q, .int .i64 l0, .int .i64 l1, .int .i64 l2, .int .i64 l3] 25)).alloc (.cells #[.int .i64 0, .int .i64 0, .slice none 0 0] 28)).alloc (.cells #[.int .i64 0, .int .i64 0, .slice none 0 0] 28)).alloc (.cells #[.int .i64 0, .int .i64 0, .slice none 0 0] 28)) (w.heap.size + 1 + 1 + 1) ∧
    (((((w.alloc (.cells #[.slice aA nA cA, .slice aB nB cB, .int .i64 q, .int .i64 l0, .int .i64 l1, .int .i64 l2, .int .i64 l3] 25)).alloc (.cells #[.int .i64 0, .int .i64 0, .slice none 0 0] 28)).alloc (.cells #[.int .i64 0, .int .i64 0, .slice none 0 0] 28)).alloc (.cells #[.int .i64 0, .int .i64 0, .slice none 0 0] 28)).cell? ⟨w.heap.size, 1, none⟩ = some (.slice aB nB cB) ∧ ((((w.alloc (.cells #[.slice aA nA cA, .slice aB nB cB, .int .i64 q, .int .i64 l0, .int .i64 l1, .int .i64 l2, .int .i64 l3] 25)).alloc (.cells #[.int .i64 0, .int .i64 0, .slice none 0 0] 28)).alloc (.cells #[.int .i64 0, .int .i64 0, .slice none 0 0] 28)).alloc (.cells #[.int .i64 0, .int .i64 0, .slice none 0 0] 28)).cell? ⟨w.heap.size, 2, none⟩ = some (.int .i64 q)) ∧ Below w.heap.size w ((((w.alloc (.cells #[.slice aA nA cA, .slice aB nB cB, .int .i64 q, .int .i64 l0, .int .i64 l1, .int .i64 l2, .int .i64 l3] 25)).alloc (.cells #[.int .i64 0, .int .i64 0, .slice none 0 0] 28)).alloc (.cells #[.int .i64 0, .int .i64 0, .slice none 0 0] 28)).alloc (.cells #[.int .i64 0, .int .i64 0, .slice none 0 0] 28)) ∧ w.heap.size + 1 + 1 + 1 < ((((w.alloc (.cells #[.slice aA nA cA, .slice aB nB cB, .int .i64 q, .int .i64 l0, .int .i64 l1, .int .i64 l2, .int .i64 l3] 25)).alloc (.cells #[.int .i64 0, .int .i64 0, .slice none 0 0] 28)).alloc (.cells #[.int .i64 0, .int .i64 0, .slice none 0 0] 28)).alloc (.cells #[.int .i64 0, .int .i64 0, .slice none 0 0] 28)).heap.size :=
  ⟨⟨⟨by go_cell, by go_cell, by go_cell⟩, by go_cell, by go_cell, by go_cell⟩, ⟨⟨by go_cell, by go_cell, by go_cell⟩, by go_cell, by go_cell, by go_cell⟩, ⟨⟨by go_cell, by go_cell, by go_cell⟩, by go_cell, by go_cell, by go_cell⟩, ⟨by go_cell, by go_cell⟩, ba (ba (ba (ba (Below.refl _ _) _) _) _) _, by simp⟩
def BmsPost (LA' LB : Nat) (la lb : Nat → Int) (w : World) (e : Ending) (w' : World) : Prop :=
  ∃ (ba bb : Nat) (W H : Int) (g n c : Nat) (f : Nat → Bool), e = .returned (.tuple #[bv (mdW LA' la) (mdH LA' la) (some ⟨ba, 0, none⟩) (mdN LA' la) (mdN LA' la), bv (mdW LB lb) (mdH LB lb) (some ⟨bb, 0, none⟩) (mdN LB lb) (mdN LB lb), bv W H (some ⟨g, 0, none⟩) n c]) ∧
    OB w' ba (mdN LA' la) (mdF LA' la) ∧ OB w' bb (mdN LB lb) (mdF LB lb) ∧ DA w' (some ⟨g, 0, none⟩) n f ∧ R64 W ∧ R64 H ∧ n ≤ 1000 ∧ n ≤ c ∧ Below w.heap.size w w'
/-- What the last statement of bitmaps leaves but for its results' places. -/
structure FR3 (R1 R2 R3 : Nat) (V w' : World) : Prop where
  os : w'.os = V.os
  tape : w'.tape = V.tape
  output : w'.output = V.output
  size : V.heap.size ≤ w'.heap.size
  block : ∀ k, k < V.heap.size → ¬ k = R1 → ¬ k = R2 → ¬ k = R3 → w'.heap[k]? = V.heap[k]?
theorem FR3.drew (R1 R2 R3 : Nat) (V : World) : FR3 R1 R2 R3 V V.drew := ⟨rfl, rfl, rfl, Nat.le_refl _, fun _ _ _ _ _ => rfl⟩
theorem FR3.below {R1 R2 R3 : Nat} {V w' w2 : World} (h : FR3 R1 R2 R3 V w') (hB : Below w'.heap.size w' w2) : FR3 R1 R2 R3 V w2 :=
  ⟨hB.os.trans h.os, hB.tape.trans h.tape, hB.output.trans h.output, Nat.le_trans h.size hB.size, fun k hk n1 n2 n3 => (hB.block k (Nat.lt_of_lt_of_le hk h.size)).trans (h.block k hk n1 n2 n3)⟩
theorem FR3.set1 {R1 R2 R3 : Nat} {V w' : World} (h : FR3 R1 R2 R3 V w') (x y z : Value) : FR3 R1 R2 R3 V (((w'.setCell ⟨R1, 0, none⟩ x).setCell ⟨R1, 1, none⟩ y).setCell ⟨R1, 2, none⟩ z) :=
  ⟨h.os, h.tape, h.output, by simp only [World.size_setCell]; exact h.size, fun k hk n1 n2 n3 => by
    rw [Below.heap_setCell _ ⟨R1, 2, none⟩ z k n1, Below.heap_setCell _ ⟨R1, 1, none⟩ y k n1, Below.heap_setCell _ ⟨R1, 0, none⟩ x k n1]; exact h.block k hk n1 n2 n3⟩
theorem FR3.set2 {R1 R2 R3 : Nat} {V w' : World} (h : FR3 R1 R2 R3 V w') (x y z : Value) : FR3 R1 R2 R3 V (((w'.setCell ⟨R2, 0, none⟩ x).setCell ⟨R2, 1, none⟩ y).setCell ⟨R2, 2, none⟩ z) :=
  ⟨h.os, h.tape, h.output, by simp only [World.size_setCell]; exact h.size, fun k hk n1 n2 n3 => by
    rw [Below.heap_setCell _ ⟨R2, 2, none⟩ z k n2, Below.heap_setCell _ ⟨R2, 1, none⟩ y k n2, Below.heap_setCell _ ⟨R2, 0, none⟩ x k n2]; exact h.block k hk n1 n2 n3⟩
theorem FR3.set3 {R1 R2 R3 : Nat} {V w' : World} (h : FR3 R1 R2 R3 V w') (x y z : Value) : FR3 R1 R2 R3 V (((w'.setCell ⟨R3, 0, none⟩ x).setCell ⟨R3, 1, none⟩ y).setCell ⟨R3, 2, none⟩ z) :=
  ⟨h.os, h.tape, h.output, by simp only [World.size_setCell]; exact h.size, fun k hk n1 n2 n3 => by
    rw [Below.heap_setCell _ ⟨R3, 2, none⟩ z k n3, Below.heap_setCell _ ⟨R3, 1, none⟩ y k n3, Below.heap_setCell _ ⟨R3, 0, none⟩ x k n3]; exact h.block k hk n1 n2 n3⟩
theorem FR3.cell {R1 R2 R3 : Nat} {V w' : World} (h : FR3 R1 R2 R3 V w') {b o : Nat} {v : Value} (hc : V.cell? ⟨b, o, none⟩ = some v) (n1 : ¬ b = R1) (n2 : ¬ b = R2) (n3 : ¬ b = R3) : w'.cell? ⟨b, o, none⟩ = some v := by
  have e := h.block b (block_lt_of_cell hc) n1 n2 n3
  simpa only [World.cell?, e] using hc
def RZ3 (V : World) (R1 R2 R3 : Nat) : Prop := RZ V R1 ∧ RZ V R2 ∧ RZ V R3
theorem rz3_below {V V' : World} {R1 R2 R3 : Nat} (h : RZ3 V R1 R2 R3) (hB : Below V.heap.size V V') : RZ3 V' R1 R2 R3 := ⟨rz_below h.1 hB, rz_below h.2.1 hB, rz_below h.2.2 hB⟩
theorem da_set {w : World} {b b' n k : Nat} {f : Nat → Bool} {v : Value} (h : DA w (some ⟨b, 0, none⟩) n f) (hne : ¬ b' = b) : DA (w.setCell ⟨b', k, none⟩ v) (some ⟨b, 0, none⟩) n f := fun i hi => by
  obtain ⟨b0, o, e, hc⟩ := h i hi
  cases e
  exact ⟨b, 0, rfl, by go_cell⟩
theorem bms_done {LA' LB : Nat} {la lb : Nat → Int} {w X : World} {ba bb : Nat} {W H : Int} {g n c : Nat} {f : Nat → Bool} {x0 x1 x2 y0 y1 y2 z0 z1 z2 : Value} {R1 R2 R3 : Nat} (e1 : R1 = w.heap.size + 1) (e2 : R2 = w.heap.size + 1 + 1) (e3 : R3 = w.heap.size + 1 + 1 + 1)
    (ha : OB X ba (mdN LA' la) (mdF LA' la)) (hb : OB X bb (mdN LB lb) (mdF LB lb)) (hD : DA X (some ⟨g, 0, none⟩) n f) (hW : R64 W) (hH : R64 H) (hn : n ≤ 1000) (hc : n ≤ c) (hB : Below w.heap.size w X)
    (q1 : w.heap.size + 1 + 1 + 1 < ba) (q2 : w.heap.size + 1 + 1 + 1 < bb) (q3 : w.heap.size + 1 + 1 + 1 < g) :
    BmsPost LA' LB la lb w (.returned (.tuple #[.agg #[.int .i64 (mdW LA' la), .int .i64 (mdH LA' la), .slice (some ⟨ba, 0, none⟩) (mdN LA' la) (mdN LA' la)], .agg #[.int .i64 (mdW LB lb), .int .i64 (mdH LB lb), .slice (some ⟨bb, 0, none⟩) (mdN LB lb) (mdN LB lb)], .agg #[.int .i64 W, .int .i64 H, .slice (some ⟨g, 0, none⟩) n c]]))
      (((((((((X.setCell ⟨R1, 0, none⟩ x0).setCell ⟨R1, 1, none⟩ x1).setCell ⟨R1, 2, none⟩ x2).setCell ⟨R2, 0, none⟩ y0).setCell ⟨R2, 1, none⟩ y1).setCell ⟨R2, 2, none⟩ y2).setCell ⟨R3, 0, none⟩ z0).setCell ⟨R3, 1, none⟩ z1).setCell ⟨R3, 2, none⟩ z2) := by
  subst e1 e2 e3
  refine ⟨ba, bb, W, H, g, n, c, f, rfl, ?_, ?_, ?_, hW, hH, hn, hc, ?_⟩
  · repeat (refine ob_other ?_ (by omega))
    exact ha
  · repeat (refine ob_other ?_ (by omega))
    exact hb
  · repeat (refine da_set ?_ (by omega))
    exact hD
  · repeat (refine bs ?_ (by simp only; omega) _)
    exact hB
set_option maxRecDepth 100000 in
set_option maxHeartbeats 4000000 in
theorem bitmaps_any (aA : Option Addr) (nA cA : Nat) (la : Nat → Int) (aB : Option Addr) (nB cB : Nat) (lb : Nat → Int) (q l0 l1 l2 l3 : Int) (hA : nA ≤ 9223372036854775807) (hB : nB ≤ 9223372036854775807) (hq : R64 q) (w : World)
    (hDA : LA w aA nA la) (hla : ∀ i, i < nA → R64 (la i)) (hDB : LA w aB nB lb) (hlb : ∀ i, i < nB → R64 (lb i)) :
    Calls Try.prog 9 #[caseV aA nA cA aB nB cB q l0 l1 l2 l3] w (BmsPost nA nB la lb w) := by
  obtain ⟨m1, m2, m3⟩ := md_in nA la
  have MA := Lib.hid (fun w hD => Made2_any aA nA cA la hA w hD hla)
  have MB := Lib.hid (fun w hD => Made2_any aB nB cB lb hB w hD hlb)
  have OD := Lib.hid (fun b w hD => Odd2_any (mdW nA la) (mdH nA la) b (mdN nA la) (mdF nA la) m1 m2 m3 q hq w hD)
  have HA := Lib.hid hDA
  have HB := Lib.hid hDB
  clear hDA hDB hla hlb
  unfold caseV
  go_enter Try.func9, Try.ntmps9
  go_wp2_with fail
  obtain ⟨z1, z2, z3, ⟨x1, x2⟩, h0, hlt⟩ := bms_start w aA nA cA aB nB cB q l0 l1 l2 l3
  generalize ((((w.alloc (.cells #[.slice aA nA cA, .slice aB nB cB, .int .i64 q, .int .i64 l0, .int .i64 l1, .int .i64 l2, .int .i64 l3] 25)).alloc (.cells #[.int .i64 0, .int .i64 0, .slice none 0 0] 28)).alloc (.cells #[.int .i64 0, .int .i64 0, .slice none 0 0] 28)).alloc (.cells #[.int .i64 0, .int .i64 0, .slice none 0 0] 28)) = V0 at *
  refine (MA.out _ (la_below HA.out h0)).mono ?_
  rintro e V1 ⟨ba', rfl, hoa, ⟨hba0, hba1⟩, hB1⟩
  replace z1 := rz_below z1 hB1
  replace z2 := rz_below z2 hB1
  replace z3 := rz_below z3 hB1
  replace x1 := kc hB1 (block_lt_of_cell x1) x1
  replace x2 := kc hB1 (block_lt_of_cell x2) x2
  have hB2 := bt h0 hB1
  have hlt1 : w.heap.size + 1 + 1 + 1 < V1.heap.size := Nat.lt_of_lt_of_le hlt hB1.size
  have hba3 : w.heap.size + 1 + 1 + 1 < ba' := by omega
  clear h0 hB1 hlt
  go_wp2_with fail
  have hBx := ba (Below.refl _ V1) (.cells #[.int .i64 (mdW nA la), .int .i64 (mdH nA la), .slice (some ⟨ba', 0, none⟩) (mdN nA la) (mdN nA la)] 28)
  have y0 : (V1.alloc (.cells #[.int .i64 (mdW nA la), .int .i64 (mdH nA la), .slice (some ⟨ba', 0, none⟩) (mdN nA la) (mdN nA la)] 28)).cell? ⟨V1.heap.size, 0, none⟩ = some (.int .i64 (mdW nA la)) := by go_cell
  have y1 : (V1.alloc (.cells #[.int .i64 (mdW nA la), .int .i64 (mdH nA la), .slice (some ⟨ba', 0, none⟩) (mdN nA la) (mdN nA la)] 28)).cell? ⟨V1.heap.size, 1, none⟩ = some (.int .i64 (mdH nA la)) := by go_cell
  have y2 : (V1.alloc (.cells #[.int .i64 (mdW nA la), .int .i64 (mdH nA la), .slice (some ⟨ba', 0, none⟩) (mdN nA la) (mdN nA la)] 28)).cell? ⟨V1.heap.size, 2, none⟩ = some (.slice (some ⟨ba', 0, none⟩) (mdN nA la) (mdN nA la)) := by go_cell
  replace z1 : RZ3 (V1.alloc (.cells #[.int .i64 (mdW nA la), .int .i64 (mdH nA la), .slice (some ⟨ba', 0, none⟩) (mdN nA la) (mdN nA la)] 28)) (w.heap.size + 1) (w.heap.size + 1 + 1) (w.heap.size + 1 + 1 + 1) := rz3_below ⟨z1, z2, z3⟩ hBx
  replace x1 := kc hBx (block_lt_of_cell x1) x1
  replace x2 := kc hBx (block_lt_of_cell x2) x2
  replace hoa := ob_below hoa hBx
  replace hB2 := bt hB2 hBx
  have hlt2 : V1.heap.size < (V1.alloc (.cells #[.int .i64 (mdW nA la), .int .i64 (mdH nA la), .slice (some ⟨ba', 0, none⟩) (mdN nA la) (mdN nA la)] 28)).heap.size := block_lt_of_cell y0
  generalize V1.alloc (.cells #[.int .i64 (mdW nA la), .int .i64 (mdH nA la), .slice (some ⟨ba', 0, none⟩) (mdN nA la) (mdN nA la)] 28) = V2 at *
  generalize hBa : V1.heap.size = Ba at *
  clear z2 z3 hBx hBa hba0
  have n4 : ¬ w.heap.size = w.heap.size + 1 := by omega
  have n5 : ¬ w.heap.size = w.heap.size + 1 + 1 := by omega
  have n6 : ¬ w.heap.size = w.heap.size + 1 + 1 + 1 := by omega
  have n7 : ¬ Ba = w.heap.size + 1 := by omega
  have n8 : ¬ Ba = w.heap.size + 1 + 1 := by omega
  have n9 : ¬ Ba = w.heap.size + 1 + 1 + 1 := by omega
  have n12 : ¬ w.heap.size + 1 = w.heap.size + 1 + 1 := by omega
  have n13 : ¬ w.heap.size + 1 = w.heap.size + 1 + 1 + 1 := by omega
  have n23 : ¬ w.heap.size + 1 + 1 = w.heap.size + 1 + 1 + 1 := by omega
  generalize hR3 : w.heap.size + 1 + 1 + 1 = R3 at *
  generalize hR2 : w.heap.size + 1 + 1 = R2 at *
  generalize hR1 : w.heap.size + 1 = R1 at *
  have HR1 := Lib.hid hR1
  have HR2 := Lib.hid hR2
  have HR3 := Lib.hid hR3
  clear hR1 hR2 hR3
  have f1 : ∀ w', FR3 R1 R2 R3 V2 w' → w'.cell? ⟨w.heap.size, 1, none⟩ = some (.slice aB nB cB) := fun _ h => h.cell x1 n4 n5 n6
  have f2 : ∀ w', FR3 R1 R2 R3 V2 w' → w'.cell? ⟨w.heap.size, 2, none⟩ = some (.int .i64 q) := fun _ h => h.cell x2 n4 n5 n6
  have g0 : ∀ w', FR3 R1 R2 R3 V2 w' → w'.cell? ⟨Ba, 0, none⟩ = some (.int .i64 (mdW nA la)) := fun _ h => h.cell y0 n7 n8 n9
  have g1 : ∀ w', FR3 R1 R2 R3 V2 w' → w'.cell? ⟨Ba, 1, none⟩ = some (.int .i64 (mdH nA la)) := fun _ h => h.cell y1 n7 n8 n9
  have g2 : ∀ w', FR3 R1 R2 R3 V2 w' → w'.cell? ⟨Ba, 2, none⟩ = some (.slice (some ⟨ba', 0, none⟩) (mdN nA la) (mdN nA la)) := fun _ h => h.cell y2 n7 n8 n9
  clear x1 x2 y0 y1 y2
  have hoa2 := Lib.hid hoa
  have z2 : RZ3 V2.drew R1 R2 R3 := z1
  have hD2 : Below w.heap.size w V2.drew := bd1 hB2
  have hlt3 : R3 < V2.drew.heap.size := by
    have : V2.drew.heap.size = V2.heap.size := rfl
    omega
  have hoa3 : OB V2.drew ba' (mdN nA la) (mdF nA la) := hoa
  clear hoa hoa2 hB2 z1
  go_region_held3 (fun w' => FR3 R1 R2 R3 V2 w') (first
      | (with_reducible exact FR3.drew _ _ _ _)
      | (with_reducible exact FR3.set1 (by assumption) _ _ _)
      | (with_reducible exact FR3.set2 (by assumption) _ _ _)
      | (with_reducible exact FR3.set3 (by assumption) _ _ _)
      | (with_reducible exact FR3.below (by assumption) hba)
      | (with_reducible assumption))
      (first
      | ((with_reducible refine (MB.out _ (la_below HB.out (by with_reducible assumption))).mono ?_); rintro en wa ⟨bb, rfl, hob, ⟨hob0, hob1⟩, hba⟩; have hzz : RZ3 wa R1 R2 R3 := rz3_below (by with_reducible assumption) hba; obtain ⟨⟨⟨p0, p1, p2⟩, p3, p4, p5⟩, ⟨⟨q0, q1, q2⟩, q3, q4, q5⟩, ⟨s0, s1, s2⟩, s3, s4, s5⟩ := id hzz; have hbw : Below w.heap.size w wa := bt (by with_reducible assumption) hba; have hoa4 : OB wa ba' (mdN nA la) (mdF nA la) := ob_below (by with_reducible assumption) hba)
      | ((with_reducible refine (OD.out _ _ (ob_da (by with_reducible assumption))).mono ?_); rintro en wa ⟨W', H', g', n', c', f', rfl, hRW, hRH, hn', hc', hg', hDA', hba⟩; have hzz : RZ3 wa R1 R2 R3 := rz3_below (by with_reducible assumption) hba; obtain ⟨⟨⟨p0, p1, p2⟩, p3, p4, p5⟩, ⟨⟨q0, q1, q2⟩, q3, q4, q5⟩, ⟨s0, s1, s2⟩, s3, s4, s5⟩ := id hzz; have hbw : Below w.heap.size w wa := bt (by with_reducible assumption) hba; have hoa4 : OB wa ba' (mdN nA la) (mdF nA la) := ob_below (by with_reducible assumption) hba))
  go_wp2_with fail
  have hob2 := ob_below hob hba
  have l1 : R3 < bb := by omega
  have l2 : R3 < g' := by omega
  have E1 : R1 = w.heap.size + 1 := HR1.out.symm
  have E2 : R2 = w.heap.size + 1 + 1 := by have := HR2.out; omega
  have E3 : R3 = w.heap.size + 1 + 1 + 1 := by have := HR3.out; omega
  have E4 : w.heap.size + 1 + 1 + 1 < ba' := by omega
  have E5 : w.heap.size + 1 + 1 + 1 < bb := by omega
  have E6 : w.heap.size + 1 + 1 + 1 < g' := by omega
  have E := Lib.hid (And.intro E1 (And.intro E2 E3))
  clear E1 E2 E3
  refine bodyPost_ret (v := .tuple #[.agg #[.int .i64 (mdW nA la), .int .i64 (mdH nA la), .slice (some ⟨ba', 0, none⟩) (mdN nA la) (mdN nA la)], .agg #[.int .i64 (mdW nB lb), .int .i64 (mdH nB lb), .slice (some ⟨bb, 0, none⟩) (mdN nB lb) (mdN nB lb)], .agg #[.int .i64 W', .int .i64 H', .slice (some ⟨g', 0, none⟩) n' c']])
    (by simp [results, Try.results9, go_sem, p0, p1, p2, q0, q1, q2, s0, s1, s2]) rfl ?_
  exact bms_done E.out.1 E.out.2.1 E.out.2.2 hoa4 hob2 hDA' hRW hRH hn' hc' hbw E4 E5 E6
end Go.Proofs.Ytfkpodhkbcocmaa.Bm
