/-
  Layer 9 (machine): the document's draws; a short part of a program.
  Layer 9 (machine): made programs.
  Layer 9 (machine): mathematics of MachineJoins and MachineLoops.
  Layer 9 (machine): made programs run well.
  Layer 9 (machine): what MachineJoins and MachineLoops compare.
-/
import Derived.Test.YtdgagjcocohnnaaMcU
import Derived.Test.YtdgagjcocohnnaaAxOne
import Derived.Test.YtdgagjcocohnnaaMcY
namespace Go.Proofs.Ytdgagjcocohnnaa.Mc
open Go.RowKit
open Go.Proofs.Ytdgagjcocohnnaa.Ax (DS LA nxV nxA nxV_in nxA_le ds_below la_below la_grown Next_any)
/-- A list of numbers that are drawn one after the other, in its block B. -/
def DrW (B : Nat) (V : World) : Prop := ∃ (a : Option Addr) (L c k : Nat) (l : Nat → Int), L ≤ 9223372036854775807 ∧ k ≤ L ∧ DS V B a L c k ∧ LA V a L l ∧ (∀ i, i < L → Ax.R64 (l i)) ∧ (∀ q, a = some q → 0 < L → q.block < B)
theorem drw_below {B : Nat} {V V' : World} (h : DrW B V) (hB : Below V.heap.size V V') : DrW B V' := by
  obtain ⟨a, L, c, k, l, h1, h2, h3, h4, h5, h6⟩ := h
  exact ⟨a, L, c, k, l, h1, h2, ds_below h3 hB, la_below h4 hB, h5, h6⟩
theorem drw_row {B : Nat} {V V' : World} {r : Option Nat} (h : DrW B V) (hG : V.grownBy V' r) (hr : ∀ q, r = some q → B + 1 ≤ q) : DrW B V' := by
  obtain ⟨a, L, c, k, l, h1, h2, ⟨s0, s1, s2⟩, h4, h5, h6⟩ := h
  have blk : ∀ b, b ≤ B → ∀ o v, V.cell? ⟨b, o, none⟩ = some v → V'.heap[b]? = V.heap[b]? := fun b hb o v hc => hG.block b (block_lt_of_cell hc) (fun e => by have := hr b e.symm; omega)
  have cel : ∀ b, b ≤ B → ∀ o v, V.cell? ⟨b, o, none⟩ = some v → V'.cell? ⟨b, o, none⟩ = some v := fun b hb o v hc => by
    have e := blk b hb o v hc
    unfold World.cell? at hc ⊢
    rw [e]; exact hc
  refine ⟨a, L, c, k, l, h1, h2, ⟨cel B (Nat.le_refl _) _ _ s0, cel B (Nat.le_refl _) _ _ s1, ?_⟩, fun i hi => ?_, h5, h6⟩
  · have e := blk B (Nat.le_refl _) _ _ s1
    unfold World.frozen? at s2 ⊢
    rw [e]; exact s2
  · obtain ⟨b, o, e, hc⟩ := h4 i hi
    have := h6 _ e (by omega)
    exact ⟨b, o, e, cel b (by simp only at this; omega) _ _ hc⟩
theorem next_w (B : Nat) (n : Int) (hn : 1 ≤ n ∧ n ≤ 1000000) (w : World) (h : DrW B w) :
    Calls Try.prog 31 #[.pointer (some ⟨B, 0, none⟩), .int .i64 n] w fun e w' => ∃ x : Int, e = .returned (.int .i64 x) ∧ 0 ≤ x ∧ x < n ∧ DrW B w' ∧ w.grownBy w' (some B) := by
  obtain ⟨a, L, c, k, l, h1, h2, h3, h4, h5, h6⟩ := h
  refine (Next_any B a L c k l n hn h1 h2 w h3 h4 h5 (fun q e h0 => by have := h6 q e h0; omega)).mono ?_
  rintro e w' ⟨rfl, hd, hg⟩
  exact ⟨_, rfl, (nxV_in hn.1).1, (nxV_in hn.1).2, ⟨a, L, c, nxA L k, l, h1, nxA_le h2, hd, la_grown h4 hg (fun q e h0 => by have := h6 q e h0; omega), h5, h6⟩, hg⟩
/-- The parts that are made. -/
def UForm (C : Int) (u : List Opn) : Prop := ∃ (a b g : Int), 0 ≤ a ∧ a < C ∧ 0 ≤ b ∧ b < C ∧ (g = 10 ∨ g = 11) ∧
  (u = [⟨g, a, 0⟩, ⟨8, 0, 0⟩, ⟨g + 2, a, 0⟩] ∨ (∃ j, 2 ≤ j ∧ j < 6 ∧ u = [⟨g, a, 0⟩, ⟨g, b, 0⟩, ⟨j, 0, 0⟩, ⟨g + 2, a, 0⟩]) ∨
   (∃ j c, 6 ≤ j ∧ j < 8 ∧ u = [⟨g, a, 0⟩, ⟨j, 0, 0⟩, ⟨1, c, 0⟩, ⟨3, 0, 0⟩, ⟨g + 2, b, 0⟩]) ∨ u = [⟨9, 0, 0⟩, ⟨9, 0, 0⟩, ⟨2, 0, 0⟩, ⟨g, a, 0⟩, ⟨5, 0, 0⟩, ⟨g + 2, b, 0⟩])
def UnP (C : Int) (B : Nat) (w : World) (e : Ending) (w' : World) : Prop := ∃ (b n : Nat) (u : List Opn), e = .returned (.slice (some ⟨b, 0, none⟩) n n) ∧ u.length = n ∧ UForm C u ∧ PrA w'.heap.size w' (some ⟨b, 0, none⟩) u ∧ DrW B w' ∧ w.grownBy w' (some B) ∧ w.heap.size ≤ b
theorem un_end {C : Int} {B : Nat} {w V : World} {u : List Opn} {n : Nat} {cs : Array Value} (hu : UForm C u) (hn : u.length = n) (hcs : cs = (opCells u).toArray) (hD : DrW B V) (hG : w.grownBy V (some B)) : UnP C B w (.returned (.slice (some ⟨V.heap.size, 0, none⟩) n n)) (V.alloc (.cells cs 45)) := by
  subst hcs
  exact ⟨_, n, u, rfl, hn, hu, pra_lit V u _, drw_below hD (ba (Below.refl _ _) _), ga hG _, hG.size⟩
set_option maxRecDepth 100000 in
set_option maxHeartbeats 8000000 in
theorem unit_any (B : Nat) (C : Int) (hC : 1 ≤ C ∧ C ≤ 1000000) (w : World) (hD : DrW B w) :
    Calls Try.prog 32 #[.pointer (some ⟨B, 0, none⟩), .int .i64 C] w (UnP C B w) := by
  have NX := Lib.hid (fun n (hn : 1 ≤ n ∧ n ≤ 1000000) W (h : DrW B W) => next_w B n hn W h)
  have HC := Lib.hid hC
  clear hC
  go_enter Try.func32, Try.ntmps32
  go_wp2_with fail
  refine (NX.out C HC.out w hD).mono ?_
  rintro e V1 ⟨a, rfl, a0, a1, hD1, hG1⟩
  go_wp2_with fail
  refine (NX.out C HC.out V1 hD1).mono ?_
  rintro e V2 ⟨b, rfl, b0, b1, hD2, hG2⟩
  replace hG2 := hG1.trans hG2
  clear hG1 hD1 hD
  go_wp2_with fail
  refine (NX.out 2 (by decide) V2 hD2).mono ?_
  rintro e V3 ⟨x, rfl, x0, x1, hD3, hG3⟩
  replace hG3 := hG2.trans hG3
  clear hG2 hD2
  obtain ⟨g, hg, hg2⟩ : ∃ g, 10 + x = g ∧ (g = 10 ∨ g = 11) := ⟨_, rfl, by omega⟩
  have w1 : wrap64 (10 + x) = g := by rw [hg]; exact IntWalk.wrap64_in _ ⟨by omega, by omega⟩
  have w2 : wrap64 (g + 12) = g + 12 := IntWalk.wrap64_in _ ⟨by omega, by omega⟩
  have w3 : wrap64 (g + 12 - 10) = g + 2 := by rw [show g + 12 - 10 = g + 2 by omega]; exact IntWalk.wrap64_in _ ⟨by omega, by omega⟩
  have HF := Lib.hid (show ∀ u, _ → UForm C u from fun u h => ⟨a, b, g, a0, a1, b0, b1, hg2, h⟩)
  clear a0 a1 b0 b1 x0 x1
  go_upto_region 5 with (fail)
  rw [show g + 12 - 10 = g + 2 by omega]
  clear w1 w2 w3 hg hg2
  have X4 := Lib.hid (NX.out 4 (by decide) V3 hD3)
  clear hD3
  go_wp2_with fail
  refine X4.out.mono ?_
  rintro e V4 ⟨y, rfl, y0, y1, hD4, hG4⟩
  replace hG4 := hG3.trans hG4
  clear hG3 X4
  obtain rfl | rfl | rfl | rfl : y = 0 ∨ y = 1 ∨ y = 2 ∨ y = 3 := by omega
  · have R := Lib.hid (un_end (n := 3) (HF.out _ (.inl rfl)) rfl rfl hD4 hG4)
    clear HF NX hD4 hG4
    go_wp2_with fail
    go_ret
    exact R.out
  · have X5 := Lib.hid (NX.out 4 (by decide) V4 hD4)
    clear hD4
    go_wp2_with fail
    refine X5.out.mono ?_
    rintro e V5 ⟨z, rfl, z0, z1, hD5, hG5⟩
    replace hG5 := hG4.trans hG5
    clear hG4 X5
    obtain ⟨j, hj, hj2⟩ : ∃ j, 2 + z = j ∧ (2 ≤ j ∧ j < 6) := ⟨_, rfl, by omega⟩
    have w1 : wrap64 (2 + z) = j := by rw [hj]; exact IntWalk.wrap64_in _ ⟨by omega, by omega⟩
    have R := Lib.hid (un_end (n := 4) (HF.out _ (.inr (.inl ⟨j, hj2.1, hj2.2, rfl⟩))) rfl rfl hD5 hG5)
    clear HF NX hD5 hG5
    go_wp2_with fail
    go_ret
    exact R.out
  · have X5 := Lib.hid (NX.out 2 (by decide) V4 hD4)
    clear hD4
    go_wp2_with fail
    refine X5.out.mono ?_
    rintro e V5 ⟨z, rfl, z0, z1, hD5, hG5⟩
    replace hG5 := hG4.trans hG5
    clear hG4 X5
    obtain ⟨j, hj, hj2⟩ : ∃ j, 6 + z = j ∧ (6 ≤ j ∧ j < 8) := ⟨_, rfl, by omega⟩
    have w1 : wrap64 (6 + z) = j := by rw [hj]; exact IntWalk.wrap64_in _ ⟨by omega, by omega⟩
    have X6 := Lib.hid (NX.out 129 (by decide) V5 hD5)
    clear hD5
    go_wp2_with fail
    refine X6.out.mono ?_
    rintro e V6 ⟨q, rfl, q0, q1, hD6, hG6⟩
    replace hG6 := hG5.trans hG6
    clear hG5 X6
    obtain ⟨c, hc⟩ : ∃ c, q - 64 = c := ⟨_, rfl⟩
    have w4 : wrap64 (q - 64) = c := by rw [hc]; exact IntWalk.wrap64_in _ ⟨by omega, by omega⟩
    have R := Lib.hid (un_end (n := 5) (HF.out _ (.inr (.inr (.inl ⟨j, c, hj2.1, hj2.2, rfl⟩)))) rfl rfl hD6 hG6)
    clear HF NX hD6 hG6
    go_wp2_with fail
    go_ret
    exact R.out
  · have R := Lib.hid (un_end (n := 6) (HF.out _ (.inr (.inr (.inr rfl)))) rfl rfl hD4 hG4)
    clear HF NX hD4 hG4
    go_wp2_with fail
    go_ret
    exact R.out
end Go.Proofs.Ytdgagjcocohnnaa.Mc
namespace Go.Proofs.Ytdgagjcocohnnaa.Mc
open Go.RowKit
open Go.Proofs.Ytdgagjcocohnnaa.Ax (DS LA)
/-- A part, with a condition or without. -/
def Pc1 (C : Int) (u : List Opn) : Prop := ∃ u0, UForm C u0 ∧ (u = u0 ∨ ∃ c, u = [⟨9, 0, 0⟩, ⟨1, c, 0⟩, ⟨3, 0, 0⟩, ⟨14, (u0.length : Nat), 0⟩] ++ u0)
/-- .. within a loop or not. -/
def Pc2 (C : Int) (u : List Opn) : Prop := ∃ u1, Pc1 C u1 ∧ (u = u1 ∨ ∃ r, 1 ≤ r ∧ r ≤ 3 ∧ u = [⟨15, r, (u1.length : Nat)⟩] ++ u1)
def MadeP (C : Int) (out : List Opn) : Prop := ∃ ps : List (List Opn), ps.length ≤ 3 ∧ (∀ p ∈ ps, Pc2 C p) ∧ out = ps.flatten
theorem uform_len {C : Int} {u : List Opn} (h : UForm C u) : 1 ≤ u.length ∧ u.length ≤ 6 := by
  obtain ⟨a, b, g, _, _, _, _, _, h⟩ := h
  rcases h with rfl | ⟨j, _, _, rfl⟩ | ⟨j, c, _, _, rfl⟩ | rfl
  · exact ⟨by show 1 ≤ 3; decide, by show 3 ≤ 6; decide⟩
  · exact ⟨by show 1 ≤ 4; decide, by show 4 ≤ 6; decide⟩
  · exact ⟨by show 1 ≤ 5; decide, by show 5 ≤ 6; decide⟩
  · exact ⟨by show 1 ≤ 6; decide, by show 6 ≤ 6; decide⟩
theorem pc1_len {C : Int} {u : List Opn} (h : Pc1 C u) : 1 ≤ u.length ∧ u.length ≤ 10 := by
  obtain ⟨u0, h0, h⟩ := h
  have := uform_len h0
  rcases h with rfl | ⟨c, rfl⟩
  · omega
  · rw [List.length_append]
    show 1 ≤ 4 + u0.length ∧ 4 + u0.length ≤ 10
    omega
theorem pc2_len {C : Int} {u : List Opn} (h : Pc2 C u) : 1 ≤ u.length ∧ u.length ≤ 11 := by
  obtain ⟨u0, h0, h⟩ := h
  have := pc1_len h0
  rcases h with rfl | ⟨c, _, _, rfl⟩
  · omega
  · rw [List.length_append]
    show 1 ≤ 1 + u0.length ∧ 1 + u0.length ≤ 11
    omega
theorem flat_len {C : Int} : ∀ {ps : List (List Opn)}, (∀ p ∈ ps, Pc2 C p) → ps.flatten.length ≤ 11 * ps.length
  | [], _ => Nat.le_refl _
  | p :: r, h => by
    have h1 := pc2_len (h p List.mem_cons_self)
    have h2 := flat_len (fun q hq => h q (List.mem_cons_of_mem _ hq) : ∀ p ∈ r, Pc2 C p)
    rw [List.flatten_cons, List.length_append, List.length_cons]
    omega
/-- A list that has just been laid, as one's own. -/
theorem own_l {V : World} {S : Nat} {l : List Opn} {n : Nat} {cs : Array Value} (hn : l.length = n) (hcs : cs = (opCells l).toArray) (hS : S ≤ V.heap.size) (hm : n ≤ 100) : (V.alloc (.cells cs 45)).ownsRow S 45 3 (.slice (some ⟨V.heap.size, 0, none⟩) n n) n (opCells l) := by
  subst hcs
  refine ⟨by rw [opCells_len, hn], .inr ⟨V.heap.size, n, (opCells l).toArray, rfl, hS, World.alloc_heap_new V _, Nat.le_refl _, by unfold maxLen; omega, ?_, ?_⟩⟩
  · rw [List.size_toArray, opCells_len, hn]
  · show (opCells l).take (n * 3) = opCells l
    rw [← hn, ← opCells_len, List.take_length]
theorem own_g {w w' : World} {B S : Nat} {e : TypeId} {sz : Nat} {v : Value} {n : Nat} {xs : List Value} (h : w.ownsRow S e sz v n xs) (hG : w.grownBy w' (some B)) (hB : B < S) : w'.ownsRow S e sz v n xs :=
  h.kept (row := some B) hG (by
    rcases hv : v.ownBlock with _ | g
    · exact .inl rfl
    · have := (h.lt g hv).1
      exact .inr (fun e => by injection e with e; omega))
theorem pra_g {w w' : World} {B n : Nat} {a : Option Addr} {l : List Opn} (h : PrA n w a l) (hG : w.grownBy w' (some B)) (hB : ∀ q, a = some q → q.block ≠ B) : PrA w'.heap.size w' a l := fun i p hp => by
  obtain ⟨b, o, e, _, h1, h2, h3⟩ := h i p hp
  have := block_lt_of_cell h1
  simp only at this
  have hne := hB _ e
  exact ⟨b, o, e, Nat.lt_of_lt_of_le this hG.size, gc hG h1 hne, gc hG h2 hne, gc hG h3 hne⟩
theorem own_low {w : World} {S S' : Nat} {e : TypeId} {sz : Nat} {v : Value} {n : Nat} {xs : List Value} (h : w.ownsRow S e sz v n xs) (hS : S' ≤ S) : w.ownsRow S' e sz v n xs := by
  obtain ⟨h1, h2⟩ := h
  refine ⟨h1, ?_⟩
  rcases h2 with h2 | ⟨g, cap, cur, e1, e2, e3⟩
  · exact .inl h2
  · exact .inr ⟨g, cap, cur, e1, Nat.le_trans hS e2, e3⟩
/-- A part in memory. -/
def UA (B : Nat) (V : World) (s9 : Value) (u : List Opn) (V' : World) : Prop := ∃ (a : Option Addr) (n c : Nat), s9 = .slice a n c ∧ u.length = n ∧ n ≤ c ∧ c ≤ 9223372036854775807 ∧ PrA V'.heap.size V' a u ∧ (∀ q, a = some q → q.block ≠ B) ∧ DrW B V' ∧ V.grownBy V' (some B)
def MkRel (w : World) (B S : Nat) (C : Int) (m : Int) (s5 s8 : Value) (V : World) : Prop := ∃ ps : List (List Opn), s8 = .int .i64 (ps.length : Nat) ∧ (ps.length : Int) ≤ m ∧ (∀ p ∈ ps, Pc2 C p) ∧ V.ownsRow S 45 3 s5 ps.flatten.length (opCells ps.flatten) ∧ DrW B V ∧ Below w.heap.size w V ∧ S ≤ V.heap.size
set_option maxRecDepth 100000 in
set_option maxHeartbeats 16000000 in
theorem mMade_any (la : Option Addr) (ln lc : Nat) (l : Nat → Int) (hlc : ln ≤ 9223372036854775807) (C : Int) (hC : 0 ≤ C ∧ C ≤ 1000000) (w : World) (hL : LA w la ln l) (hR : ∀ i, i < ln → Ax.R64 (l i)) :
    Calls Try.prog 15 #[.slice la ln lc, .int .i64 C] w fun e w' => ∃ v out, e = .returned v ∧ w'.ownsRow w.heap.size 45 3 v out.length (opCells out) ∧ MadeP C out ∧ Below w.heap.size w w' := by
  have HL := Lib.hid hL
  have HR := Lib.hid hR
  clear hL hR
  by_cases hC1 : C < 1
  · go_enter Try.func15, Try.ntmps15
    go_wp2_with fail
    go_ret
    exact ⟨.slice none 0 0, [], rfl, World.ownsRow_nil _ _ _ _, ⟨[], by decide, fun p hp => (by cases hp), rfl⟩, Below.refl _ _⟩
  · have hC2 : 1 ≤ C ∧ C ≤ 1000000 := ⟨by omega, hC.2⟩
    have HC := Lib.hid hC2
    have NX := Lib.hid (fun n (hn : 1 ≤ n ∧ n ≤ 1000000) B W (h : DrW B W) => next_w B n hn W h)
    have UN := Lib.hid (fun B W (h : DrW B W) => unit_any B C HC.out W h)
    have hD0 : DrW w.heap.size (w.alloc (.cells #[.slice la ln lc, .int .i64 0] 80)) := ⟨la, ln, lc, 0, l, hlc, Nat.zero_le _, ⟨by go_cell, by go_cell, by go_cell⟩, Ax.la_below HL.out (ba (Below.refl _ _) _), HR.out, fun q e h0 => by
      obtain ⟨b, o, e2, hc⟩ := HL.out 0 h0
      rw [e] at e2
      injection e2 with e2
      subst e2
      have := block_lt_of_cell hc
      simp only at this ⊢
      omega⟩
    have hB0 : Below w.heap.size w (w.alloc (.cells #[.slice la ln lc, .int .i64 0] 80)) := ba (Below.refl _ _) _
    have hs0 : (w.alloc (.cells #[.slice la ln lc, .int .i64 0] 80)).heap.size = w.heap.size + 1 := World.size_alloc _ _
    have HS := Lib.hid hs0
    clear HL HR hs0 hC2 hC hlc
    go_enter Try.func15, Try.ntmps15
    go_upto_region 5 with (fail)
    generalize (w.alloc (.cells #[.slice la ln lc, .int .i64 0] 80)) = V0 at *
    obtain ⟨B, hBw⟩ : ∃ B, w.heap.size = B := ⟨_, rfl⟩
    rw [hBw] at hD0 HS ⊢
    have HBw := Lib.hid hBw
    clear hBw
    have X1 := Lib.hid (NX.out 4 (by decide) B V0 hD0)
    clear hD0
    go_wp2_with fail
    refine X1.out.mono ?_
    rintro e V1 ⟨m, rfl, m0, m1, hD1, hG1⟩
    have hB1 : Below w.heap.size w V1 := gBo hB0 hG1 (fun q e => by injection e with e; have := HBw.out; omega)
    have hS1 : B + 1 ≤ V1.heap.size := by have := HS.out; have := hG1.size; omega
    have R0 : MkRel w B (B + 1) C m (.slice none 0 0) (.int .i64 0) V1 := ⟨[], rfl, m0, fun p hp => (by cases hp), World.ownsRow_nil _ _ _ _, hD1, hB1, hS1⟩
    clear X1 hB0 hG1 hD1 hB1 hS1 HS
    go_wp2_with fail
    go_loopw [5, 8] (fun s5 s8 V => MkRel w B (B + 1) C m s5 s8 V) (fun _ s8 _ => m.toNat - (intOf s8).toNat)
    case atStart => exact R0
    case round =>
      clear R0
      obtain ⟨ps, rfl, hk, hps, hown, hD, hB, hS⟩ := hrel
      rename World => V
      by_cases hkm : (ps.length : Int) < m
      · have UC := Lib.hid (UN.out B V hD)
        clear hD
        go_upto_region 10 with ((with_reducible refine UC.out.mono ?_); rintro e V2 ⟨b, n, u, rfl, hun, huf, hup, hD2, hG2, hb2⟩)
        subst hun
        have hul := uform_len huf
        have X3 := Lib.hid (NX.out 3 (by decide) B V2 hD2)
        clear hD2 UC
        go_wp2_with fail
        refine X3.out.mono ?_
        rintro e V3 ⟨x, rfl, x0, x1, hD3, hG3⟩
        have hP3 := pra_g hup hG3 (by intro q e; injection e with e; subst e; simp only; omega)
        have hG3' := hG2.trans hG3
        have hbB : b ≠ B := by omega
        have hul6 : u.length ≤ 6 := hul.2
        have hS3 : V.heap.size ≤ V3.heap.size := hG3'.size
        clear hup hG2 hG3 X3 hul hb2
        go_upto_if 28 with (fail)
        go_cut [9] (fun s9 V' => ∃ u1, Pc1 C u1 ∧ UA B V s9 u1 V')
        case first =>
          by_cases hx : x = 0
          · subst hx
            have X4 := Lib.hid (NX.out 14 (by decide) B V3 hD3)
            clear hD3
            go_wp2_with fail
            refine X4.out.mono ?_
            rintro e V4 ⟨y, rfl, y0, y1, hD4, hG4⟩
            have hP4 := pra_g hP3 hG4 (by intro q e; injection e with e; subst e; exact hbB)
            have hG4' := hG3'.trans hG4
            obtain ⟨c, hc⟩ : ∃ c, 6 + y = c := ⟨_, rfl⟩
            have w1 : wrap64 (6 + y) = c := by rw [hc]; exact IntWalk.wrap64_in _ ⟨by omega, by omega⟩
            have hE := own_l (V := V4) (S := V4.heap.size) (l := [⟨9, 0, 0⟩, ⟨1, c, 0⟩, ⟨3, 0, 0⟩, ⟨14, (u.length : Nat), 0⟩]) (n := 4) rfl rfl (Nat.le_refl _) (by decide)
            have hE' : (V4.alloc (.cells #[.int .i64 9, .int .i64 0, .int .i64 0, .int .i64 1, .int .i64 c, .int .i64 0, .int .i64 3, .int .i64 0, .int .i64 0, .int .i64 14, .int .i64 (u.length : Nat), .int .i64 0] 45)).ownsRow V4.heap.size 45 3 (.slice (some ⟨V4.heap.size, 0, none⟩) 4 4) 4 (opCells [⟨9, 0, 0⟩, ⟨1, c, 0⟩, ⟨3, 0, 0⟩, ⟨14, (u.length : Nat), 0⟩]) := hE
            have hP5 : PrA (V4.alloc (.cells #[.int .i64 9, .int .i64 0, .int .i64 0, .int .i64 1, .int .i64 c, .int .i64 0, .int .i64 3, .int .i64 0, .int .i64 0, .int .i64 14, .int .i64 (u.length : Nat), .int .i64 0] 45)).heap.size (V4.alloc (.cells #[.int .i64 9, .int .i64 0, .int .i64 0, .int .i64 1, .int .i64 c, .int .i64 0, .int .i64 3, .int .i64 0, .int .i64 0, .int .i64 14, .int .i64 (u.length : Nat), .int .i64 0] 45)) (some ⟨b, 0, none⟩) u := pra_up hP4 (ba (Below.refl _ _) _)
            have hS4 : V.heap.size ≤ V4.heap.size := hG4'.size
            have FIN : Hid (∀ v' W', W'.ownsRow V4.heap.size 45 3 v' (4 + u.length) (opCells ([⟨9, 0, 0⟩, ⟨1, c, 0⟩, ⟨3, 0, 0⟩, ⟨14, (u.length : Nat), 0⟩] ++ u)) → (V4.alloc (.cells #[.int .i64 9, .int .i64 0, .int .i64 0, .int .i64 1, .int .i64 c, .int .i64 0, .int .i64 3, .int .i64 0, .int .i64 0, .int .i64 14, .int .i64 (u.length : Nat), .int .i64 0] 45)).grownBy W' (some V4.heap.size) → ∃ u1, Pc1 C u1 ∧ UA B V v' u1 W') := Lib.hid (fun v' W' ho hg => by
              have hbw : Below V4.heap.size V4 W' := gBo (ba (Below.refl V4.heap.size V4) _) hg (fun q e => by injection e with e; omega)
              have hlen : (([⟨9, 0, 0⟩, ⟨1, c, 0⟩, ⟨3, 0, 0⟩, ⟨14, (u.length : Nat), 0⟩] ++ u : List Opn)).length = 4 + u.length := by
                rw [List.length_append]
                rfl
              obtain ⟨pa, pc, rfl, r1, r2, r3⟩ := own_pra hlen ho
              exact ⟨_, ⟨u, huf, .inr ⟨c, rfl⟩⟩, pa, 4 + u.length, pc, rfl, hlen, r1, r2, r3, fun q e => by
                subst e
                have := (ho.lt q.block rfl).1
                omega, drw_below hD4 hbw, gt hG4' hbw⟩)
            clear X4 hE hP4 hG4 hG4' hD4 hP3 hG3' huf hown hps hB
            go_wp2_with (at_builtin; refine wpList_ops (l := [⟨9, 0, 0⟩, ⟨1, c, 0⟩, ⟨3, 0, 0⟩, ⟨14, (u.length : Nat), 0⟩]) (l2 := u) (n := 4) (m := u.length) V4.heap.size rfl _ _ rfl rfl rfl rfl rfl hE' hP5 (by omega) (by omega) (ba (Below.refl V4.heap.size V4) _).size ?_; intro v' W' ho5 hg5)
            go_meet
            exact FIN.out _ _ ho5 hg5
          · have hx2 : (x == 0) = false := beq_eq_false_iff_ne.2 hx
            have R : Hid (∃ u1, Pc1 C u1 ∧ UA B V (.slice (some ⟨b, 0, none⟩) u.length u.length) u1 V3) := Lib.hid ⟨u, ⟨u, huf, .inl rfl⟩, _, u.length, u.length, rfl, rfl, Nat.le_refl _, by omega, hP3, fun q e => by injection e with e; subst e; exact hbB, hD3, hG3'⟩
            clear hP3 hG3' huf hown hps hB hD3
            go_wp2_with fail
            go_meet
            exact R.out
        case rest =>
          obtain ⟨u1, hp1, a1, n1, c1, rfl, hun1, q1, q2, hP5, hne5, hD5, hG5⟩ := hcut
          rename World => V5
          subst hun1
          have hul1 := (pc1_len hp1).2
          have X6 := Lib.hid (NX.out 3 (by decide) B V5 hD5)
          clear hD5 hP3 hG3' huf hul6 hD3
          go_wp2_with fail
          refine X6.out.mono ?_
          rintro e V6 ⟨y, rfl, y0, y1, hD6, hG6⟩
          have hP6 := pra_g hP5 hG6 hne5
          have hG6' := hG5.trans hG6
          have hS6 : V.heap.size ≤ V6.heap.size := hG6'.size
          clear hP5 hG5 hG6 X6
          go_upto_if 43 with (fail)
          go_cut [9] (fun s9 V' => ∃ u2, Pc2 C u2 ∧ UA B V s9 u2 V')
          case first =>
            by_cases hx : y = 0
            · subst hx
              have X7 := Lib.hid (NX.out 3 (by decide) B V6 hD6)
              clear hD6
              go_wp2_with fail
              refine X7.out.mono ?_
              rintro e V7 ⟨z, rfl, z0, z1, hD7, hG7⟩
              have hP7 := pra_g hP6 hG7 hne5
              have hG7' := hG6'.trans hG7
              obtain ⟨r, hr, hr1, hr2⟩ : ∃ r, 1 + z = r ∧ 1 ≤ r ∧ r ≤ 3 := ⟨_, rfl, by omega, by omega⟩
              have w1 : wrap64 (1 + z) = r := by rw [hr]; exact IntWalk.wrap64_in _ ⟨by omega, by omega⟩
              have hE' : (V7.alloc (.cells #[.int .i64 15, .int .i64 r, .int .i64 (u1.length : Nat)] 45)).ownsRow V7.heap.size 45 3 (.slice (some ⟨V7.heap.size, 0, none⟩) 1 1) 1 (opCells [⟨15, r, (u1.length : Nat)⟩]) := own_l rfl rfl (Nat.le_refl _) (by decide)
              have hP8 : PrA (V7.alloc (.cells #[.int .i64 15, .int .i64 r, .int .i64 (u1.length : Nat)] 45)).heap.size (V7.alloc (.cells #[.int .i64 15, .int .i64 r, .int .i64 (u1.length : Nat)] 45)) a1 u1 := pra_up hP7 (ba (Below.refl _ _) _)
              have hS7 : V.heap.size ≤ V7.heap.size := hG7'.size
              have FIN : Hid (∀ v' W', W'.ownsRow V7.heap.size 45 3 v' (1 + u1.length) (opCells ([⟨15, r, (u1.length : Nat)⟩] ++ u1)) → (V7.alloc (.cells #[.int .i64 15, .int .i64 r, .int .i64 (u1.length : Nat)] 45)).grownBy W' (some V7.heap.size) → ∃ u2, Pc2 C u2 ∧ UA B V v' u2 W') := Lib.hid (fun v' W' ho hg => by
                have hbw : Below V7.heap.size V7 W' := gBo (ba (Below.refl V7.heap.size V7) _) hg (fun q e => by injection e with e; omega)
                have hlen : (([⟨15, r, (u1.length : Nat)⟩] ++ u1 : List Opn)).length = 1 + u1.length := by
                  rw [List.length_append]
                  rfl
                obtain ⟨pa, pc, rfl, r1, r2, r3⟩ := own_pra hlen ho
                exact ⟨_, ⟨u1, hp1, .inr ⟨r, hr1, hr2, rfl⟩⟩, pa, 1 + u1.length, pc, rfl, hlen, r1, r2, r3, fun q e => by
                  subst e
                  have := (ho.lt q.block rfl).1
                  omega, drw_below hD7 hbw, gt hG7' hbw⟩)
              clear X7 hP7 hG7 hG7' hD7 hP6 hG6' hp1 hown hps hB
              go_wp2_with (at_builtin; refine wpList_ops (l := [⟨15, r, (u1.length : Nat)⟩]) (l2 := u1) (n := 1) (m := u1.length) V7.heap.size rfl _ _ rfl rfl rfl rfl rfl hE' hP8 (by omega) (by omega) (ba (Below.refl V7.heap.size V7) _).size ?_; intro v' W' ho5 hg5)
              go_meet
              exact FIN.out _ _ ho5 hg5
            · have hx2 : (y == 0) = false := beq_eq_false_iff_ne.2 hx
              have R : Hid (∃ u2, Pc2 C u2 ∧ UA B V (.slice a1 u1.length c1) u2 V6) := Lib.hid ⟨u1, ⟨u1, hp1, .inl rfl⟩, _, u1.length, c1, rfl, rfl, q1, q2, hP6, hne5, hD6, hG6'⟩
              clear hP6 hG6' hp1 hown hps hB hD6
              go_wp2_with fail
              go_meet
              exact R.out
          case rest =>
            obtain ⟨u2, hp2, a2, n2, c2, rfl, hun2, p1, p2, hP9, hne9, hD9, hG9⟩ := hcut
            rename World => V9
            subst hun2
            have hl2 := (pc2_len hp2).2
            have hfl := flat_len hps
            have hown9 := own_g hown hG9 (Nat.lt_succ_self B)
            have hB9 : Below w.heap.size w V9 := gBo hB hG9 (fun q e => by injection e with e; have := HBw.out; omega)
            have hS9 : B + 1 ≤ V9.heap.size := Nat.le_trans hS hG9.size
            have hp3 : ps.length ≤ 3 := by omega
            have FIN : Hid (∀ v' W', W'.ownsRow (B + 1) 45 3 v' (ps.flatten.length + u2.length) (opCells (ps.flatten ++ u2)) → V9.grownBy W' u5.ownBlock → MkRel w B (B + 1) C m v' (.int .i64 ((ps.length : Nat) + 1 : Int)) W') := Lib.hid (fun v' W' ho hg => by
              have hne : ∀ q, u5.ownBlock = some q → B + 1 ≤ q := fun q e => (hown9.lt q e).1
              refine ⟨ps ++ [u2], by rw [List.length_append]; rfl, by rw [List.length_append]; show ((ps.length + 1 : Nat) : Int) ≤ m; omega, fun q hq => ?_, ?_, ?_, gBo hB9 hg (fun q e => by have := hne q e; have := HBw.out; omega), Nat.le_trans hS9 hg.size⟩
              · rcases List.mem_append.1 hq with h | h
                · exact hps q h
                · rw [List.mem_singleton] at h; subst h; exact hp2
              · rw [List.flatten_append, List.flatten_cons, List.flatten_nil, List.append_nil, List.length_append]
                exact ho
              · exact drw_row hD9 hg hne)
            clear hp2 hown hps hB hG9 hD9 hne9 hP6 hG6' hp1 hD6
            go_wp2_with (at_builtin; refine wpList_ops (l := ps.flatten) (l2 := u2) (n := ps.flatten.length) (m := u2.length) (B + 1) rfl _ _ rfl rfl rfl rfl rfl hown9 hP9 (by omega) (by omega) hS9 ?_; intro v' W' ho5 hg5)
            have R := Lib.hid (FIN.out _ _ ho5 hg5)
            clear FIN ho5 hg5 hown9 hP9 hB9
            go_wp2_with fail
            exact ⟨R.out, by simp [intOf]; omega⟩
      · have hkm2 : ¬ (ps.length : Int) < m := hkm
        have R := Lib.hid (And.intro (own_low hown (show w.heap.size ≤ B + 1 by have := HBw.out; omega)) (And.intro (show MadeP C ps.flatten from ⟨ps, by omega, hps, rfl⟩) hB))
        clear hown hps hB hD
        go_wp2_with fail
        go_ret
        exact ⟨u5, rfl, _, R.out⟩
end Go.Proofs.Ytdgagjcocohnnaa.Mc
namespace Go.Proofs.Ytdgagjcocohnnaa.Mc
open Go.RowKit
open Go.Proofs.Ytdgagjcocohnnaa.Ot (Pt pre shP p0)
theorem chk_uses {np h st : Int} {p : Opn} {left enc : Int} (e : chkE np h st p left enc = 0) : (p.n = 0 ∨ (kd p.c.toNat).uN = true) ∧ (p.m = 0 ∨ (kd p.c.toNat).uM = true) := by
  unfold chkE at e
  split at e
  · exact absurd e (by decide)
  split at e
  · exact absurd e (by decide)
  split at e
  · exact absurd e (by decide)
  rename_i h3
  rw [Bool.or_eq_true, Bool.and_eq_true, Bool.and_eq_true, decide_eq_true_iff, decide_eq_true_iff] at h3
  refine ⟨?_, ?_⟩
  · by_cases h : p.n = 0
    · exact .inl h
    · right
      rcases hu : (kd p.c.toNat).uN with _ | _
      · exact absurd (.inl ⟨h, by rw [hu]; rfl⟩) h3
      · rfl
  · by_cases h : p.m = 0
    · exact .inl h
    · right
      rcases hu : (kd p.c.toNat).uM with _ | _
      · exact absurd (.inr ⟨h, by rw [hu]; rfl⟩) h3
      · rfl
theorem itr_inv {I : MS → Prop} {g : MS → Res} (hg : ∀ s s', g s = .ok s' → I s → I s') : ∀ (n : Nat) (s s' : MS), itr g n s = .ok s' → I s → I s'
  | 0, s, s', h, hs => by
    injection h with h
    subst h
    exact hs
  | n + 1, s, s', h, hs => by
    rw [itr] at h
    cases hc : g s with
    | ok s1 =>
      rw [hc] at h
      exact itr_inv hg n s1 s' h (hg s s1 hc hs)
    | er E => rw [hc] at h; cases h
/-- What each operation keeps is kept. -/
theorem run_inv {np sz : Int} {I : MS → Prop} (hI : ∀ (s : MS) (p : Opn) (left enc : Int), chkE np s.l.length s.st p left enc = 0 → I s → I (nxS sz p s)) : ∀ (F : Nat) (l : List Opn) (enc : Int) (s s' : MS), runF np sz F l enc s = .ok s' → I s → I s'
  | 0, l, enc, s, s', h, hs => by
    rw [runF] at h
    injection h with h
    subst h
    exact hs
  | _ + 1, [], enc, s, s', h, hs => by
    rw [runF] at h
    injection h with h
    subst h
    exact hs
  | F + 1, p :: rest, enc, s, s', h, hs => by
    rw [runF] at h
    split at h
    · rename_i hE
      cases hc : itr (runF np sz F (rest.take (blkL p).toNat) (enc + 1)) (rndS sz p s).toNat (nxS sz p s) with
      | ok s1 =>
        rw [hc] at h
        exact run_inv hI F _ _ _ _ h (itr_inv (fun a b hab ha => run_inv hI F _ _ a b hab ha) _ _ _ hc (hI s p _ _ hE hs))
      | er E => rw [hc] at h; cases h
    · cases h
theorem run_st {np sz : Int} {F : Nat} {l : List Opn} {enc : Int} {s s' : MS} (h : runF np sz F l enc s = .ok s') : s.st ≤ s'.st :=
  run_inv (I := fun t => s.st ≤ t.st) (fun t p _ _ _ ht => by show s.st ≤ t.st + 1; omega) F l enc s s' h (Int.le_refl _)
/-- Two states that differ in the steps alone. -/
structure Sim (C d : Int) (s t : MS) : Prop where
  l : s.l = t.l
  st : t.st = s.st + d
  f : ∀ n : Nat, (n : Int) < C → s.f n = t.f n
theorem sim_nx {C d sz : Int} {s t : MS} (h : Sim C d s t) {p : Opn} {left enc : Int} (hE : chkE C s.l.length s.st p left enc = 0) : Sim C d (nxS sz p s) (nxS sz p t) ∧ rndS sz p s = rndS sz p t := by
  obtain ⟨_, h1, h2, _, _, _, hoP⟩ := chk_no hE
  have hr : resR sz p.c.toNat p.n s = resR sz p.c.toNat p.n t := by
    unfold resR
    rw [h.l]
    by_cases ho : (kd p.c.toNat).oP = true
    · obtain ⟨a, b⟩ := hoP ho
      rw [h.f p.n.toNat (by omega)]
    · obtain ⟨k, hk⟩ : ∃ k, p.c.toNat = k := ⟨_, rfl⟩
      rw [hk] at ho ⊢
      have : k = 1 ∨ k = 2 ∨ k = 3 ∨ k = 4 ∨ k = 5 ∨ k = 6 ∨ k = 7 ∨ k = 8 ∨ k = 9 ∨ k = 10 ∨ k = 11 ∨ k = 12 ∨ k = 13 ∨ k = 14 ∨ k = 15 := by omega
      rcases this with rfl | rfl | rfl | rfl | rfl | rfl | rfl | rfl | rfl | rfl | rfl | rfl | rfl | rfl | rfl
      all_goals first | rfl | exact absurd rfl ho
  refine ⟨⟨?_, ?_, fun n hn => ?_⟩, ?_⟩
  · unfold nxS nxK
    simp only
    rw [hr, h.l]
  · show t.st + 1 = s.st + 1 + d
    have := h.st
    omega
  · unfold nxS nxK
    simp only
    split
    · rw [h.l]
      have := h.f n hn
      simp only
      by_cases e : n = p.n.toNat
      · rw [if_pos e, if_pos e, this]
      · rw [if_neg e, if_neg e, this]
    · exact h.f n hn
  · unfold rndS
    rw [hr]
theorem itr_sim {C d : Int} {g g' : MS → Res} (hmon : ∀ s s', g s = .ok s' → s.st ≤ s'.st) (hg : ∀ s t s', Sim C d s t → g s = .ok s' → s'.st + d ≤ 2000 → ∃ t', Sim C d s' t' ∧ g' t = .ok t') : ∀ (n : Nat) (s t s' : MS), Sim C d s t → itr g n s = .ok s' → s'.st + d ≤ 2000 → ∃ t', Sim C d s' t' ∧ itr g' n t = .ok t'
  | 0, s, t, s', hS, h, _ => by
    injection h with h
    subst h
    exact ⟨t, hS, rfl⟩
  | n + 1, s, t, s', hS, h, hb => by
    rw [itr] at h
    cases hc : g s with
    | ok s1 =>
      rw [hc] at h
      have h1 := itr_inv (I := fun q => s1.st ≤ q.st) (fun a b hab ha => by have := hmon a b hab; omega) n s1 s' h (Int.le_refl _)
      obtain ⟨t1, hS1, e1⟩ := hg s t s1 hS hc (by omega)
      obtain ⟨t', hS', e2⟩ := itr_sim hmon hg n s1 t1 s' hS1 h hb
      exact ⟨t', hS', by rw [itr, e1]; exact e2⟩
    | er E => rw [hc] at h; cases h
/-- A program that runs well runs as well with other programs behind it, with other steps before it, and in fewer blocks. -/
theorem run_more (C sz : Int) : ∀ (F : Nat) (p : List Opn), p.length ≤ F → ∀ (q : List Opn) (enc enc' : Int), enc' ≤ enc → ∀ (d : Int) (s t s' : MS), Sim C d s t → runF C sz F p enc s = .ok s' → s'.st + d ≤ 2000 → ∃ t', Sim C d s' t' ∧ runL C sz (p ++ q) enc' t = runL C sz q enc' t'
  | 0, [], _, q, enc, enc', _, d, s, t, s', hS, h, _ => by
    rw [runF] at h
    injection h with h
    subst h
    exact ⟨t, hS, rfl⟩
  | 0, _ :: _, hl, _, _, _, _, _, _, _, _, _, _, _ => absurd hl (by simp)
  | _ + 1, [], _, q, enc, enc', _, d, s, t, s', hS, h, _ => by
    rw [runF] at h
    injection h with h
    subst h
    exact ⟨t, hS, rfl⟩
  | F + 1, o :: rest, hl, q, enc, enc', he, d, s, t, s', hS, h, hb => by
    have hl' : rest.length ≤ F := by simpa using hl
    rw [runF] at h
    split at h
    · rename_i hE
      have hno := chk_no hE
      have hus := chk_uses hE
      obtain ⟨hS1, hr⟩ := sim_nx (sz := sz) hS hE
      have hL : (blkL o).toNat ≤ rest.length := by
        by_cases hB : hasB o = true
        · have := (fit_L ((hno.2.2.2.1 hB).1)).2.1
          omega
        · have hB2 : hasB o = false := by rcases e : hasB o with _ | _; rfl; exact absurd e hB
          unfold hasB at hB2
          rw [Bool.or_eq_false_iff, decide_eq_false_iff_not, decide_eq_false_iff_not] at hB2
          unfold blkL
          rw [if_neg hB2.1, if_neg hB2.2]
          exact Nat.zero_le _
      cases hc : itr (runF C sz F (rest.take (blkL o).toNat) (enc + 1)) (rndS sz o s).toNat (nxS sz o s) with
      | ok s1 =>
        rw [hc] at h
        have hst1 : s1.st ≤ s'.st := run_st (F := F) (l := rest.drop (blkL o).toNat) (enc := enc) h
        have hst0 : s.st + 1 ≤ s1.st := itr_inv (I := fun x => s.st + 1 ≤ x.st) (fun a b hab ha => by have := run_st hab; omega) _ _ _ hc (Int.le_refl _)
        obtain ⟨t1, hS2, e1⟩ := itr_sim (C := C) (d := d) (g' := runL C sz (rest.take (blkL o).toNat) (enc' + 1)) (fun a b hab => run_st hab) (fun a b a' hab ha hb' => by
          obtain ⟨b', x1, x2⟩ := run_more C sz F (rest.take (blkL o).toNat) (by rw [List.length_take]; omega) [] (enc + 1) (enc' + 1) (by omega) d a b a' hab ha hb'
          rw [List.append_nil, runL_nil] at x2
          exact ⟨b', x1, x2⟩) _ _ _ _ hS1 hc (by omega)
        obtain ⟨t', hS3, e2⟩ := run_more C sz F (rest.drop (blkL o).toNat) (by rw [List.length_drop]; omega) q enc enc' he d s1 t1 s' hS2 h hb
        refine ⟨t', hS3, ?_⟩
        have hE' : chkE C t.l.length t.st o ((rest ++ q).length : Nat) enc' = 0 := by
          have hst := hS.st
          refine chk_yes (by omega) hno.2.1 hno.2.2.1 hus.1 hus.2 (fun hB => ?_) (by rw [← hS.l]; exact hno.2.2.2.2.1) (by rw [← hS.l]; exact hno.2.2.2.2.2.1) hno.2.2.2.2.2.2
          obtain ⟨x1, x2⟩ := hno.2.2.2.1 hB
          refine ⟨?_, by omega⟩
          obtain ⟨y1, y2, y3⟩ := fit_L x1
          unfold fitB
          rw [Bool.and_eq_true, Bool.and_eq_true, Bool.or_eq_true, Bool.and_eq_true, decide_eq_true_iff, decide_eq_true_iff, decide_eq_true_iff, decide_eq_true_iff, decide_eq_true_iff]
          exact ⟨y3, y1, by rw [List.length_append]; omega⟩
        rw [List.cons_append, runL_go hE', List.take_append_of_le_length hL, List.drop_append_of_le_length hL, ← hr, e1]
        exact e2
      | er E => rw [hc] at h; cases h
    · cases h
/-- What a program leaves that runs well: the stack as it was. -/
def Bal (C : Int) (p : List Opn) (cost : Int) (enc : Int) : Prop := ∀ (sz : Int) (s : MS), s.l.length + 3 ≤ 8 → s.st + cost ≤ 2000 → ∃ s', runL C sz p enc s = .ok s' ∧ s'.l = s.l ∧ s'.st ≤ s.st + cost
theorem sim_self (C : Int) (s : MS) : Sim C 0 s s := ⟨rfl, by omega, fun _ _ => rfl⟩
theorem bal_app {C : Int} {p q : List Opn} {c1 c2 enc : Int} (h0 : 0 ≤ c2) (h1 : Bal C p c1 enc) (h2 : Bal C q c2 enc) : Bal C (p ++ q) (c1 + c2) enc := fun sz s hl hs => by
  obtain ⟨s1, e1, l1, k1⟩ := h1 sz s hl (by omega)
  obtain ⟨t1, hS, e2⟩ := run_more C sz p.length p (Nat.le_refl _) q enc enc (Int.le_refl _) 0 s s s1 (sim_self C s) e1 (by omega)
  have ht := hS.st
  obtain ⟨t2, e3, l3, k3⟩ := h2 sz t1 (by rw [← hS.l, l1]; exact hl) (by omega)
  exact ⟨t2, by rw [e2]; exact e3, by rw [l3, ← hS.l, l1], by omega⟩
end Go.Proofs.Ytdgagjcocohnnaa.Mc
namespace Go.Proofs.Ytdgagjcocohnnaa.Mc
open Go.RowKit
open Go.Proofs.Ytdgagjcocohnnaa.Ot (Pt pre shP p0)
theorem nx_shape (k : Nat) (n sz : Int) (l' t : List Int) (st : Int) (f : Nat → Pt) (h : t.length = (kd k).ta) : ∃ v f', nxK sz k n ⟨l' ++ t, st, f⟩ = ⟨if (kd k).pu = 0 then l' else l' ++ [v], st + 1, f'⟩ := by
  have e : lowL k (l' ++ t) = l' := by
    unfold lowL
    rw [List.length_append, h, Nat.add_sub_cancel]
    exact List.take_left
  refine ⟨lim (resR sz k n ⟨l' ++ t, st, f⟩), (nxK sz k n ⟨l' ++ t, st, f⟩).f, ?_⟩
  unfold nxK
  simp only [e]
theorem op_k (k : Nat) (n : Int) {C sz enc st : Int} {l' t : List Int} {f : Nat → Pt} {rest : List Opn} (hk : 1 ≤ k ∧ k < 14) (hst : st < 2000) (hn : n = 0 ∨ (kd k).uN = true) (ht : t.length = (kd k).ta) (h8 : l'.length + (kd k).pu ≤ 8) (ho : (kd k).oP = true → 0 ≤ n ∧ n < C) :
    ∃ v f', runL C sz (⟨(k : Int), n, 0⟩ :: rest) enc ⟨l' ++ t, st, f⟩ = runL C sz rest enc ⟨if (kd k).pu = 0 then l' else l' ++ [v], st + 1, f'⟩ := by
  obtain ⟨v, f', e⟩ := nx_shape k n sz l' t st f ht
  refine ⟨v, f', ?_⟩
  rw [← e]
  exact one k n hk hst hn (by rw [List.length_append]; omega) (by rw [List.length_append]; omega) ho
/-- A number is put onto the stack. -/
theorem op_put {c n C sz enc st : Int} {l : List Int} {f : Nat → Pt} {rest : List Opn} (hc : c = 1 ∨ (c = 9 ∧ n = 0) ∨ ((c = 10 ∨ c = 11) ∧ 0 ≤ n ∧ n < C)) (hst : st < 2000) (hl : l.length < 8) :
    ∃ v f', runL C sz (⟨c, n, 0⟩ :: rest) enc ⟨l, st, f⟩ = runL C sz rest enc ⟨l ++ [v], st + 1, f'⟩ := by
  rcases hc with rfl | ⟨rfl, rfl⟩ | ⟨rfl | rfl, h1, h2⟩
  · have := op_k (sz := sz) (C := C) (enc := enc) (f := f) (rest := rest) 1 n (l' := l) (t := []) (by decide) hst (.inr rfl) rfl (show l.length + 1 ≤ 8 by omega) (fun h => by cases h)
    rw [List.append_nil] at this
    exact this
  · have := op_k (sz := sz) (C := C) (enc := enc) (f := f) (rest := rest) 9 0 (l' := l) (t := []) (by decide) hst (.inl rfl) rfl (show l.length + 1 ≤ 8 by omega) (fun h => by cases h)
    rw [List.append_nil] at this
    exact this
  · have := op_k (sz := sz) (C := C) (enc := enc) (f := f) (rest := rest) 10 n (l' := l) (t := []) (by decide) hst (.inr rfl) rfl (show l.length + 1 ≤ 8 by omega) (fun _ => ⟨h1, h2⟩)
    rw [List.append_nil] at this
    exact this
  · have := op_k (sz := sz) (C := C) (enc := enc) (f := f) (rest := rest) 11 n (l' := l) (t := []) (by decide) hst (.inr rfl) rfl (show l.length + 1 ≤ 8 by omega) (fun _ => ⟨h1, h2⟩)
    rw [List.append_nil] at this
    exact this
/-- .. is changed. -/
theorem op_un {c C sz enc st x : Int} {l : List Int} {f : Nat → Pt} {rest : List Opn} (hc : 6 ≤ c ∧ c ≤ 8) (hst : st < 2000) (hl : l.length < 8) :
    ∃ v f', runL C sz (⟨c, 0, 0⟩ :: rest) enc ⟨l ++ [x], st, f⟩ = runL C sz rest enc ⟨l ++ [v], st + 1, f'⟩ := by
  obtain rfl | rfl | rfl : c = 6 ∨ c = 7 ∨ c = 8 := by omega
  · exact op_k 6 0 (by decide) hst (.inl rfl) rfl (show l.length + 1 ≤ 8 by omega) (fun h => by cases h)
  · exact op_k 7 0 (by decide) hst (.inl rfl) rfl (show l.length + 1 ≤ 8 by omega) (fun h => by cases h)
  · exact op_k 8 0 (by decide) hst (.inl rfl) rfl (show l.length + 1 ≤ 8 by omega) (fun h => by cases h)
/-- Two numbers become one. -/
theorem op_bin {c C sz enc st x y : Int} {l : List Int} {f : Nat → Pt} {rest : List Opn} (hc : 2 ≤ c ∧ c ≤ 5) (hst : st < 2000) (hl : l.length < 8) :
    ∃ v f', runL C sz (⟨c, 0, 0⟩ :: rest) enc ⟨l ++ [x] ++ [y], st, f⟩ = runL C sz rest enc ⟨l ++ [v], st + 1, f'⟩ := by
  rw [List.append_assoc]
  obtain rfl | rfl | rfl | rfl : c = 2 ∨ c = 3 ∨ c = 4 ∨ c = 5 := by omega
  · exact op_k 2 0 (by decide) hst (.inl rfl) rfl (show l.length + 1 ≤ 8 by omega) (fun h => by cases h)
  · exact op_k 3 0 (by decide) hst (.inl rfl) rfl (show l.length + 1 ≤ 8 by omega) (fun h => by cases h)
  · exact op_k 4 0 (by decide) hst (.inl rfl) rfl (show l.length + 1 ≤ 8 by omega) (fun h => by cases h)
  · exact op_k 5 0 (by decide) hst (.inl rfl) rfl (show l.length + 1 ≤ 8 by omega) (fun h => by cases h)
/-- A number becomes a coordinate. -/
theorem op_set {c n C sz enc st x : Int} {l : List Int} {f : Nat → Pt} {rest : List Opn} (hc : c = 12 ∨ c = 13) (hn : 0 ≤ n ∧ n < C) (hst : st < 2000) (hl : l.length < 8) :
    ∃ f', runL C sz (⟨c, n, 0⟩ :: rest) enc ⟨l ++ [x], st, f⟩ = runL C sz rest enc ⟨l, st + 1, f'⟩ := by
  rcases hc with rfl | rfl
  · obtain ⟨v, f', e⟩ := op_k (sz := sz) (C := C) (enc := enc) (st := st) (f := f) (rest := rest) 12 n (l' := l) (t := [x]) (by decide) hst (.inr rfl) rfl (show l.length + 0 ≤ 8 by omega) (fun _ => hn)
    exact ⟨f', e⟩
  · obtain ⟨v, f', e⟩ := op_k (sz := sz) (C := C) (enc := enc) (st := st) (f := f) (rest := rest) 13 n (l' := l) (t := [x]) (by decide) hst (.inr rfl) rfl (show l.length + 0 ≤ 8 by omega) (fun _ => hn)
    exact ⟨f', e⟩
theorem bal_unit {C : Int} {u : List Opn} (h : UForm C u) (enc : Int) : Bal C u 6 enc := fun sz s hl hs => by
  obtain ⟨l, st, f⟩ := s
  simp only at hl hs
  obtain ⟨a, b, g, a0, a1, b0, b1, hg, h⟩ := h
  have hG : ∀ n, 0 ≤ n → n < C → (g = 1 ∨ (g = 9 ∧ n = 0) ∨ ((g = 10 ∨ g = 11) ∧ 0 ≤ n ∧ n < C)) := fun n h1 h2 => .inr (.inr ⟨hg, h1, h2⟩)
  have hs2 : g + 2 = 12 ∨ g + 2 = 13 := by omega
  have l1 : ∀ v : Int, (l ++ [v]).length = l.length + 1 := fun v => by rw [List.length_append]; rfl
  have l2 : ∀ v w : Int, (l ++ [v] ++ [w]).length = l.length + 2 := fun v w => by rw [List.length_append, l1]; rfl
  rcases h with rfl | ⟨j, j0, j1, rfl⟩ | ⟨j, c, j0, j1, rfl⟩ | rfl
  · obtain ⟨v1, f1, e1⟩ := op_put (sz := sz) (enc := enc) (f := f) (rest := [⟨8, 0, 0⟩, ⟨g + 2, a, 0⟩]) (hG a a0 a1) (show st < 2000 by omega) (show l.length < 8 by omega)
    obtain ⟨v2, f2, e2⟩ := op_un (C := C) (sz := sz) (enc := enc) (x := v1) (f := f1) (c := 8) (rest := [⟨g + 2, a, 0⟩]) (by omega) (show st + 1 < 2000 by omega) (show l.length < 8 by omega)
    obtain ⟨f3, e3⟩ := op_set (C := C) (sz := sz) (enc := enc) (x := v2) (f := f2) (rest := []) hs2 ⟨a0, a1⟩ (show st + 1 + 1 < 2000 by omega) (show l.length < 8 by omega)
    exact ⟨⟨l, st + 1 + 1 + 1, f3⟩, by rw [e1, e2, e3, runL_nil], rfl, by simp only; omega⟩
  · obtain ⟨v1, f1, e1⟩ := op_put (sz := sz) (enc := enc) (f := f) (rest := [⟨g, b, 0⟩, ⟨j, 0, 0⟩, ⟨g + 2, a, 0⟩]) (hG a a0 a1) (show st < 2000 by omega) (show l.length < 8 by omega)
    obtain ⟨v2, f2, e2⟩ := op_put (sz := sz) (enc := enc) (f := f1) (rest := [⟨j, 0, 0⟩, ⟨g + 2, a, 0⟩]) (hG b b0 b1) (show st + 1 < 2000 by omega) (show (l ++ [v1]).length < 8 by rw [l1]; omega)
    obtain ⟨v3, f3, e3⟩ := op_bin (C := C) (sz := sz) (enc := enc) (x := v1) (y := v2) (f := f2) (c := j) (rest := [⟨g + 2, a, 0⟩]) (by omega) (show st + 1 + 1 < 2000 by omega) (show l.length < 8 by omega)
    obtain ⟨f4, e4⟩ := op_set (C := C) (sz := sz) (enc := enc) (x := v3) (f := f3) (rest := []) hs2 ⟨a0, a1⟩ (show st + 1 + 1 + 1 < 2000 by omega) (show l.length < 8 by omega)
    exact ⟨⟨l, st + 1 + 1 + 1 + 1, f4⟩, by rw [e1, e2, e3, e4, runL_nil], rfl, by simp only; omega⟩
  · obtain ⟨v1, f1, e1⟩ := op_put (sz := sz) (enc := enc) (f := f) (rest := [⟨j, 0, 0⟩, ⟨1, c, 0⟩, ⟨3, 0, 0⟩, ⟨g + 2, b, 0⟩]) (hG a a0 a1) (show st < 2000 by omega) (show l.length < 8 by omega)
    obtain ⟨v2, f2, e2⟩ := op_un (C := C) (sz := sz) (enc := enc) (x := v1) (f := f1) (c := j) (rest := [⟨1, c, 0⟩, ⟨3, 0, 0⟩, ⟨g + 2, b, 0⟩]) (by omega) (show st + 1 < 2000 by omega) (show l.length < 8 by omega)
    obtain ⟨v3, f3, e3⟩ := op_put (C := C) (sz := sz) (enc := enc) (f := f2) (c := 1) (n := c) (l := l ++ [v2]) (rest := [⟨3, 0, 0⟩, ⟨g + 2, b, 0⟩]) (.inl rfl) (show st + 1 + 1 < 2000 by omega) (show (l ++ [v2]).length < 8 by rw [l1]; omega)
    obtain ⟨v4, f4, e4⟩ := op_bin (C := C) (sz := sz) (enc := enc) (x := v2) (y := v3) (f := f3) (c := 3) (rest := [⟨g + 2, b, 0⟩]) (by omega) (show st + 1 + 1 + 1 < 2000 by omega) (show l.length < 8 by omega)
    obtain ⟨f5, e5⟩ := op_set (C := C) (sz := sz) (enc := enc) (x := v4) (f := f4) (rest := []) hs2 ⟨b0, b1⟩ (show st + 1 + 1 + 1 + 1 < 2000 by omega) (show l.length < 8 by omega)
    exact ⟨⟨l, st + 1 + 1 + 1 + 1 + 1, f5⟩, by rw [e1, e2, e3, e4, e5, runL_nil], rfl, by simp only; omega⟩
  · obtain ⟨v1, f1, e1⟩ := op_put (C := C) (sz := sz) (enc := enc) (f := f) (c := 9) (n := 0) (l := l) (rest := [⟨9, 0, 0⟩, ⟨2, 0, 0⟩, ⟨g, a, 0⟩, ⟨5, 0, 0⟩, ⟨g + 2, b, 0⟩]) (.inr (.inl ⟨rfl, rfl⟩)) (show st < 2000 by omega) (show l.length < 8 by omega)
    obtain ⟨v2, f2, e2⟩ := op_put (C := C) (sz := sz) (enc := enc) (f := f1) (c := 9) (n := 0) (l := l ++ [v1]) (rest := [⟨2, 0, 0⟩, ⟨g, a, 0⟩, ⟨5, 0, 0⟩, ⟨g + 2, b, 0⟩]) (.inr (.inl ⟨rfl, rfl⟩)) (show st + 1 < 2000 by omega) (show (l ++ [v1]).length < 8 by rw [l1]; omega)
    obtain ⟨v3, f3, e3⟩ := op_bin (C := C) (sz := sz) (enc := enc) (x := v1) (y := v2) (f := f2) (c := 2) (rest := [⟨g, a, 0⟩, ⟨5, 0, 0⟩, ⟨g + 2, b, 0⟩]) (by omega) (show st + 1 + 1 < 2000 by omega) (show l.length < 8 by omega)
    obtain ⟨v4, f4, e4⟩ := op_put (sz := sz) (enc := enc) (f := f3) (l := l ++ [v3]) (rest := [⟨5, 0, 0⟩, ⟨g + 2, b, 0⟩]) (hG a a0 a1) (show st + 1 + 1 + 1 < 2000 by omega) (show (l ++ [v3]).length < 8 by rw [l1]; omega)
    obtain ⟨v5, f5, e5⟩ := op_bin (C := C) (sz := sz) (enc := enc) (x := v3) (y := v4) (f := f4) (c := 5) (rest := [⟨g + 2, b, 0⟩]) (by omega) (show st + 1 + 1 + 1 + 1 < 2000 by omega) (show l.length < 8 by omega)
    obtain ⟨f6, e6⟩ := op_set (C := C) (sz := sz) (enc := enc) (x := v5) (f := f5) (rest := []) hs2 ⟨b0, b1⟩ (show st + 1 + 1 + 1 + 1 + 1 < 2000 by omega) (show l.length < 8 by omega)
    exact ⟨⟨l, st + 1 + 1 + 1 + 1 + 1 + 1, f6⟩, by rw [e1, e2, e3, e4, e5, e6, runL_nil], rfl, by simp only; omega⟩
/-- A block, some times over. -/
theorem bal_itr {C : Int} {u : List Opn} {c enc : Int} (h0 : 0 ≤ c) (hb : Bal C u c enc) (sz : Int) : ∀ (n : Nat) (s : MS), s.l.length + 3 ≤ 8 → s.st + c * n ≤ 2000 → ∃ s', itr (runL C sz u enc) n s = .ok s' ∧ s'.l = s.l ∧ s'.st ≤ s.st + c * n
  | 0, s, _, _ => ⟨s, rfl, rfl, by simp⟩
  | n + 1, s, hl, hs => by
    have hm : c * ((n + 1 : Nat) : Int) = c * n + c := by rw [Int.natCast_add]; simp [Int.mul_add]
    have hp : 0 ≤ c * (n : Int) := Int.mul_nonneg h0 (by omega)
    rw [hm] at hs
    obtain ⟨s1, e1, l1, k1⟩ := hb sz s hl (by omega)
    obtain ⟨s2, e2, l2, k2⟩ := bal_itr h0 hb sz n s1 (by rw [l1]; exact hl) (by omega)
    exact ⟨s2, by rw [itr, e1]; exact e2, by rw [l2, l1], by rw [hm]; omega⟩
theorem bal_pc1 {C : Int} {u : List Opn} (h : Pc1 C u) {enc : Int} (he : enc < 3) : Bal C u 10 enc := by
  obtain ⟨u0, h0, h⟩ := h
  have hlen := uform_len h0
  rcases h with rfl | ⟨c, rfl⟩
  · intro sz s hl hs
    obtain ⟨s', e, l1, k⟩ := bal_unit h0 enc sz s hl (by omega)
    exact ⟨s', e, l1, by omega⟩
  · intro sz s hl hs
    obtain ⟨l, st, f⟩ := s
    simp only at hl hs
    have l1 : ∀ v : Int, (l ++ [v]).length = l.length + 1 := fun v => by rw [List.length_append]; rfl
    obtain ⟨v1, f1, e1⟩ := op_put (C := C) (sz := sz) (enc := enc) (f := f) (c := 9) (n := 0) (l := l) (rest := ⟨1, c, 0⟩ :: ⟨3, 0, 0⟩ :: ⟨14, (u0.length : Nat), 0⟩ :: u0) (.inr (.inl ⟨rfl, rfl⟩)) (show st < 2000 by omega) (show l.length < 8 by omega)
    obtain ⟨v2, f2, e2⟩ := op_put (C := C) (sz := sz) (enc := enc) (f := f1) (c := 1) (n := c) (l := l ++ [v1]) (rest := ⟨3, 0, 0⟩ :: ⟨14, (u0.length : Nat), 0⟩ :: u0) (.inl rfl) (show st + 1 < 2000 by omega) (show (l ++ [v1]).length < 8 by rw [l1]; omega)
    obtain ⟨v3, f3, e3⟩ := op_bin (C := C) (sz := sz) (enc := enc) (x := v1) (y := v2) (f := f2) (c := 3) (rest := ⟨14, (u0.length : Nat), 0⟩ :: u0) (by omega) (show st + 1 + 1 < 2000 by omega) (show l.length < 8 by omega)
    have hE : chkE C ((l ++ [v3]).length : Nat) (st + 1 + 1 + 1) ⟨14, (u0.length : Nat), 0⟩ (u0.length : Nat) enc = 0 := by
      refine chk_yes (by omega) (show (1 : Int) ≤ 14 by decide) (show (14 : Int) ≤ 15 by decide) (.inr rfl) (.inl rfl) (fun _ => ⟨?_, he⟩) ?_ ?_ (fun h => by cases h)
      · unfold fitB blkL
        simp only [if_true, decide_true, Bool.true_or, Bool.true_and]
        rw [Bool.and_eq_true, decide_eq_true_iff, decide_eq_true_iff]
        omega
      · rw [l1]
        show (1 : Int) ≤ ((l.length + 1 : Nat) : Int)
        omega
      · rw [l1]
        show ((l.length + 1 : Nat) : Int) - 1 + 0 ≤ 8
        omega
    have hgo := runL_go (sz := sz) (s := ⟨l ++ [v3], st + 1 + 1 + 1, f3⟩) (rest := u0) hE
    have hbl : (blkL ⟨14, (u0.length : Nat), 0⟩).toNat = u0.length := by
      unfold blkL
      simp
    rw [hbl, List.take_length, List.drop_length] at hgo
    have hnx : ∃ f', nxS sz ⟨14, (u0.length : Nat), 0⟩ ⟨l ++ [v3], st + 1 + 1 + 1, f3⟩ = ⟨l, st + 1 + 1 + 1 + 1, f'⟩ := by
      obtain ⟨v, f', e⟩ := nx_shape 14 (u0.length : Nat) sz l [v3] (st + 1 + 1 + 1) f3 rfl
      exact ⟨f', e⟩
    obtain ⟨f', hnx⟩ := hnx
    have hr : (rndS sz ⟨14, (u0.length : Nat), 0⟩ ⟨l ++ [v3], st + 1 + 1 + 1, f3⟩).toNat = 0 ∨ (rndS sz ⟨14, (u0.length : Nat), 0⟩ ⟨l ++ [v3], st + 1 + 1 + 1, f3⟩).toNat = 1 := by
      have e : rndS sz ⟨14, (u0.length : Nat), 0⟩ ⟨l ++ [v3], st + 1 + 1 + 1, f3⟩ = if 0 < (topL 14 (l ++ [v3])).getD 0 0 then 1 else 0 := rfl
      rw [e]
      split
      · exact .inr rfl
      · exact .inl rfl
    rw [hnx] at hgo
    have hall : runL C sz ([⟨9, 0, 0⟩, ⟨1, c, 0⟩, ⟨3, 0, 0⟩, ⟨14, (u0.length : Nat), 0⟩] ++ u0) enc ⟨l, st, f⟩ = bindR (itr (runL C sz u0 (enc + 1)) (rndS sz ⟨14, (u0.length : Nat), 0⟩ ⟨l ++ [v3], st + 1 + 1 + 1, f3⟩).toNat ⟨l, st + 1 + 1 + 1 + 1, f'⟩) (runL C sz [] enc) := by
      show runL C sz (⟨9, 0, 0⟩ :: ⟨1, c, 0⟩ :: ⟨3, 0, 0⟩ :: ⟨14, (u0.length : Nat), 0⟩ :: u0) enc ⟨l, st, f⟩ = _
      rw [e1, e2, e3, hgo]
    rcases hr with hr | hr
    · rw [hr] at hall
      exact ⟨⟨l, st + 1 + 1 + 1 + 1, f'⟩, hall, rfl, by simp only; omega⟩
    · rw [hr] at hall
      obtain ⟨s', x1, x2, x3⟩ := bal_unit h0 (enc + 1) sz ⟨l, st + 1 + 1 + 1 + 1, f'⟩ (by simp only; omega) (by simp only; omega)
      rw [itr, x1] at hall
      exact ⟨s', hall, x2, by simp only at x3 ⊢; omega⟩
/-- A loop at the beginning. -/
theorem run_loop {C sz enc st : Int} {l : List Int} {f : Nat → Pt} {u : List Opn} {r : Int} (hr : 1 ≤ r ∧ r ≤ 16) (hu : 1 ≤ u.length) (he : enc < 3) (hst : st < 2000) (hl : l.length ≤ 8) :
    runL C sz ([⟨15, r, (u.length : Nat)⟩] ++ u) enc ⟨l, st, f⟩ = itr (runL C sz u (enc + 1)) r.toNat ⟨l, st + 1, f⟩ := by
  have hE : chkE C (l.length : Nat) st ⟨15, r, (u.length : Nat)⟩ (u.length : Nat) enc = 0 := by
    refine chk_yes hst (show (1 : Int) ≤ 15 by decide) (show (15 : Int) ≤ 15 by decide) (.inr rfl) (.inr rfl) (fun _ => ⟨?_, he⟩) ?_ ?_ (fun h => by cases h)
    · unfold fitB blkL
      rw [Bool.and_eq_true, Bool.and_eq_true, Bool.or_eq_true, Bool.and_eq_true, decide_eq_true_iff, decide_eq_true_iff, decide_eq_true_iff, decide_eq_true_iff, decide_eq_true_iff]
      refine ⟨.inr hr, ?_, ?_⟩
      · show (1 : Int) ≤ (u.length : Nat)
        omega
      · show ((u.length : Nat) : Int) ≤ (u.length : Nat)
        omega
    · show (0 : Int) ≤ (l.length : Nat)
      omega
    · show ((l.length : Nat) : Int) - 0 + 0 ≤ 8
      omega
  have hgo := runL_go (sz := sz) (s := ⟨l, st, f⟩) (rest := u) hE
  have hbl : (blkL ⟨15, r, (u.length : Nat)⟩).toNat = u.length := by
    unfold blkL
    simp
  rw [hbl, List.take_length, List.drop_length] at hgo
  obtain ⟨v, f', e⟩ := nx_shape 15 r sz l [] st f rfl
  have hnx : nxS sz ⟨15, r, (u.length : Nat)⟩ ⟨l, st, f⟩ = ⟨l, st + 1, f⟩ := by
    have e2 : lowL 15 l = l := by
      unfold lowL
      exact List.take_length
    show nxK sz 15 r ⟨l, st, f⟩ = _
    unfold nxK
    simp only [e2]
    rfl
  have hrd : rndS sz ⟨15, r, (u.length : Nat)⟩ ⟨l, st, f⟩ = r := rfl
  rw [hnx, hrd] at hgo
  show runL C sz (⟨15, r, (u.length : Nat)⟩ :: u) enc ⟨l, st, f⟩ = _
  rw [hgo]
  cases itr (runL C sz u (enc + 1)) r.toNat ⟨l, st + 1, f⟩ with
  | ok s => rfl
  | er E => rfl
theorem bal_pc2 {C : Int} {u : List Opn} (h : Pc2 C u) {enc : Int} (he : enc < 2) : Bal C u 31 enc := by
  obtain ⟨u1, h1, h⟩ := h
  have hlen := pc1_len h1
  rcases h with rfl | ⟨r, r1, r2, rfl⟩
  · intro sz s hl hs
    obtain ⟨s', e, l1, k⟩ := bal_pc1 h1 (show enc < 3 by omega) sz s hl (by omega)
    exact ⟨s', e, l1, by omega⟩
  · intro sz s hl hs
    obtain ⟨l, st, f⟩ := s
    simp only at hl hs
    rw [run_loop ⟨r1, by omega⟩ hlen.1 (by omega) (by omega) (by omega)]
    obtain ⟨s', e, l1, k⟩ := bal_itr (by omega) (bal_pc1 h1 (show enc + 1 < 3 by omega)) sz r.toNat ⟨l, st + 1, f⟩ hl (by simp only; omega)
    exact ⟨s', e, l1, by simp only at k ⊢; omega⟩
theorem bal_flat {C : Int} {enc : Int} (he : enc < 2) : ∀ (ps : List (List Opn)), (∀ p ∈ ps, Pc2 C p) → Bal C ps.flatten (31 * ps.length) enc
  | [], _ => fun sz s _ _ => ⟨s, rfl, rfl, by simp⟩
  | p :: r, h => by
    have h1 := bal_app (c1 := 31) (c2 := 31 * r.length) (by omega) (bal_pc2 (h p List.mem_cons_self) he) (bal_flat he r (fun q hq => h q (List.mem_cons_of_mem _ hq)))
    rw [List.flatten_cons, List.length_cons, show (31 : Int) * ((r.length + 1 : Nat) : Int) = 31 + 31 * r.length by omega]
    exact h1
theorem bal_made {C : Int} {p : List Opn} (h : MadeP C p) {enc : Int} (he : enc < 2) : Bal C p 93 enc := by
  obtain ⟨ps, h1, h2, rfl⟩ := h
  intro sz s hl hs
  obtain ⟨s', e, l1, k⟩ := bal_flat he ps h2 sz s hl (by omega)
  exact ⟨s', e, l1, by omega⟩
end Go.Proofs.Ytdgagjcocohnnaa.Mc
namespace Go.Proofs.Ytdgagjcocohnnaa.Mc
open Go.RowKit
open Go.Proofs.Ytdgagjcocohnnaa.Ot (Pt pre shP p0)
def bdP (p : Pt) : Prop := (-2147483648 ≤ p.x ∧ p.x ≤ 2147483648) ∧ (-2147483648 ≤ p.y ∧ p.y ≤ 2147483648)
def Inv (C : Int) (s : MS) : Prop := (∀ x ∈ s.l, L30 x) ∧ ∀ n : Nat, (n : Int) < C → bdP (s.f n)
theorem inv_nx {C sz : Int} {s : MS} {p : Opn} (h : Inv C s) : Inv C (nxS sz p s) := by
  obtain ⟨h1, h2⟩ := h
  have ht := l30_at (t := topL p.c.toNat s.l) h1 (fun x hx => List.mem_of_mem_drop hx) 0
  refine ⟨fun x hx => ?_, fun n hn => ?_⟩
  · unfold nxS nxK at hx
    simp only at hx
    split at hx
    · exact h1 x (List.mem_of_mem_take hx)
    · rcases List.mem_append.1 hx with h | h
      · exact h1 x (List.mem_of_mem_take h)
      · rw [List.mem_singleton] at h
        subst h
        exact lim_in _
  · unfold nxS nxK
    simp only
    split
    · simp only
      split
      · have := h2 n hn
        unfold setP
        split
        · exact ⟨⟨by have := ht.1; simp only; omega, by have := ht.2; simp only; omega⟩, this.2⟩
        · split
          · exact ⟨this.1, ⟨by have := ht.1; simp only; omega, by have := ht.2; simp only; omega⟩⟩
          · exact this
      · exact h2 n hn
    · exact h2 n hn
theorem inv_run {C sz : Int} {l : List Opn} {enc : Int} {s s' : MS} (h : runL C sz l enc s = .ok s') (hs : Inv C s) : Inv C s' := run_inv (I := Inv C) (fun _ _ _ _ _ hi => inv_nx hi) l.length l enc s s' h hs
theorem sh_id2 {p : Pt} (h : bdP p) : shP 0 0 p = p := by
  obtain ⟨x, y, o⟩ := p
  obtain ⟨hx, hy⟩ := h
  simp only at hx hy
  unfold shP
  simp only [Int.add_zero]
  rw [IntWalk.wrap64_in x ⟨by omega, by omega⟩, IntWalk.wrap64_in y ⟨by omega, by omega⟩]
theorem joins_math {C sz : Int} {p q : List Opn} (hp : MadeP C p) (hq : MadeP C q) (F : Nat → Pt) (hF : ∀ n : Nat, (n : Int) < C → bdP (F n)) : ∃ s1, runL C sz p 0 ⟨[], 0, F⟩ = .ok s1 ∧ 0 ≤ s1.st ∧ s1.st ≤ 93 ∧ (∀ n : Nat, (n : Int) < C → bdP (s1.f n)) ∧
    ∀ F1 : Nat → Pt, (∀ n : Nat, (n : Int) < C → F1 n = s1.f n) → ∃ s2 t, runL C sz q 0 ⟨[], 0, F1⟩ = .ok s2 ∧ 0 ≤ s2.st ∧ s2.st ≤ 93 ∧ runL C sz (p ++ q) 0 ⟨[], 0, F⟩ = .ok t ∧ t.st = s1.st + s2.st ∧ ∀ n : Nat, (n : Int) < C → t.f n = s2.f n := by
  obtain ⟨s1, e1, l1, k1⟩ := bal_made hp (enc := 0) (by decide) sz ⟨[], 0, F⟩ (show 0 + 3 ≤ 8 by decide) (by simp)
  simp only at l1 k1
  have i1 := inv_run e1 (show Inv C ⟨[], 0, F⟩ from ⟨fun x hx => (by cases hx), hF⟩)
  have m1 : 0 ≤ s1.st := run_st (F := p.length) (l := p) (enc := 0) e1
  refine ⟨s1, e1, m1, by omega, i1.2, fun F1 hF1 => ?_⟩
  obtain ⟨s2, e2, l2, k2⟩ := bal_made hq (enc := 0) (by decide) sz ⟨[], 0, F1⟩ (show 0 + 3 ≤ 8 by decide) (by simp)
  simp only at l2 k2
  have m2 : 0 ≤ s2.st := run_st (F := q.length) (l := q) (enc := 0) e2
  obtain ⟨t1, hS1, e3⟩ := run_more C sz p.length p (Nat.le_refl _) q 0 0 (Int.le_refl _) 0 ⟨[], 0, F⟩ ⟨[], 0, F⟩ s1 (sim_self C _) e1 (by omega)
  have hS2 : Sim C s1.st ⟨[], 0, F1⟩ t1 := ⟨by rw [← hS1.l, l1], by have := hS1.st; simp only; omega, fun n hn => (hF1 n hn).trans (hS1.f n hn)⟩
  obtain ⟨t2, hS3, e4⟩ := run_more C sz q.length q (Nat.le_refl _) [] 0 0 (Int.le_refl _) s1.st ⟨[], 0, F1⟩ t1 s2 hS2 e2 (by omega)
  rw [List.append_nil, runL_nil] at e4
  exact ⟨s2, t2, e2, m2, by omega, by rw [e3, e4], by have := hS3.st; omega, fun n hn => (hS3.f n hn).symm⟩
/-- A program, some times over. -/
def rep (p : List Opn) : Nat → List Opn
  | 0 => []
  | n + 1 => p ++ rep p n
theorem rep_len (p : List Opn) : ∀ n, (rep p n).length = n * p.length
  | 0 => by simp [rep]
  | n + 1 => by rw [rep, List.length_append, rep_len p n, Nat.succ_mul, Nat.add_comm]
theorem rep_app (p : List Opn) : ∀ n, rep p n ++ p = rep p (n + 1)
  | 0 => by simp [rep]
  | n + 1 => by
    show p ++ rep p n ++ p = p ++ rep p (n + 1)
    rw [List.append_assoc, rep_app p n]
theorem itr_rep {C sz : Int} {p : List Opn} {d : Int} : ∀ (r : Nat) (s t s' : MS), Sim C d s t → itr (runL C sz p 1) r s = .ok s' → s'.st + d ≤ 2000 → ∃ t', Sim C d s' t' ∧ runL C sz (rep p r) 0 t = .ok t'
  | 0, s, t, s', hS, h, _ => by
    injection h with h
    subst h
    exact ⟨t, hS, rfl⟩
  | r + 1, s, t, s', hS, h, hb => by
    rw [itr] at h
    cases hc : runL C sz p 1 s with
    | ok s1 =>
      rw [hc] at h
      have h1 := itr_inv (I := fun q => s1.st ≤ q.st) (fun a b hab ha => by have : a.st ≤ b.st := run_st (F := p.length) (l := p) (enc := 1) hab; omega) r s1 s' h (Int.le_refl _)
      obtain ⟨t1, hS1, e1⟩ := run_more C sz p.length p (Nat.le_refl _) (rep p r) 1 0 (by decide) d s t s1 hS hc (by omega)
      obtain ⟨t', hS', e2⟩ := itr_rep r s1 t1 s' hS1 h hb
      exact ⟨t', hS', by rw [rep, e1]; exact e2⟩
    | er E => rw [hc] at h; cases h
theorem loops_math {C sz : Int} {p : List Opn} (hp : MadeP C p) (hl : 1 ≤ p.length) (r : Nat) (hr : 1 ≤ r ∧ r ≤ 4) (F : Nat → Pt) : ∃ s t, runL C sz ([⟨15, (r : Int), (p.length : Nat)⟩] ++ p) 0 ⟨[], 0, F⟩ = .ok s ∧ runL C sz (rep p r) 0 ⟨[], 0, F⟩ = .ok t ∧ s.st = t.st + 1 ∧ 0 ≤ t.st ∧ t.st ≤ 1000 ∧ ∀ n : Nat, (n : Int) < C → s.f n = t.f n := by
  have hlo := run_loop (C := C) (sz := sz) (enc := 0) (st := 0) (l := []) (f := F) (u := p) (r := (r : Int)) ⟨by omega, by omega⟩ hl (by decide) (by decide) (by decide)
  rw [Int.toNat_natCast] at hlo
  obtain ⟨s, e1, l1, k1⟩ := bal_itr (by decide) (bal_made hp (enc := 1) (by decide)) sz r ⟨[], 0 + 1, F⟩ (show 0 + 3 ≤ 8 by decide) (by simp only; omega)
  simp only at l1 k1
  obtain ⟨t, hS, e2⟩ := itr_rep (C := C) (sz := sz) (p := p) (d := -1) r ⟨[], 0 + 1, F⟩ ⟨[], 0, F⟩ s ⟨rfl, by simp, fun _ _ => rfl⟩ e1 (by omega)
  have m : 0 ≤ t.st := run_st (F := (rep p r).length) (l := rep p r) (enc := 0) e2
  have := hS.st
  exact ⟨s, t, hlo.trans e1, e2, by omega, m, by omega, hS.f⟩
end Go.Proofs.Ytdgagjcocohnnaa.Mc
