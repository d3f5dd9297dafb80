/-
  Layer 9 (machine): the document's draws; a short part of a program.
-/
import Derived.Test.YtdgagjcocohnnaaMcU
import Derived.Test.YtdgagjcocohnnaaAxOne
namespace Go.Proofs.Ytdgagjcocohnnaa.Mc
open Go.RowKit
open Go.Proofs.Ytdgagjcocohnnaa.Ax (DS LA nxV nxA nxV_in nxA_le ds_below la_below la_grown Next_any)
/-- A list of numbers that are drawn one after the other, in its block B. -/
def DrW (B : Nat) (V : World) : Prop := ∃ (a : Option Addr) (L c k : Nat) (l : Nat → Int), L ≤ 9223372036854775807 ∧ k ≤ L ∧ DS V B a L c k ∧ LA V a L l ∧ (∀ i, i < L → Ax.R64 (l i)) ∧ (∀ q, a = some q → 0 < L → q.block < B)
theorem drw_below {B : Nat} {V V' : World} (h : DrW B V) (hB : Below V.heap.size V V') : DrW B V' := by
  obtain ⟨a, L, c, k, l, h1, h2, h3, h4, h5, h6⟩ := h
  exact ⟨a, L, c, k, l, h1, h2, ds_below h3 hB, la_below h4 hB, h5, h6⟩
theorem drw_row {B : Nat} {V V' : World} {r : Option Nat} (h : DrW B V) (hG : V.grownBy V' r) (hr : ∀ q, r = some q → B + 1 ≤ q) : DrW B V' := by
  obtain ⟨a, L, c, k, l, h1, h2, ⟨s0, s1, s2⟩, h4, h5, h6⟩ := h
  have blk : ∀ b, b ≤ B → ∀ o v, V.cell? ⟨b, o, none⟩ = some v → V'.heap[b]? = V.heap[b]? := fun b hb o v hc => hG.block b (block_lt_of_cell hc) (fun e => by have := hr b e.symm; omega)
  have cel : ∀ b, b ≤ B → ∀ o v, V.cell? ⟨b, o, none⟩ = some v → V'.cell? ⟨b, o, none⟩ = some v := fun b hb o v hc => by
    have e := blk b hb o v hc
    unfold World.cell? at hc ⊢
    rw [e]; exact hc
  refine ⟨a, L, c, k, l, h1, h2, ⟨cel B (Nat.le_refl _) _ _ s0, cel B (Nat.le_refl _) _ _ s1, ?_⟩, fun i hi => ?_, h5, h6⟩
  · have e := blk B (Nat.le_refl _) _ _ s1
    unfold World.frozen? at s2 ⊢
    rw [e]; exact s2
  · obtain ⟨b, o, e, hc⟩ := h4 i hi
    have := h6 _ e (by omega)
    exact ⟨b, o, e, cel b (by simp only at this; omega) _ _ hc⟩
theorem next_w (B : Nat) (n : Int) (hn : 1 ≤ n ∧ n ≤ 1000000) (w : World) (h : DrW B w) :
    Calls Try.prog 31 #[.pointer (some ⟨B, 0, none⟩), .int .i64 n] w fun e w' => ∃ x : Int, e = .returned (.int .i64 x) ∧ 0 ≤ x ∧ x < n ∧ DrW B w' ∧ w.grownBy w' (some B) := by
  obtain ⟨a, L, c, k, l, h1, h2, h3, h4, h5, h6⟩ := h
  refine (Next_any B a L c k l n hn h1 h2 w h3 h4 h5 (fun q e h0 => by have := h6 q e h0; omega)).mono ?_
  rintro e w' ⟨rfl, hd, hg⟩
  exact ⟨_, rfl, (nxV_in hn.1).1, (nxV_in hn.1).2, ⟨a, L, c, nxA L k, l, h1, nxA_le h2, hd, la_grown h4 hg (fun q e h0 => by have := h6 q e h0; omega), h5, h6⟩, hg⟩
/-- The parts that are made. -/
def UForm (C : Int) (u : List Opn) : Prop := ∃ (a b g : Int), 0 ≤ a ∧ a < C ∧ 0 ≤ b ∧ b < C ∧ (g = 10 ∨ g = 11) ∧
  (u = [⟨g, a, 0⟩, ⟨8, 0, 0⟩, ⟨g + 2, a, 0⟩] ∨ (∃ j, 2 ≤ j ∧ j < 6 ∧ u = [⟨g, a, 0⟩, ⟨g, b, 0⟩, ⟨j, 0, 0⟩, ⟨g + 2, a, 0⟩]) ∨
   (∃ j c, 6 ≤ j ∧ j < 8 ∧ u = [⟨g, a, 0⟩, ⟨j, 0, 0⟩, ⟨1, c, 0⟩, ⟨3, 0, 0⟩, ⟨g + 2, b, 0⟩]) ∨ u = [⟨9, 0, 0⟩, ⟨9, 0, 0⟩, ⟨2, 0, 0⟩, ⟨g, a, 0⟩, ⟨5, 0, 0⟩, ⟨g + 2, b, 0⟩])
def UnP (C : Int) (B : Nat) (w : World) (e : Ending) (w' : World) : Prop := ∃ (b n : Nat) (u : List Opn), e = .returned (.slice (some ⟨b, 0, none⟩) n n) ∧ u.length = n ∧ UForm C u ∧ PrA w'.heap.size w' (some ⟨b, 0, none⟩) u ∧ DrW B w' ∧ w.grownBy w' (some B) ∧ w.heap.size ≤ b
theorem un_end {C : Int} {B : Nat} {w V : World} {u : List Opn} {n : Nat} {cs : Array Value} (hu : UForm C u) (hn : u.length = n) (hcs : cs = (opCells u).toArray) (hD : DrW B V) (hG : w.grownBy V (some B)) : UnP C B w (.returned (.slice (some ⟨V.heap.size, 0, none⟩) n n)) (V.alloc (.cells cs 45)) := by
  subst hcs
  exact ⟨_, n, u, rfl, hn, hu, pra_lit V u _, drw_below hD (ba (Below.refl _ _) _), ga hG _, hG.size⟩
set_option maxRecDepth 100000 in
set_option maxHeartbeats 8000000 in
theorem unit_any (B : Nat) (C : Int) (hC : 1 ≤ C ∧ C ≤ 1000000) (w : World) (hD : DrW B w) :
    Calls Try.prog 32 #[.pointer (some ⟨B, 0, none⟩), .int .i64 C] w (UnP C B w) := by
  have NX := Lib.hid (fun n (hn : 1 ≤ n ∧ n ≤ 1000000) W (h : DrW B W) => next_w B n hn W h)
  have HC := Lib.hid hC
  clear hC
  go_enter Try.func32, Try.ntmps32
  go_wp2_with fail
  refine (NX.out C HC.out w hD).mono ?_
  rintro e V1 ⟨a, rfl, a0, a1, hD1, hG1⟩
  go_wp2_with fail
  refine (NX.out C HC.out V1 hD1).mono ?_
  rintro e V2 ⟨b, rfl, b0, b1, hD2, hG2⟩
  replace hG2 := hG1.trans hG2
  clear hG1 hD1 hD
  go_wp2_with fail
  refine (NX.out 2 (by decide) V2 hD2).mono ?_
  rintro e V3 ⟨x, rfl, x0, x1, hD3, hG3⟩
  replace hG3 := hG2.trans hG3
  clear hG2 hD2
  obtain ⟨g, hg, hg2⟩ : ∃ g, 10 + x = g ∧ (g = 10 ∨ g = 11) := ⟨_, rfl, by omega⟩
  have w1 : wrap64 (10 + x) = g := by rw [hg]; exact IntWalk.wrap64_in _ ⟨by omega, by omega⟩
  have w2 : wrap64 (g + 12) = g + 12 := IntWalk.wrap64_in _ ⟨by omega, by omega⟩
  have w3 : wrap64 (g + 12 - 10) = g + 2 := by rw [show g + 12 - 10 = g + 2 by omega]; exact IntWalk.wrap64_in _ ⟨by omega, by omega⟩
  have HF := Lib.hid (show ∀ u, _ → UForm C u from fun u h => ⟨a, b, g, a0, a1, b0, b1, hg2, h⟩)
  clear a0 a1 b0 b1 x0 x1
  go_upto_region 5 with (fail)
  rw [show g + 12 - 10 = g + 2 by omega]
  clear w1 w2 w3 hg hg2
  have X4 := Lib.hid (NX.out 4 (by decide) V3 hD3)
  clear hD3
  go_wp2_with fail
  refine X4.out.mono ?_
  rintro e V4 ⟨y, rfl, y0, y1, hD4, hG4⟩
  replace hG4 := hG3.trans hG4
  clear hG3 X4
  obtain rfl | rfl | rfl | rfl : y = 0 ∨ y = 1 ∨ y = 2 ∨ y = 3 := by omega
  · have R := Lib.hid (un_end (n := 3) (HF.out _ (.inl rfl)) rfl rfl hD4 hG4)
    clear HF NX hD4 hG4
    go_wp2_with fail
    go_ret
    exact R.out
  · have X5 := Lib.hid (NX.out 4 (by decide) V4 hD4)
    clear hD4
    go_wp2_with fail
    refine X5.out.mono ?_
    rintro e V5 ⟨z, rfl, z0, z1, hD5, hG5⟩
    replace hG5 := hG4.trans hG5
    clear hG4 X5
    obtain ⟨j, hj, hj2⟩ : ∃ j, 2 + z = j ∧ (2 ≤ j ∧ j < 6) := ⟨_, rfl, by omega⟩
    have w1 : wrap64 (2 + z) = j := by rw [hj]; exact IntWalk.wrap64_in _ ⟨by omega, by omega⟩
    have R := Lib.hid (un_end (n := 4) (HF.out _ (.inr (.inl ⟨j, hj2.1, hj2.2, rfl⟩))) rfl rfl hD5 hG5)
    clear HF NX hD5 hG5
    go_wp2_with fail
    go_ret
    exact R.out
  · have X5 := Lib.hid (NX.out 2 (by decide) V4 hD4)
    clear hD4
    go_wp2_with fail
    refine X5.out.mono ?_
    rintro e V5 ⟨z, rfl, z0, z1, hD5, hG5⟩
    replace hG5 := hG4.trans hG5
    clear hG4 X5
    obtain ⟨j, hj, hj2⟩ : ∃ j, 6 + z = j ∧ (6 ≤ j ∧ j < 8) := ⟨_, rfl, by omega⟩
    have w1 : wrap64 (6 + z) = j := by rw [hj]; exact IntWalk.wrap64_in _ ⟨by omega, by omega⟩
    have X6 := Lib.hid (NX.out 129 (by decide) V5 hD5)
    clear hD5
    go_wp2_with fail
    refine X6.out.mono ?_
    rintro e V6 ⟨q, rfl, q0, q1, hD6, hG6⟩
    replace hG6 := hG5.trans hG6
    clear hG5 X6
    obtain ⟨c, hc⟩ : ∃ c, q - 64 = c := ⟨_, rfl⟩
    have w4 : wrap64 (q - 64) = c := by rw [hc]; exact IntWalk.wrap64_in _ ⟨by omega, by omega⟩
    have R := Lib.hid (un_end (n := 5) (HF.out _ (.inr (.inr (.inl ⟨j, c, hj2.1, hj2.2, rfl⟩)))) rfl rfl hD6 hG6)
    clear HF NX hD6 hG6
    go_wp2_with fail
    go_ret
    exact R.out
  · have R := Lib.hid (un_end (n := 6) (HF.out _ (.inr (.inr (.inr rfl)))) rfl rfl hD4 hG4)
    clear HF NX hD4 hG4
    go_wp2_with fail
    go_ret
    exact R.out
end Go.Proofs.Ytdgagjcocohnnaa.Mc
