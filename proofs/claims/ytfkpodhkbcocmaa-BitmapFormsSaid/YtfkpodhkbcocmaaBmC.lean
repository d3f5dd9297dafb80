/-
  Layer 4 (bitmap): New, and the document's own.
-/
import Derived.Test.YtfkpodhkbcocmaaBmB
import Derived.Lib.AppendIntMem
import Derived.Deep.MidRow
namespace Go.Proofs.Ytfkpodhkbcocmaa.Bm
open Go.RowKit
/-- Dots in a block of their own, which may be written. -/
def OB (w : World) (b n : Nat) (f : Nat → Bool) : Prop := ∀ i, i < n → w.cell? ⟨b, i, none⟩ = some (.bool (f i)) ∧ w.frozen? ⟨b, i, none⟩ = false
theorem ob_da {w : World} {b n : Nat} {f : Nat → Bool} (h : OB w b n f) : DA w (some ⟨b, 0, none⟩) n f := fun i hi => ⟨b, 0, rfl, by rw [Nat.zero_add]; exact (h i hi).1⟩
theorem ob_below {w W : World} {b n : Nat} {f : Nat → Bool} (h : OB w b n f) (hB : Below w.heap.size w W) : OB W b n f := fun i hi =>
  ⟨kc hB (block_lt_of_cell (h i hi).1) (h i hi).1, kf hB (block_lt_of_cell (h i hi).1) (h i hi).2⟩
theorem ob_congr {w : World} {b n : Nat} {f g : Nat → Bool} (h : OB w b n f) (e : ∀ i, i < n → f i = g i) : OB w b n g := fun i hi => by rw [← e i hi]; exact h i hi
theorem ob_set {w : World} {b n k : Nat} {f g : Nat → Bool} {v : Bool} (h : OB w b n f) (hk : k < n) (e : ∀ i, g i = if i = k then v else f i) : OB (w.setCell ⟨b, k, none⟩ (.bool v)) b n g := fun i hi => by
  obtain ⟨h1, h2⟩ := h i hi
  obtain ⟨k1, k2⟩ := h k hk
  rw [e]
  by_cases hik : i = k
  · subst hik
    rw [if_pos rfl]
    exact ⟨by go_cell, by go_cell⟩
  · rw [if_neg hik]
    have hne : ¬ k = i := fun h => hik h.symm
    exact ⟨by go_cell, by go_cell⟩
theorem ob_other {w : World} {b b' n k : Nat} {f : Nat → Bool} {v : Value} (h : OB w b n f) (hne : b ≠ b') : OB (w.setCell ⟨b', k, none⟩ v) b n f := fun i hi => by
  obtain ⟨h1, h2⟩ := h i hi
  have hne2 : ¬ b' = b := fun h => hne h.symm
  exact ⟨by go_cell, by go_cell⟩
theorem infoB : (Try.prog.info? 4).map (fun i => (i.zero, i.size, i.bytes)) = some (some (.bool false), 1, 1) := by kernel_rfl
theorem below_none {w v : World} (k : w.grownBy v none) : Below w.heap.size w v := ⟨k.os, k.tape, k.output, k.size, fun i hi => k.block i hi (by simp)⟩
theorem ob_made {W : World} {n₀ b m : Nat} (h : W.ownsRow n₀ 4 1 (.slice (some ⟨b, 0, none⟩) m m) m (madeCells #[.bool false] (m * 1)).toList) : OB W b m (fun _ => false) := by
  intro i hi
  have hlt : i < m * 1 := by omega
  refine ⟨?_, ?_⟩
  · rw [h.cellAt _ hlt]
    simp only [madeCells, Array.toList_map, Array.toList_range, List.getElem?_map, List.getElem?_range hlt, Option.map_some, List.size_toArray, List.length_cons, List.length_nil, Nat.zero_add, Nat.mod_one]
    rfl
  · obtain ⟨_, h2⟩ := h
    rcases h2 with ⟨h2, _⟩ | ⟨g, cap, cur, h2, _, hh, _⟩
    · cases h2
    · cases h2
      simp [World.frozen?, hh]
theorem row_lt {W : World} {n₀ b m e s : Nat} {l : List Value} (h : W.ownsRow n₀ e s (.slice (some ⟨b, 0, none⟩) m m) m l) : b < W.heap.size := by
  obtain ⟨_, h2⟩ := h
  rcases h2 with ⟨h2, _⟩ | ⟨g, cap, cur, h2, _, hh, _⟩
  · cases h2
  · cases h2
    exact (Array.getElem?_eq_some_iff.1 hh).1
theorem make_bools (W : World) (n : Nat) (h : n ≤ 100000) : ∃ W', (Instr.makeSlice 26 (.int .i64 (n : Int)) (.int .i64 (n : Int))).run Try.prog W = .ok (.slice (some ⟨W.heap.size, 0, none⟩) n n) W' ∧ OB W' W.heap.size n (fun _ => false) ∧ Below W.heap.size W W' ∧ W.heap.size < W'.heap.size := by
  obtain ⟨i0, hi, hz0, hz1, hz2⟩ := info_parts infoB
  obtain ⟨w1, hmk, hown, hgr⟩ := run_make_full (P := Try.prog) W W.heap.size 26 4 i0 _ 1 Try.underlying26 hi hz0 hz1 .i64 .i64 n (by rw [hz2]; omega) (by unfold maxLen; omega) (Nat.le_refl _)
  exact ⟨w1, hmk, ob_made hown, below_none hgr, row_lt hown⟩
theorem fz3 {w W1 : World} {b : Nat} {x y z : Value} {T : TypeId} (hb : Below (w.alloc (.cells #[x, y, z] T)).heap.size (w.alloc (.cells #[x, y, z] T)) W1) (e : b = w.heap.size) :
    W1.frozen? ⟨b, 0, none⟩ = false ∧ W1.frozen? ⟨b, 1, none⟩ = false ∧ W1.frozen? ⟨b, 2, none⟩ = false := by
  subst e
  exact ⟨kf hb (by simp) (by go_cell), kf hb (by simp) (by go_cell), kf hb (by simp) (by go_cell)⟩
theorem kf3 {w W : World} {b : Nat} {x y z : Value} (hb : Below w.heap.size w W) (h : w.cell? ⟨b, 0, none⟩ = some x ∧ w.cell? ⟨b, 1, none⟩ = some y ∧ w.cell? ⟨b, 2, none⟩ = some z)
    (hf : w.frozen? ⟨b, 0, none⟩ = false ∧ w.frozen? ⟨b, 1, none⟩ = false ∧ w.frozen? ⟨b, 2, none⟩ = false) :
    W.frozen? ⟨b, 0, none⟩ = false ∧ W.frozen? ⟨b, 1, none⟩ = false ∧ W.frozen? ⟨b, 2, none⟩ = false :=
  ⟨kf hb (block_lt_of_cell h.1) hf.1, kf hb (block_lt_of_cell h.2.1) hf.2.1, kf hb (block_lt_of_cell h.2.2) hf.2.2⟩
set_option maxHeartbeats 1000000 in
theorem New_no (W H : Int) (h : (sd W && sd H) = false) (w : World) :
    Calls Try.prog 19 #[.int .i64 W, .int .i64 H] w fun e w' => e = .returned (.tuple #[bv 0 0 none 0 0, .int .i64 13]) ∧ Below w.heap.size w w' := by
  have S1 := Lib.hid (isSide_any W)
  have S2 := Lib.hid (isSide_any H)
  unfold bv
  rcases h1 : sd W with _ | _
  · rw [h1] at S1
    go_enter Try.func19, Try.ntmps19
    go_wp2_with fail
    refine (S1.out _).mono ?_
    rintro e w1 ⟨rfl, hb1⟩
    have hBa := ba (Below.refl _ w) (.cells #[.int .i64 0, .int .i64 0, .slice none 0 0] 28)
    obtain ⟨c0, c1, c2⟩ := box3 hb1 rfl
    obtain ⟨f0, f1, f2⟩ := fz3 hb1 rfl
    have hB : Below w.heap.size w w1 := bt hBa hb1
    clear hb1 hBa
    go_wp2
    refine bodyPost_ret (v := .tuple #[.agg #[.int .i64 0, .int .i64 0, .slice none 0 0], .int .i64 13]) (by simp [results, Try.results19, go_sem, c0, c1, c2]) rfl ⟨rfl, ?_⟩
    exact bs (bs (bs hB (by simp) _) (by simp) _) (by simp) _
  rcases h2 : sd H with _ | _
  · rw [h1] at S1
    rw [h2] at S2
    go_enter Try.func19, Try.ntmps19
    go_wp2_with fail
    refine (S1.out _).mono ?_
    rintro e w1 ⟨rfl, hb1⟩
    have hBa := ba (Below.refl _ w) (.cells #[.int .i64 0, .int .i64 0, .slice none 0 0] 28)
    obtain ⟨c0, c1, c2⟩ := box3 hb1 rfl
    obtain ⟨f0, f1, f2⟩ := fz3 hb1 rfl
    have hB : Below w.heap.size w w1 := bt hBa hb1
    clear hb1 hBa
    go_wp2_with fail
    refine (S2.out _).mono ?_
    rintro e w2 ⟨rfl, hb2⟩
    obtain ⟨f0, f1, f2⟩ := kf3 hb2 ⟨c0, c1, c2⟩ ⟨f0, f1, f2⟩
    obtain ⟨c0, c1, c2⟩ := k3 hb2 ⟨c0, c1, c2⟩
    replace hB := bt hB hb2
    clear hb2
    go_wp2
    refine bodyPost_ret (v := .tuple #[.agg #[.int .i64 0, .int .i64 0, .slice none 0 0], .int .i64 13]) (by simp [results, Try.results19, go_sem, c0, c1, c2]) rfl ⟨rfl, ?_⟩
    exact bs (bs (bs hB (by simp) _) (by simp) _) (by simp) _
  · rw [h1, h2] at h; cases h
set_option maxHeartbeats 1000000 in
theorem New_yes (W H : Int) (n : Nat) (h : (sd W && sd H) = true) (hn : (n : Int) = W * H) (w : World) :
    Calls Try.prog 19 #[.int .i64 W, .int .i64 H] w fun e w' => ∃ b, e = .returned (.tuple #[bv W H (some ⟨b, 0, none⟩) n n, .int .i64 0]) ∧ OB w' b n (fun _ => false) ∧ (w.heap.size ≤ b ∧ b < w'.heap.size) ∧ Below w.heap.size w w' := by
  have S1 := Lib.hid (isSide_any W)
  have S2 := Lib.hid (isSide_any H)
  rw [Bool.and_eq_true] at h
  obtain ⟨h1, h2⟩ := h
  rw [h1] at S1
  rw [h2] at S2
  obtain ⟨m1, m2⟩ := mul_side ((sd_iff W).1 h1) ((sd_iff H).1 h2)
  have mw : RowKit.wrap64 (W * H) = n := by rw [← hn]; exact wrap_id ⟨by omega, by omega⟩
  have hn9 : n ≤ 9216 := by omega
  clear h1 h2 m1 m2 hn
  unfold bv
  go_enter Try.func19, Try.ntmps19
  go_wp2_with fail
  refine (S1.out _).mono ?_
  rintro e w1 ⟨rfl, hb1⟩
  have hBa := ba (Below.refl _ w) (.cells #[.int .i64 0, .int .i64 0, .slice none 0 0] 28)
  obtain ⟨c0, c1, c2⟩ := box3 hb1 rfl
  obtain ⟨f0, f1, f2⟩ := fz3 hb1 rfl
  have hB : Below w.heap.size w w1 := bt hBa hb1
  clear hb1 hBa
  go_wp2_with fail
  refine (S2.out _).mono ?_
  rintro e w2 ⟨rfl, hb2⟩
  obtain ⟨f0, f1, f2⟩ := kf3 hb2 ⟨c0, c1, c2⟩ ⟨f0, f1, f2⟩
  obtain ⟨c0, c1, c2⟩ := k3 hb2 ⟨c0, c1, c2⟩
  replace hB := bt hB hb2
  clear hb2
  have hlt2 := block_lt_of_cell c0
  obtain ⟨w3, hmk, hob, hb3, hlt3⟩ := make_bools w2 n (by omega)
  obtain ⟨f0, f1, f2⟩ := kf3 hb3 ⟨c0, c1, c2⟩ ⟨f0, f1, f2⟩
  obtain ⟨c0, c1, c2⟩ := k3 hb3 ⟨c0, c1, c2⟩
  have hle := hB.size
  have hlt : w.heap.size < w2.heap.size := hlt2
  replace hB := bt hB hb3
  clear hb3
  go_wp2
  refine bodyPost_ret (v := .tuple #[.agg #[.int .i64 W, .int .i64 H, .slice (some ⟨w2.heap.size, 0, none⟩) n n], .int .i64 0]) (by simp [results, Try.results19, go_sem, c0, c1, c2]) rfl ⟨w2.heap.size, rfl, ?_, ⟨hle, by simpa using hlt3⟩, ?_⟩
  · exact ob_other (ob_other (ob_other hob (by omega)) (by omega)) (by omega)
  · exact bs (bs (bs hB (by simp) _) (by simp) _) (by simp) _
set_option maxHeartbeats 1000000 in
theorem rNew_no (W H : Int) (h : (sd W && sd H) = false) (w : World) :
    Calls Try.prog 20 #[.int .i64 W, .int .i64 H] w fun e w' => e = .returned (.tuple #[bv 0 0 none 0 0, .int .i64 13]) ∧ Below w.heap.size w w' := by
  have S1 := Lib.hid (side_any W)
  have S2 := Lib.hid (side_any H)
  unfold bv
  rcases h1 : sd W with _ | _
  · rw [h1] at S1
    go_enter Try.func20, Try.ntmps20
    go_wp2_with fail
    refine (S1.out _).mono ?_
    rintro e w1 ⟨rfl, hb1⟩
    have hBa := ba (Below.refl _ w) (.cells #[.int .i64 0, .int .i64 0, .slice none 0 0] 28)
    obtain ⟨c0, c1, c2⟩ := box3 hb1 rfl
    obtain ⟨f0, f1, f2⟩ := fz3 hb1 rfl
    have hB : Below w.heap.size w w1 := bt hBa hb1
    clear hb1 hBa
    go_wp2
    refine bodyPost_ret (v := .tuple #[.agg #[.int .i64 0, .int .i64 0, .slice none 0 0], .int .i64 13]) (by simp [results, Try.results20, go_sem, c0, c1, c2]) rfl ⟨rfl, ?_⟩
    exact bs (bs (bs hB (by simp) _) (by simp) _) (by simp) _
  rcases h2 : sd H with _ | _
  · rw [h1] at S1
    rw [h2] at S2
    go_enter Try.func20, Try.ntmps20
    go_wp2_with fail
    refine (S1.out _).mono ?_
    rintro e w1 ⟨rfl, hb1⟩
    have hBa := ba (Below.refl _ w) (.cells #[.int .i64 0, .int .i64 0, .slice none 0 0] 28)
    obtain ⟨c0, c1, c2⟩ := box3 hb1 rfl
    obtain ⟨f0, f1, f2⟩ := fz3 hb1 rfl
    have hB : Below w.heap.size w w1 := bt hBa hb1
    clear hb1 hBa
    go_wp2_with fail
    refine (S2.out _).mono ?_
    rintro e w2 ⟨rfl, hb2⟩
    obtain ⟨f0, f1, f2⟩ := kf3 hb2 ⟨c0, c1, c2⟩ ⟨f0, f1, f2⟩
    obtain ⟨c0, c1, c2⟩ := k3 hb2 ⟨c0, c1, c2⟩
    replace hB := bt hB hb2
    clear hb2
    go_wp2
    refine bodyPost_ret (v := .tuple #[.agg #[.int .i64 0, .int .i64 0, .slice none 0 0], .int .i64 13]) (by simp [results, Try.results20, go_sem, c0, c1, c2]) rfl ⟨rfl, ?_⟩
    exact bs (bs (bs hB (by simp) _) (by simp) _) (by simp) _
  · rw [h1, h2] at h; cases h
set_option maxHeartbeats 1000000 in
theorem rNew_yes (W H : Int) (n : Nat) (h : (sd W && sd H) = true) (hn : (n : Int) = W * H) (w : World) :
    Calls Try.prog 20 #[.int .i64 W, .int .i64 H] w fun e w' => ∃ b, e = .returned (.tuple #[bv W H (some ⟨b, 0, none⟩) n n, .int .i64 0]) ∧ OB w' b n (fun _ => false) ∧ (w.heap.size ≤ b ∧ b < w'.heap.size) ∧ Below w.heap.size w w' := by
  have S1 := Lib.hid (side_any W)
  have S2 := Lib.hid (side_any H)
  rw [Bool.and_eq_true] at h
  obtain ⟨h1, h2⟩ := h
  rw [h1] at S1
  rw [h2] at S2
  obtain ⟨m1, m2⟩ := mul_side ((sd_iff W).1 h1) ((sd_iff H).1 h2)
  have mw : RowKit.wrap64 (W * H) = n := by rw [← hn]; exact wrap_id ⟨by omega, by omega⟩
  have hn9 : n ≤ 9216 := by omega
  clear h1 h2 m1 m2 hn
  unfold bv
  go_enter Try.func20, Try.ntmps20
  go_wp2_with fail
  refine (S1.out _).mono ?_
  rintro e w1 ⟨rfl, hb1⟩
  have hBa := ba (Below.refl _ w) (.cells #[.int .i64 0, .int .i64 0, .slice none 0 0] 28)
  obtain ⟨c0, c1, c2⟩ := box3 hb1 rfl
  obtain ⟨f0, f1, f2⟩ := fz3 hb1 rfl
  have hB : Below w.heap.size w w1 := bt hBa hb1
  clear hb1 hBa
  go_wp2_with fail
  refine (S2.out _).mono ?_
  rintro e w2 ⟨rfl, hb2⟩
  obtain ⟨f0, f1, f2⟩ := kf3 hb2 ⟨c0, c1, c2⟩ ⟨f0, f1, f2⟩
  obtain ⟨c0, c1, c2⟩ := k3 hb2 ⟨c0, c1, c2⟩
  replace hB := bt hB hb2
  clear hb2
  have hlt2 := block_lt_of_cell c0
  obtain ⟨w3, hmk, hob, hb3, hlt3⟩ := make_bools w2 n (by omega)
  obtain ⟨f0, f1, f2⟩ := kf3 hb3 ⟨c0, c1, c2⟩ ⟨f0, f1, f2⟩
  obtain ⟨c0, c1, c2⟩ := k3 hb3 ⟨c0, c1, c2⟩
  have hle := hB.size
  have hlt : w.heap.size < w2.heap.size := hlt2
  replace hB := bt hB hb3
  clear hb3
  go_wp2
  refine bodyPost_ret (v := .tuple #[.agg #[.int .i64 W, .int .i64 H, .slice (some ⟨w2.heap.size, 0, none⟩) n n], .int .i64 0]) (by simp [results, Try.results20, go_sem, c0, c1, c2]) rfl ⟨w2.heap.size, rfl, ?_, ⟨hle, by simpa using hlt3⟩, ?_⟩
  · exact ob_other (ob_other (ob_other hob (by omega)) (by omega)) (by omega)
  · exact bs (bs (bs hB (by simp) _) (by simp) _) (by simp) _
end Go.Proofs.Ytfkpodhkbcocmaa.Bm
