/-
  Layer 4 (bitmap): what lies in memory; Check, inside, Get.
  Layer 4 (bitmap): Check, New, Get, and the document's own.
  Layer 4 (bitmap): New, and the document's own.
  Layer 4 (bitmap): a range over the dots of a bitmap.
  Layer 4 (bitmap): the iterator over the dots.
  Layer 4 (bitmap): countIf, Count, Only.
  Layer 4 (bitmap): draw.
  Layer 4 (bitmap): what draw draws; Crop, Paste.
  Layer 4 (bitmap): Paste.
  Layer 4 (bitmap): Same, and the document's own.
-/
import Derived.Test.YtjeiapgniflnaaaProg
import Derived.Laws.BitsLemmas
import Derived.IntWalk
import Derived.Deep.QuietTactic
import Derived.BigQuiet
import Derived.WalkLawsBesides
import Derived.WalkSpells
import Derived.ChangeAlike
import Derived.Handy
import Derived.OpenShut
import Derived.Deep.DeepCutAuto
import Derived.Outline
import Derived.RegionTactic
import Derived.BigRegion
import Derived.Lib.Hide
import Derived.Lib.QuietBelow
import Derived.Lib.AppendIntMem
import Derived.Deep.MidRow
import Derived.RangeFuncNested
import Derived.RangeFuncBound
import Derived.RangeFuncCalls
import Derived.RangeFuncLeaves
import Derived.Shelf.Abstract
import Derived.Shelf.RegionOpen
import Derived.OwnWalkIn
import Derived.TacticsInMore
import Derived.LoopNIn
import Derived.LoopIn
import Derived.Sort.QuietIn
import Derived.Lib.QuietBelowIn
namespace Go.Proofs.Ytjeiapgniflnaaa.Bm
open Go.RowKit

theorem kc {B : Nat} {w a : World} (h : Below B w a) {b o : Nat} {v : Value} (hb : b < B) (hc : w.cell? ⟨b, o, none⟩ = some v) : a.cell? ⟨b, o, none⟩ = some v := by
  rw [h.cell (p := ⟨b, o, none⟩) hb]; exact hc
theorem kf {B : Nat} {w a : World} (h : Below B w a) {b o : Nat} {v : Bool} (hb : b < B) (hc : w.frozen? ⟨b, o, none⟩ = v) : a.frozen? ⟨b, o, none⟩ = v := by
  rw [h.frozen (p := ⟨b, o, none⟩) hb]; exact hc
theorem bt {w u v : World} (h1 : Below w.heap.size w u) (h2 : Below u.heap.size u v) : Below w.heap.size w v := h1.trans (h2.mono h1.size)
theorem ba {w u : World} (h : Below w.heap.size w u) (o : Obj) : Below w.heap.size w (u.alloc o) := h.alloc h.size o
theorem bs {w u : World} (h : Below w.heap.size w u) {p : Addr} (hp : w.heap.size ≤ p.block) (v : Value) : Below w.heap.size w (u.setCell p v) := h.setCell hp v
theorem bd1 {w u : World} (h : Below w.heap.size w u) : Below w.heap.size w u.drew := ⟨h.os, h.tape, h.output, h.size, h.block⟩
theorem bd {w u : World} (h : Below w.heap.size w u) (n : Nat) : Below w.heap.size w (u.drewN n) := ⟨h.os, h.tape, h.output, h.size, h.block⟩

/-- A bitmap as the program's value. -/
def bv (W H : Int) (a : Option Addr) (n c : Nat) : Value := .agg #[.int .i64 W, .int .i64 H, .slice a n c]
/-- The dots in memory. -/
def DA (w : World) (a : Option Addr) (n : Nat) (f : Nat → Bool) : Prop :=
  ∀ i, i < n → ∃ b o, a = some ⟨b, o, none⟩ ∧ w.cell? ⟨b, o + i, none⟩ = some (.bool (f i))
theorem da_below {w W : World} {a : Option Addr} {n : Nat} {f : Nat → Bool} (h : DA w a n f) (hB : Below w.heap.size w W) : DA W a n f := fun i hi => by
  obtain ⟨b, o, e, hc⟩ := h i hi
  exact ⟨b, o, e, kc hB (block_lt_of_cell hc) hc⟩
def R64 (x : Int) : Prop := -9223372036854775808 ≤ x ∧ x ≤ 9223372036854775807
/-- A side. -/
def sd (x : Int) : Bool := decide (0 ≤ x) && decide (x ≤ 96)
theorem sd_iff (x : Int) : sd x = true ↔ 0 ≤ x ∧ x ≤ 96 := by unfold sd; simp
def ck (W H : Int) (n : Nat) : Int := if sd W && sd H then (if (n : Int) = W * H then 0 else 5) else 13
def gd (W H : Int) (n : Nat) : Bool := sd W && sd H && decide ((n : Int) = W * H)
theorem gd_iff (W H : Int) (n : Nat) : gd W H n = true ↔ (0 ≤ W ∧ W ≤ 96) ∧ (0 ≤ H ∧ H ≤ 96) ∧ (n : Int) = W * H := by
  unfold gd; rw [Bool.and_eq_true, Bool.and_eq_true, sd_iff, sd_iff, decide_eq_true_iff]; exact and_assoc
theorem ck_zero (W H : Int) (n : Nat) : (ck W H n == 0) = gd W H n := by
  unfold ck gd
  cases sd W <;> cases sd H <;> simp
  by_cases h : (n : Int) = W * H <;> simp [h]
/-- Whether a position lies in a bitmap. -/
def ins (W H x y : Int) : Bool := decide (0 ≤ x) && decide (x < W) && decide (0 ≤ y) && decide (y < H)
theorem ins_iff (W H x y : Int) : ins W H x y = true ↔ 0 ≤ x ∧ x < W ∧ 0 ≤ y ∧ y < H := by
  unfold ins; simp [and_assoc]
/-- Whether a bitmap has a dot. -/
def has (W H : Int) (n : Nat) (f : Nat → Bool) (x y : Int) : Bool := gd W H n && (ins W H x y && f (y * W + x).toNat)

theorem mul_side {W H : Int} (hW : 0 ≤ W ∧ W ≤ 96) (hH : 0 ≤ H ∧ H ≤ 96) : 0 ≤ W * H ∧ W * H ≤ 9216 := by
  obtain ⟨a, b⟩ := hW; obtain ⟨c, d⟩ := hH
  refine ⟨Int.mul_nonneg a c, ?_⟩
  have h1 : W * H ≤ 96 * H := Int.mul_le_mul_of_nonneg_right b c
  omega
theorem pos_in {W H x y : Int} (hx : 0 ≤ x ∧ x < W) (hy : 0 ≤ y ∧ y < H) : 0 ≤ y * W ∧ y * W + x < W * H := by
  obtain ⟨a, b⟩ := hx; obtain ⟨c, d⟩ := hy
  refine ⟨Int.mul_nonneg c (by omega), ?_⟩
  have h1 : (y + 1) * W ≤ H * W := Int.mul_le_mul_of_nonneg_right (by omega) (by omega)
  rw [Int.add_mul, Int.one_mul] at h1
  rw [Int.mul_comm W H]; omega

theorem isSide_any (x : Int) (w : World) :
    Calls Try.prog 54 #[.int .i64 x] w fun e w' => e = .returned (.bool (sd x)) ∧ Below w.heap.size w w' := by
  unfold sd
  go_enter Try.func54, Try.ntmps54
  by_cases h1 : 0 ≤ x <;> by_cases h2 : x ≤ 96 <;> simp only [h1, h2, decide_true, decide_false, Bool.and_true, Bool.and_false, Bool.true_and, Bool.false_and]
  all_goals
    go_wp2
    go_ret
    exact ⟨rfl, by go_grown⟩
theorem side_any (x : Int) (w : World) :
    Calls Try.prog 53 #[.int .i64 x] w fun e w' => e = .returned (.bool (sd x)) ∧ Below w.heap.size w w' := by
  unfold sd
  go_enter Try.func53, Try.ntmps53
  by_cases h1 : 0 ≤ x <;> by_cases h2 : x ≤ 96 <;> simp only [h1, h2, decide_true, decide_false, Bool.and_true, Bool.and_false, Bool.true_and, Bool.false_and]
  all_goals
    go_wp2
    go_ret
    exact ⟨rfl, by go_grown⟩
theorem inside_any (W H : Int) (a : Option Addr) (n c : Nat) (x y : Int) (w : World) :
    Calls Try.prog 42 #[bv W H a n c, .int .i64 x, .int .i64 y] w fun e w' => e = .returned (.bool (ins W H x y)) ∧ Below w.heap.size w w' := by
  unfold bv ins
  go_enter Try.func42, Try.ntmps42
  by_cases h1 : 0 ≤ x <;> by_cases h2 : x < W <;> by_cases h3 : 0 ≤ y <;> by_cases h4 : y < H <;> simp only [h1, h2, h3, h4, decide_true, decide_false, Bool.and_true, Bool.and_false, Bool.true_and, Bool.false_and]
  all_goals
    go_wp2
    go_ret
    exact ⟨rfl, by go_grown⟩
end Go.Proofs.Ytjeiapgniflnaaa.Bm
namespace Go.Proofs.Ytjeiapgniflnaaa.Bm
open Go.RowKit
theorem wrap_id {x : Int} (h : R64 x) : RowKit.wrap64 x = x := by
  obtain ⟨a, b⟩ := h
  unfold RowKit.wrap64; omega
/-- Cells that a call leaves. -/
theorem box3 {w W1 : World} {b : Nat} {x y z : Value} {T : TypeId} (hb : Below (w.alloc (.cells #[x, y, z] T)).heap.size (w.alloc (.cells #[x, y, z] T)) W1) (e : b = w.heap.size) :
    W1.cell? ⟨b, 0, none⟩ = some x ∧ W1.cell? ⟨b, 1, none⟩ = some y ∧ W1.cell? ⟨b, 2, none⟩ = some z := by
  subst e
  exact ⟨kc hb (by simp) (by go_cell), kc hb (by simp) (by go_cell), kc hb (by simp) (by go_cell)⟩
theorem k3 {w W : World} {b : Nat} {x y z : Value} (hb : Below w.heap.size w W) (h : w.cell? ⟨b, 0, none⟩ = some x ∧ w.cell? ⟨b, 1, none⟩ = some y ∧ w.cell? ⟨b, 2, none⟩ = some z) :
    W.cell? ⟨b, 0, none⟩ = some x ∧ W.cell? ⟨b, 1, none⟩ = some y ∧ W.cell? ⟨b, 2, none⟩ = some z :=
  ⟨kc hb (block_lt_of_cell h.1) h.1, kc hb (block_lt_of_cell h.2.1) h.2.1, kc hb (block_lt_of_cell h.2.2) h.2.2⟩
set_option maxHeartbeats 1000000 in
theorem Check_any (W H : Int) (a : Option Addr) (n c : Nat) (w : World) :
    Calls Try.prog 41 #[bv W H a n c] w fun e w' => e = .returned (.int .i64 (ck W H n)) ∧ Below w.heap.size w w' := by
  have S1 := Lib.hid (isSide_any W)
  have S2 := Lib.hid (isSide_any H)
  unfold ck
  rcases h1 : sd W with _ | _
  · rw [h1] at S1
    simp only [Bool.false_and, Bool.false_eq_true, if_false]
    unfold bv
    go_enter Try.func41, Try.ntmps41
    go_wp2_with fail
    refine (S1.out _).mono ?_
    rintro e w1 ⟨rfl, hb1⟩
    obtain ⟨c0, c1, c2⟩ := box3 hb1 rfl
    have hB : Below w.heap.size w w1 := bt (ba (Below.refl _ _) _) hb1
    clear hb1
    go_wp2
    go_ret
    exact ⟨rfl, hB⟩
  rcases h2 : sd H with _ | _
  · rw [h1] at S1
    rw [h2] at S2
    simp only [Bool.true_and, Bool.false_eq_true, if_false]
    unfold bv
    go_enter Try.func41, Try.ntmps41
    go_wp2_with fail
    refine (S1.out _).mono ?_
    rintro e w1 ⟨rfl, hb1⟩
    obtain ⟨c0, c1, c2⟩ := box3 hb1 rfl
    have hB : Below w.heap.size w w1 := bt (ba (Below.refl _ _) _) hb1
    clear hb1
    go_wp2_with fail
    refine (S2.out _).mono ?_
    rintro e w2 ⟨rfl, hb2⟩
    obtain ⟨c0, c1, c2⟩ := k3 hb2 ⟨c0, c1, c2⟩
    replace hB := bt hB hb2
    clear hb2
    go_wp2
    go_ret
    exact ⟨rfl, hB⟩
  · rw [h1] at S1
    rw [h2] at S2
    simp only [Bool.true_and, if_true]
    obtain ⟨m1, m2⟩ := mul_side ((sd_iff W).1 h1) ((sd_iff H).1 h2)
    have mw : RowKit.wrap64 (W * H) = W * H := wrap_id ⟨by omega, by omega⟩
    clear h1 h2
    unfold bv
    go_enter Try.func41, Try.ntmps41
    go_wp2_with fail
    refine (S1.out _).mono ?_
    rintro e w1 ⟨rfl, hb1⟩
    obtain ⟨c0, c1, c2⟩ := box3 hb1 rfl
    have hB : Below w.heap.size w w1 := bt (ba (Below.refl _ _) _) hb1
    clear hb1
    go_wp2_with fail
    refine (S2.out _).mono ?_
    rintro e w2 ⟨rfl, hb2⟩
    obtain ⟨c0, c1, c2⟩ := k3 hb2 ⟨c0, c1, c2⟩
    replace hB := bt hB hb2
    clear hb2
    by_cases h : (n : Int) = W * H <;> simp only [h, if_true, if_false]
    all_goals
      go_wp2
      go_ret
      exact ⟨rfl, hB⟩
set_option maxHeartbeats 2000000 in
theorem Get_any (W H : Int) (a : Option Addr) (n c : Nat) (f : Nat → Bool) (x y : Int) (w : World) (hD : DA w a n f) :
    Calls Try.prog 23 #[bv W H a n c, .int .i64 x, .int .i64 y] w fun e w' => e = .returned (.bool (has W H n f x y)) ∧ Below w.heap.size w w' := by
  have C := Lib.hid (Check_any W H a n c)
  have I := Lib.hid (inside_any W H a n c x y)
  have hz := ck_zero W H n
  unfold has
  unfold bv at *
  rcases h1 : gd W H n with _ | _
  · rw [h1] at hz
    simp only [Bool.false_and]
    generalize ck W H n = z at *
    have hz2 : ¬ z = 0 := fun h => by rw [h] at hz; cases hz
    go_enter Try.func23, Try.ntmps23
    go_wp2_with fail
    refine (C.out _).mono ?_
    rintro e w1 ⟨rfl, hb1⟩
    obtain ⟨c0, c1, c2⟩ := box3 hb1 rfl
    have hB : Below w.heap.size w w1 := bt (ba (Below.refl _ _) _) hb1
    replace hD := da_below (da_below hD (ba (Below.refl _ _) _)) hb1
    clear hb1
    go_wp2
    go_ret
    exact ⟨rfl, hB⟩
  have hz3 : ck W H n = 0 := by rw [h1] at hz; exact eq_of_beq hz
  rw [hz3] at C
  rcases h2 : ins W H x y with _ | _
  · rw [h2] at I
    simp only [Bool.true_and, Bool.false_and]
    clear hz hz3 h1
    go_enter Try.func23, Try.ntmps23
    go_wp2_with fail
    refine (C.out _).mono ?_
    rintro e w1 ⟨rfl, hb1⟩
    obtain ⟨c0, c1, c2⟩ := box3 hb1 rfl
    have hB : Below w.heap.size w w1 := bt (ba (Below.refl _ _) _) hb1
    replace hD := da_below (da_below hD (ba (Below.refl _ _) _)) hb1
    clear hb1
    go_wp2_with fail
    refine (I.out _).mono ?_
    rintro e w2 ⟨rfl, hb2⟩
    replace hb2 := hb2
    obtain ⟨c0, c1, c2⟩ := k3 hb2 ⟨c0, c1, c2⟩
    replace hD := da_below hD hb2
    replace hB := bt hB hb2
    clear hb2
    go_wp2
    go_ret
    exact ⟨rfl, hB⟩
  · rw [h2] at I
    simp only [Bool.true_and]
    obtain ⟨q1, q2, q3, q4⟩ := (ins_iff W H x y).1 h2
    obtain ⟨hW, hH, hn⟩ := (gd_iff W H n).1 h1
    have hp := pos_in ⟨q1, q2⟩ ⟨q3, q4⟩
    have hm := mul_side hW hH
    obtain ⟨k, hk⟩ : ∃ k : Nat, y * W + x = k := ⟨(y * W + x).toNat, by omega⟩
    rw [hk, Int.toNat_natCast]
    have hkn : k < n := by omega
    have w1e : RowKit.wrap64 (y * W) = y * W := wrap_id ⟨by omega, by omega⟩
    have w2e : RowKit.wrap64 (y * W + x) = k := by rw [hk]; exact wrap_id ⟨by omega, by omega⟩
    clear hz hz3 h1 h2 hp hm hW hH hn hk
    go_enter Try.func23, Try.ntmps23
    go_wp2_with fail
    refine (C.out _).mono ?_
    rintro e w1 ⟨rfl, hb1⟩
    obtain ⟨c0, c1, c2⟩ := box3 hb1 rfl
    have hB : Below w.heap.size w w1 := bt (ba (Below.refl _ _) _) hb1
    replace hD := da_below (da_below hD (ba (Below.refl _ _) _)) hb1
    clear hb1
    go_wp2_with fail
    refine (I.out _).mono ?_
    rintro e w2 ⟨rfl, hb2⟩
    replace hb2 := hb2
    obtain ⟨c0, c1, c2⟩ := k3 hb2 ⟨c0, c1, c2⟩
    replace hD := da_below hD hb2
    replace hB := bt hB hb2
    clear hb2
    obtain ⟨b, o, rfl, hc⟩ := hD k hkn
    go_wp2
    go_ret
    exact ⟨rfl, hB⟩
end Go.Proofs.Ytjeiapgniflnaaa.Bm
namespace Go.Proofs.Ytjeiapgniflnaaa.Bm
open Go.RowKit
/-- Dots in a block of their own, which may be written. -/
def OB (w : World) (b n : Nat) (f : Nat → Bool) : Prop := ∀ i, i < n → w.cell? ⟨b, i, none⟩ = some (.bool (f i)) ∧ w.frozen? ⟨b, i, none⟩ = false
theorem ob_da {w : World} {b n : Nat} {f : Nat → Bool} (h : OB w b n f) : DA w (some ⟨b, 0, none⟩) n f := fun i hi => ⟨b, 0, rfl, by rw [Nat.zero_add]; exact (h i hi).1⟩
theorem ob_below {w W : World} {b n : Nat} {f : Nat → Bool} (h : OB w b n f) (hB : Below w.heap.size w W) : OB W b n f := fun i hi =>
  ⟨kc hB (block_lt_of_cell (h i hi).1) (h i hi).1, kf hB (block_lt_of_cell (h i hi).1) (h i hi).2⟩
theorem ob_congr {w : World} {b n : Nat} {f g : Nat → Bool} (h : OB w b n f) (e : ∀ i, i < n → f i = g i) : OB w b n g := fun i hi => by rw [← e i hi]; exact h i hi
theorem ob_set {w : World} {b n k : Nat} {f g : Nat → Bool} {v : Bool} (h : OB w b n f) (hk : k < n) (e : ∀ i, g i = if i = k then v else f i) : OB (w.setCell ⟨b, k, none⟩ (.bool v)) b n g := fun i hi => by
  obtain ⟨h1, h2⟩ := h i hi
  obtain ⟨k1, k2⟩ := h k hk
  rw [e]
  by_cases hik : i = k
  · subst hik
    rw [if_pos rfl]
    exact ⟨by go_cell, by go_cell⟩
  · rw [if_neg hik]
    have hne : ¬ k = i := fun h => hik h.symm
    exact ⟨by go_cell, by go_cell⟩
theorem ob_other {w : World} {b b' n k : Nat} {f : Nat → Bool} {v : Value} (h : OB w b n f) (hne : b ≠ b') : OB (w.setCell ⟨b', k, none⟩ v) b n f := fun i hi => by
  obtain ⟨h1, h2⟩ := h i hi
  have hne2 : ¬ b' = b := fun h => hne h.symm
  exact ⟨by go_cell, by go_cell⟩
theorem infoB : (Try.prog.info? 4).map (fun i => (i.zero, i.size, i.bytes)) = some (some (.bool false), 1, 1) := by kernel_rfl
theorem below_none {w v : World} (k : w.grownBy v none) : Below w.heap.size w v := ⟨k.os, k.tape, k.output, k.size, fun i hi => k.block i hi (by simp)⟩
theorem ob_made {W : World} {n₀ b m : Nat} (h : W.ownsRow n₀ 4 1 (.slice (some ⟨b, 0, none⟩) m m) m (madeCells #[.bool false] (m * 1)).toList) : OB W b m (fun _ => false) := by
  intro i hi
  have hlt : i < m * 1 := by omega
  refine ⟨?_, ?_⟩
  · rw [h.cellAt _ hlt]
    simp only [madeCells, Array.toList_map, Array.toList_range, List.getElem?_map, List.getElem?_range hlt, Option.map_some, List.size_toArray, List.length_cons, List.length_nil, Nat.zero_add, Nat.mod_one]
    rfl
  · obtain ⟨_, h2⟩ := h
    rcases h2 with ⟨h2, _⟩ | ⟨g, cap, cur, h2, _, hh, _⟩
    · cases h2
    · cases h2
      simp [World.frozen?, hh]
theorem row_lt {W : World} {n₀ b m e s : Nat} {l : List Value} (h : W.ownsRow n₀ e s (.slice (some ⟨b, 0, none⟩) m m) m l) : b < W.heap.size := by
  obtain ⟨_, h2⟩ := h
  rcases h2 with ⟨h2, _⟩ | ⟨g, cap, cur, h2, _, hh, _⟩
  · cases h2
  · cases h2
    exact (Array.getElem?_eq_some_iff.1 hh).1
theorem make_bools (W : World) (n : Nat) (h : n ≤ 100000) : ∃ W', (Instr.makeSlice 36 (.int .i64 (n : Int)) (.int .i64 (n : Int))).run Try.prog W = .ok (.slice (some ⟨W.heap.size, 0, none⟩) n n) W' ∧ OB W' W.heap.size n (fun _ => false) ∧ Below W.heap.size W W' ∧ W.heap.size < W'.heap.size := by
  obtain ⟨i0, hi, hz0, hz1, hz2⟩ := info_parts infoB
  obtain ⟨w1, hmk, hown, hgr⟩ := run_make_full (P := Try.prog) W W.heap.size 36 4 i0 _ 1 Try.underlying36 hi hz0 hz1 .i64 .i64 n (by rw [hz2]; omega) (by unfold maxLen; omega) (Nat.le_refl _)
  exact ⟨w1, hmk, ob_made hown, below_none hgr, row_lt hown⟩
theorem fz3 {w W1 : World} {b : Nat} {x y z : Value} {T : TypeId} (hb : Below (w.alloc (.cells #[x, y, z] T)).heap.size (w.alloc (.cells #[x, y, z] T)) W1) (e : b = w.heap.size) :
    W1.frozen? ⟨b, 0, none⟩ = false ∧ W1.frozen? ⟨b, 1, none⟩ = false ∧ W1.frozen? ⟨b, 2, none⟩ = false := by
  subst e
  exact ⟨kf hb (by simp) (by go_cell), kf hb (by simp) (by go_cell), kf hb (by simp) (by go_cell)⟩
theorem kf3 {w W : World} {b : Nat} {x y z : Value} (hb : Below w.heap.size w W) (h : w.cell? ⟨b, 0, none⟩ = some x ∧ w.cell? ⟨b, 1, none⟩ = some y ∧ w.cell? ⟨b, 2, none⟩ = some z)
    (hf : w.frozen? ⟨b, 0, none⟩ = false ∧ w.frozen? ⟨b, 1, none⟩ = false ∧ w.frozen? ⟨b, 2, none⟩ = false) :
    W.frozen? ⟨b, 0, none⟩ = false ∧ W.frozen? ⟨b, 1, none⟩ = false ∧ W.frozen? ⟨b, 2, none⟩ = false :=
  ⟨kf hb (block_lt_of_cell h.1) hf.1, kf hb (block_lt_of_cell h.2.1) hf.2.1, kf hb (block_lt_of_cell h.2.2) hf.2.2⟩
set_option maxHeartbeats 1000000 in
theorem New_no (W H : Int) (h : (sd W && sd H) = false) (w : World) :
    Calls Try.prog 48 #[.int .i64 W, .int .i64 H] w fun e w' => e = .returned (.tuple #[bv 0 0 none 0 0, .int .i64 13]) ∧ Below w.heap.size w w' := by
  have S1 := Lib.hid (isSide_any W)
  have S2 := Lib.hid (isSide_any H)
  unfold bv
  rcases h1 : sd W with _ | _
  · rw [h1] at S1
    go_enter Try.func48, Try.ntmps48
    go_wp2_with fail
    refine (S1.out _).mono ?_
    rintro e w1 ⟨rfl, hb1⟩
    have hBa := ba (Below.refl _ w) (.cells #[.int .i64 0, .int .i64 0, .slice none 0 0] 38)
    obtain ⟨c0, c1, c2⟩ := box3 hb1 rfl
    obtain ⟨f0, f1, f2⟩ := fz3 hb1 rfl
    have hB : Below w.heap.size w w1 := bt hBa hb1
    clear hb1 hBa
    go_wp2
    refine bodyPost_ret (v := .tuple #[.agg #[.int .i64 0, .int .i64 0, .slice none 0 0], .int .i64 13]) (by simp [results, Try.results48, go_sem, c0, c1, c2]) rfl ⟨rfl, ?_⟩
    exact bs (bs (bs hB (by simp) _) (by simp) _) (by simp) _
  rcases h2 : sd H with _ | _
  · rw [h1] at S1
    rw [h2] at S2
    go_enter Try.func48, Try.ntmps48
    go_wp2_with fail
    refine (S1.out _).mono ?_
    rintro e w1 ⟨rfl, hb1⟩
    have hBa := ba (Below.refl _ w) (.cells #[.int .i64 0, .int .i64 0, .slice none 0 0] 38)
    obtain ⟨c0, c1, c2⟩ := box3 hb1 rfl
    obtain ⟨f0, f1, f2⟩ := fz3 hb1 rfl
    have hB : Below w.heap.size w w1 := bt hBa hb1
    clear hb1 hBa
    go_wp2_with fail
    refine (S2.out _).mono ?_
    rintro e w2 ⟨rfl, hb2⟩
    obtain ⟨f0, f1, f2⟩ := kf3 hb2 ⟨c0, c1, c2⟩ ⟨f0, f1, f2⟩
    obtain ⟨c0, c1, c2⟩ := k3 hb2 ⟨c0, c1, c2⟩
    replace hB := bt hB hb2
    clear hb2
    go_wp2
    refine bodyPost_ret (v := .tuple #[.agg #[.int .i64 0, .int .i64 0, .slice none 0 0], .int .i64 13]) (by simp [results, Try.results48, go_sem, c0, c1, c2]) rfl ⟨rfl, ?_⟩
    exact bs (bs (bs hB (by simp) _) (by simp) _) (by simp) _
  · rw [h1, h2] at h; cases h
set_option maxHeartbeats 1000000 in
theorem New_yes (W H : Int) (n : Nat) (h : (sd W && sd H) = true) (hn : (n : Int) = W * H) (w : World) :
    Calls Try.prog 48 #[.int .i64 W, .int .i64 H] w fun e w' => ∃ b, e = .returned (.tuple #[bv W H (some ⟨b, 0, none⟩) n n, .int .i64 0]) ∧ OB w' b n (fun _ => false) ∧ (w.heap.size ≤ b ∧ b < w'.heap.size) ∧ Below w.heap.size w w' := by
  have S1 := Lib.hid (isSide_any W)
  have S2 := Lib.hid (isSide_any H)
  rw [Bool.and_eq_true] at h
  obtain ⟨h1, h2⟩ := h
  rw [h1] at S1
  rw [h2] at S2
  obtain ⟨m1, m2⟩ := mul_side ((sd_iff W).1 h1) ((sd_iff H).1 h2)
  have mw : RowKit.wrap64 (W * H) = n := by rw [← hn]; exact wrap_id ⟨by omega, by omega⟩
  have hn9 : n ≤ 9216 := by omega
  clear h1 h2 m1 m2 hn
  unfold bv
  go_enter Try.func48, Try.ntmps48
  go_wp2_with fail
  refine (S1.out _).mono ?_
  rintro e w1 ⟨rfl, hb1⟩
  have hBa := ba (Below.refl _ w) (.cells #[.int .i64 0, .int .i64 0, .slice none 0 0] 38)
  obtain ⟨c0, c1, c2⟩ := box3 hb1 rfl
  obtain ⟨f0, f1, f2⟩ := fz3 hb1 rfl
  have hB : Below w.heap.size w w1 := bt hBa hb1
  clear hb1 hBa
  go_wp2_with fail
  refine (S2.out _).mono ?_
  rintro e w2 ⟨rfl, hb2⟩
  obtain ⟨f0, f1, f2⟩ := kf3 hb2 ⟨c0, c1, c2⟩ ⟨f0, f1, f2⟩
  obtain ⟨c0, c1, c2⟩ := k3 hb2 ⟨c0, c1, c2⟩
  replace hB := bt hB hb2
  clear hb2
  have hlt2 := block_lt_of_cell c0
  obtain ⟨w3, hmk, hob, hb3, hlt3⟩ := make_bools w2 n (by omega)
  obtain ⟨f0, f1, f2⟩ := kf3 hb3 ⟨c0, c1, c2⟩ ⟨f0, f1, f2⟩
  obtain ⟨c0, c1, c2⟩ := k3 hb3 ⟨c0, c1, c2⟩
  have hle := hB.size
  have hlt : w.heap.size < w2.heap.size := hlt2
  replace hB := bt hB hb3
  clear hb3
  go_wp2
  refine bodyPost_ret (v := .tuple #[.agg #[.int .i64 W, .int .i64 H, .slice (some ⟨w2.heap.size, 0, none⟩) n n], .int .i64 0]) (by simp [results, Try.results48, go_sem, c0, c1, c2]) rfl ⟨w2.heap.size, rfl, ?_, ⟨hle, by simpa using hlt3⟩, ?_⟩
  · exact ob_other (ob_other (ob_other hob (by omega)) (by omega)) (by omega)
  · exact bs (bs (bs hB (by simp) _) (by simp) _) (by simp) _
set_option maxHeartbeats 1000000 in
theorem rNew_no (W H : Int) (h : (sd W && sd H) = false) (w : World) :
    Calls Try.prog 40 #[.int .i64 W, .int .i64 H] w fun e w' => e = .returned (.tuple #[bv 0 0 none 0 0, .int .i64 13]) ∧ Below w.heap.size w w' := by
  have S1 := Lib.hid (side_any W)
  have S2 := Lib.hid (side_any H)
  unfold bv
  rcases h1 : sd W with _ | _
  · rw [h1] at S1
    go_enter Try.func40, Try.ntmps40
    go_wp2_with fail
    refine (S1.out _).mono ?_
    rintro e w1 ⟨rfl, hb1⟩
    have hBa := ba (Below.refl _ w) (.cells #[.int .i64 0, .int .i64 0, .slice none 0 0] 38)
    obtain ⟨c0, c1, c2⟩ := box3 hb1 rfl
    obtain ⟨f0, f1, f2⟩ := fz3 hb1 rfl
    have hB : Below w.heap.size w w1 := bt hBa hb1
    clear hb1 hBa
    go_wp2
    refine bodyPost_ret (v := .tuple #[.agg #[.int .i64 0, .int .i64 0, .slice none 0 0], .int .i64 13]) (by simp [results, Try.results40, go_sem, c0, c1, c2]) rfl ⟨rfl, ?_⟩
    exact bs (bs (bs hB (by simp) _) (by simp) _) (by simp) _
  rcases h2 : sd H with _ | _
  · rw [h1] at S1
    rw [h2] at S2
    go_enter Try.func40, Try.ntmps40
    go_wp2_with fail
    refine (S1.out _).mono ?_
    rintro e w1 ⟨rfl, hb1⟩
    have hBa := ba (Below.refl _ w) (.cells #[.int .i64 0, .int .i64 0, .slice none 0 0] 38)
    obtain ⟨c0, c1, c2⟩ := box3 hb1 rfl
    obtain ⟨f0, f1, f2⟩ := fz3 hb1 rfl
    have hB : Below w.heap.size w w1 := bt hBa hb1
    clear hb1 hBa
    go_wp2_with fail
    refine (S2.out _).mono ?_
    rintro e w2 ⟨rfl, hb2⟩
    obtain ⟨f0, f1, f2⟩ := kf3 hb2 ⟨c0, c1, c2⟩ ⟨f0, f1, f2⟩
    obtain ⟨c0, c1, c2⟩ := k3 hb2 ⟨c0, c1, c2⟩
    replace hB := bt hB hb2
    clear hb2
    go_wp2
    refine bodyPost_ret (v := .tuple #[.agg #[.int .i64 0, .int .i64 0, .slice none 0 0], .int .i64 13]) (by simp [results, Try.results40, go_sem, c0, c1, c2]) rfl ⟨rfl, ?_⟩
    exact bs (bs (bs hB (by simp) _) (by simp) _) (by simp) _
  · rw [h1, h2] at h; cases h
set_option maxHeartbeats 1000000 in
theorem rNew_yes (W H : Int) (n : Nat) (h : (sd W && sd H) = true) (hn : (n : Int) = W * H) (w : World) :
    Calls Try.prog 40 #[.int .i64 W, .int .i64 H] w fun e w' => ∃ b, e = .returned (.tuple #[bv W H (some ⟨b, 0, none⟩) n n, .int .i64 0]) ∧ OB w' b n (fun _ => false) ∧ (w.heap.size ≤ b ∧ b < w'.heap.size) ∧ Below w.heap.size w w' := by
  have S1 := Lib.hid (side_any W)
  have S2 := Lib.hid (side_any H)
  rw [Bool.and_eq_true] at h
  obtain ⟨h1, h2⟩ := h
  rw [h1] at S1
  rw [h2] at S2
  obtain ⟨m1, m2⟩ := mul_side ((sd_iff W).1 h1) ((sd_iff H).1 h2)
  have mw : RowKit.wrap64 (W * H) = n := by rw [← hn]; exact wrap_id ⟨by omega, by omega⟩
  have hn9 : n ≤ 9216 := by omega
  clear h1 h2 m1 m2 hn
  unfold bv
  go_enter Try.func40, Try.ntmps40
  go_wp2_with fail
  refine (S1.out _).mono ?_
  rintro e w1 ⟨rfl, hb1⟩
  have hBa := ba (Below.refl _ w) (.cells #[.int .i64 0, .int .i64 0, .slice none 0 0] 38)
  obtain ⟨c0, c1, c2⟩ := box3 hb1 rfl
  obtain ⟨f0, f1, f2⟩ := fz3 hb1 rfl
  have hB : Below w.heap.size w w1 := bt hBa hb1
  clear hb1 hBa
  go_wp2_with fail
  refine (S2.out _).mono ?_
  rintro e w2 ⟨rfl, hb2⟩
  obtain ⟨f0, f1, f2⟩ := kf3 hb2 ⟨c0, c1, c2⟩ ⟨f0, f1, f2⟩
  obtain ⟨c0, c1, c2⟩ := k3 hb2 ⟨c0, c1, c2⟩
  replace hB := bt hB hb2
  clear hb2
  have hlt2 := block_lt_of_cell c0
  obtain ⟨w3, hmk, hob, hb3, hlt3⟩ := make_bools w2 n (by omega)
  obtain ⟨f0, f1, f2⟩ := kf3 hb3 ⟨c0, c1, c2⟩ ⟨f0, f1, f2⟩
  obtain ⟨c0, c1, c2⟩ := k3 hb3 ⟨c0, c1, c2⟩
  have hle := hB.size
  have hlt : w.heap.size < w2.heap.size := hlt2
  replace hB := bt hB hb3
  clear hb3
  go_wp2
  refine bodyPost_ret (v := .tuple #[.agg #[.int .i64 W, .int .i64 H, .slice (some ⟨w2.heap.size, 0, none⟩) n n], .int .i64 0]) (by simp [results, Try.results40, go_sem, c0, c1, c2]) rfl ⟨w2.heap.size, rfl, ?_, ⟨hle, by simpa using hlt3⟩, ?_⟩
  · exact ob_other (ob_other (ob_other hob (by omega)) (by omega)) (by omega)
  · exact bs (bs (bs hB (by simp) _) (by simp) _) (by simp) _
end Go.Proofs.Ytjeiapgniflnaaa.Bm
namespace Go.Proofs.Ytjeiapgniflnaaa.Bm
open Go.RowKit Go.Shelf
attribute [local go_sem] Oper.semAt_some

def onlyNormal (R : World → Prop) : Exit → Act → World → Prop
  | .normal, _, W' => R W'
  | .ret, _, _ => False
  | .exit _, _, _ => False
  | .goto _, _, _ => False
  | .panic _, _, _ => False
  | .outgrown, _, _ => False

/-- What the iterator promises: it hands out, in order, the rounds that take place. -/
def Gives (P : Program) (n gf : Nat) (lb : Array Value) (N : Nat) (act : Nat → Bool) (args : Nat → Array Value) (Mem : World → Prop) : Prop :=
  ∀ (rec : Nat) (J : Nat → World → Prop) (W : World),
    (∀ k V, J k V → k < N → act k = true → YieldAt Fence.wide (n - 1) P rec (args k) V fun e V' => e = .returned (.bool true) ∧ J (k + 1) V') →
    (∀ k V, J k V → k < N → act k = false → J (k + 1) V) →
    (∀ k V V', J k V → Below V.heap.size V V' → J k V') → (∀ k V, J k V → Mem V) →
    J 0 W → CallsIn Fence.wide n P gf (#[.func (.yield rec) #[] #[]] ++ lb) W fun e W' => (∃ v, e = .returned v) ∧ J N W'

theorem range_dots {P : Program} {n : Nat} {g : Operand} {ps : Array Tmp} {assign body : Code} {Q : Exit → Act → World → Prop} {a : Act} {w : World}
    (h1 : 1 ≤ n) {gf : Nat} {lb : Array Value} (hg : a.eval g = .func (.func gf) #[] lb) (eg : ∀ args w, (callFunc gf args).run P w = .ok (.enter gf args) w)
    {N : Nat} {act : Nat → Bool} {args : Nat → Array Value} {Mem : World → Prop} (hps : ∀ k, (args k).size = ps.size)
    (hseq : Gives P (n - 1) gf lb N act args Mem)
    (I : Nat → World → Prop) (hIb : ∀ {k A A'}, I k A → Below A.heap.size A A' → I k A')
    (hIo : ∀ {k} {W : World} {r : Nat} {o : Obj} (o' : Obj), w.heap.size ≤ r → I k W → W.heap[r]? = some o → o.isCells = false → I k (W.putObj r o'))
    (hIm : ∀ {k V}, I k V → Mem V) (hIs : ∀ {k V}, I k V → k < N → act k = false → I (k + 1) V)
    (h0 : I 0 w) (a₁ : Nat → Act)
    (hassign : ∀ (l : Nat) (k : Nat) (W : World) (K : Act → World → Prop), K (a₁ k) W →
      assign.wpIn (Fence.wide.inRound l) (n - 1 - 1) P (Exit.then K (fun _ _ _ => False)) { tmps := (ps.zip (args k)).foldl (fun t (p, v) => t.setIfInBounds p v) a.tmps, defers := [] } W)
    (hbody : ∀ (l k : Nat) (V : World), I k V → k < N → act k = true →
      body.wpIn (Fence.wide.inRound l) (n - 1 - 1) P (onlyNormal fun W' => KeepsOthers V W' ∧ I (k + 1) W') (a₁ k) V)
    (hdone : ∀ (D : Nat) (W : World), I N W → w.heap.size ≤ D → W.heap[D]? = some (.deferred (some [])) → Q .normal { a with defers := { target := .collected D, args := #[] } :: a.defers } W) :
    (Code.rangeFunc g ps assign body).wpIn Fence.wide n P Q a w := by
  refine wpIn_rangeFunc (fun fn hfn => ?_)
  rw [show Fence.wide.round = none from rfl]
  obtain ⟨rc, hrc⟩ : ∃ rc : LoopState → Option Code → Loop, rc = fun st pe => { state := st, pending := pe, fn, tmps := a.tmps, params := ps, assign, body, defers := w.heap.size } := ⟨_, rfl⟩
  obtain ⟨W1, hW1⟩ : ∃ W1, (w.alloc (.deferred (some []))).alloc (.loop (rc .ready none)) = W1 := ⟨_, rfl⟩
  have hL1 : W1.heap[w.heap.size + 1]? = some (.loop (rc .ready none)) := by
    rw [← hW1]; have := World.alloc_heap_new (w.alloc (.deferred (some []))) (.loop (rc .ready none)); rwa [World.size_alloc] at this
  have hD1 : W1.heap[w.heap.size]? = some (.deferred (some [])) := by
    rw [← hW1]; exact (Below.heap_alloc _ _ _ (by simp)).trans (World.alloc_heap_new w _)
  have hb1 : Below w.heap.size w W1 := by
    rw [← hW1]; exact ((Below.refl _ w).alloc (Nat.le_refl _) _).alloc (by simp) _
  refine ⟨w.heap.size + 1, [{ target := .collected w.heap.size, args := #[] }], W1, { target := .fn (.func gf) lb, args := #[.func (.yield (w.heap.size + 1)) #[] #[]] }, W1, gf,
    #[.func (.yield (w.heap.size + 1)) #[] #[]] ++ lb, W1, ?_, ?_, fun _ _ => trivial, ?_, fun _ => h1, ?_⟩
  · rw [← hW1, hrc]; exact run_enterLoop_outer _ _ _ _ _
  · simp only [resolve, hg]
    simp [go_sem]
  · simp [invoke, go_sem, eg]
  · refine (hseq (w.heap.size + 1) (fun k W => I k W ∧ W.heap[w.heap.size + 1]? = some (.loop (rc .ready none)) ∧ W.heap[w.heap.size]? = some (.deferred (some []))) W1 ?_ ?_ ?_ ?_
      ⟨hIb h0 hb1, hL1, hD1⟩).mono ?_
    · rintro k V ⟨hi, hl, hd⟩ hk hact
      have hlt : w.heap.size + 1 < V.heap.size := (Array.getElem?_eq_some_iff.1 hl).1
      have hy := run_yield (P := P) (args := args k) hl (by rw [hrc]; exact hps k)
      rw [hrc] at hy
      refine ⟨fn, _, assign, body, hy, roundIn_of_wpIn hfn (hassign _ k V _ ⟨_, run_beginRound hl (by rw [hrc]), ?_⟩)⟩
      obtain ⟨V1, hV1⟩ : ∃ V1, V.putObj (w.heap.size + 1) (.loop { rc .ready none with state := .busy }) = V1 := ⟨_, rfl⟩
      have hl1 : V1.heap[w.heap.size + 1]? = some (.loop { rc .ready none with state := .busy }) := by rw [← hV1]; exact World.putObj_heap_same hlt
      have hd1 : V1.heap[w.heap.size]? = some (.deferred (some [])) := by rw [← hV1]; exact (World.putObj_heap_other (by omega)).trans hd
      have hi1 : I k V1 := by rw [← hV1]; exact hIo _ (by omega) hi hl rfl
      rw [hV1]
      refine wpIn_mono (hbody _ k V1 hi1 hk hact) ?_
      rintro e a3 W3 hp
      cases e with
      | normal =>
        obtain ⟨hk3, hi3⟩ := hp
        have hl3 := hk3.same _ _ hl1 rfl
        have hd3 := hk3.same _ _ hd1 rfl
        have hlt3 : w.heap.size + 1 < W3.heap.size := (Array.getElem?_eq_some_iff.1 hl3).1
        have he := run_endRound (P := P) none hl3
        refine ⟨_, _, he, rfl, hIo _ (by omega) hi3 hl3 rfl, ?_, ?_⟩
        · rw [World.putObj_heap_same hlt3, hrc]; rfl
        · exact (World.putObj_heap_other (by omega)).trans hd3
      | ret => exact hp.elim
      | exit id => exact hp.elim
      | goto t => exact hp.elim
      | panic ch => exact hp.elim
      | outgrown => exact hp.elim
    · rintro k V ⟨hi, hl, hd⟩ hk hact
      exact ⟨hIs hi hk hact, hl, hd⟩
    · rintro k V V' ⟨hi, hl, hd⟩ hB
      exact ⟨hIb hi hB, (hB.block _ (Array.getElem?_eq_some_iff.1 hl).1).trans hl, (hB.block _ (Array.getElem?_eq_some_iff.1 hd).1).trans hd⟩
    · rintro k V ⟨hi, hl, hd⟩
      exact hIm hi
    · rintro e W2 ⟨⟨v, rfl⟩, hi, hl, hd⟩
      have he := run_endLoop (P := P) hl (by rw [hrc]; simp)
      rw [hrc] at he
      exact ⟨none, _, he, hdone w.heap.size _ (hIo _ (by omega) hi hl rfl) (Nat.le_refl _) ((World.putObj_heap_other (by omega)).trans hd)⟩
end Go.Proofs.Ytjeiapgniflnaaa.Bm
namespace Go.Proofs.Ytjeiapgniflnaaa.Bm
open Go.RowKit Go.Shelf
attribute [local go_sem] Oper.semAt_some
theorem iwrap_id {x : Int} (h : R64 x) : IntKind.i64.wrap x = x := by
  obtain ⟨h1, h2⟩ := h
  exact IntWalk.i64_in _ (by omega)
/-- A bitmap in a box. -/
def BoxAt (V : World) (B : Nat) (W H : Int) (a : Option Addr) (m c : Nat) : Prop :=
  V.cell? ⟨B, 0, none⟩ = some (.int .i64 W) ∧ V.cell? ⟨B, 1, none⟩ = some (.int .i64 H) ∧ V.cell? ⟨B, 2, none⟩ = some (.slice a m c)
theorem boxat_below {V V' : World} {B : Nat} {W H : Int} {a : Option Addr} {m c : Nat} (h : BoxAt V B W H a m c) (hB : Below V.heap.size V V') : BoxAt V' B W H a m c := k3 hB h
/-- How many rounds there may be. -/
def nd (W H : Int) (m : Nat) : Nat := if gd W H m then m else 0
def dargs (W : Int) (k : Nat) : Array Value := #[.int .i64 ((k : Int) % W), .int .i64 ((k : Int) / W)]
def DMem (B : Nat) (W H : Int) (a : Option Addr) (m c : Nat) (f : Nat → Bool) (V : World) : Prop := BoxAt V B W H a m c ∧ DA V a m f
def ItRel (m : Nat) (J : Nat → World → Prop) (s : Value) (wr : World) : Prop := ∃ k : Nat, k ≤ m ∧ s = .int .i64 k ∧ J k wr
set_option maxRecDepth 100000 in
set_option maxHeartbeats 4000000 in
theorem mixedF : Try.prog.follows .mixedOrders = true := by kernel_rfl
end Go.Proofs.Ytjeiapgniflnaaa.Bm
namespace Go.Proofs.Ytjeiapgniflnaaa.Bm
open Go.RowKit Go.Shelf
attribute [local go_sem] Oper.semAt_some
/-- Whether a dot of a counts in Only. -/
def alone (W H : Int) (n : Nat) (f : Nat → Bool) (dx dy fr ti x y : Int) : Bool := (decide (x < fr) || decide (ti ≤ x)) && !has W H n f (RowKit.wrap64 (x - dx)) (RowKit.wrap64 (y - dy))
def OBoxes (V : World) (Bx By Bf Bt Bb : Nat) (W H : Int) (a : Option Addr) (n c : Nat) (dx dy fr ti : Int) : Prop :=
  V.cell? ⟨Bf, 0, none⟩ = some (.int .i64 fr) ∧ V.cell? ⟨Bt, 0, none⟩ = some (.int .i64 ti) ∧ BoxAt V Bb W H a n c ∧ V.cell? ⟨Bx, 0, none⟩ = some (.int .i64 dx) ∧ V.cell? ⟨By, 0, none⟩ = some (.int .i64 dy)
theorem oboxes_below {V V' : World} {Bx By Bf Bt Bb : Nat} {W H : Int} {a : Option Addr} {n c : Nat} {dx dy fr ti : Int} {S : Nat} (h : OBoxes V Bx By Bf Bt Bb W H a n c dx dy fr ti) (hS : V.heap.size ≤ S) (hB : Below S V V') : OBoxes V' Bx By Bf Bt Bb W H a n c dx dy fr ti := by
  have hB' : Below V.heap.size V V' := hB.mono hS
  obtain ⟨h1, h2, h3, h4, h5⟩ := h
  exact ⟨kc hB' (block_lt_of_cell h1) h1, kc hB' (block_lt_of_cell h2) h2, boxat_below h3 hB', kc hB' (block_lt_of_cell h4) h4, kc hB' (block_lt_of_cell h5) h5⟩
/-- How many numbers below n fulfil p. -/
def cn (p : Nat → Bool) : Nat → Nat
  | 0 => 0
  | k + 1 => cn p k + (if p k then 1 else 0)
theorem cn_le (p : Nat → Bool) : ∀ k, cn p k ≤ k
  | 0 => Nat.le_refl _
  | k + 1 => by have := cn_le p k; unfold cn; split <;> omega
theorem cn_yes {p : Nat → Bool} {k : Nat} (h : p k = true) : cn p (k + 1) = cn p k + 1 := by rw [cn, if_pos h]
theorem cn_no {p : Nat → Bool} {k : Nat} (h : p k = false) : cn p (k + 1) = cn p k := by rw [cn, if_neg (by rw [h]; exact Bool.false_ne_true)]; rfl
/-- What countIf holds while it counts. -/
def CI (w : World) (fv : Value) (W H : Int) (a : Option Addr) (m c : Nat) (f q : Nat → Bool) (k : Nat) (V : World) : Prop :=
  V.cell? ⟨w.heap.size + 1 + 1, 0, none⟩ = some (.int .i64 (cn q k : Nat)) ∧ V.frozen? ⟨w.heap.size + 1 + 1, 0, none⟩ = false ∧
  V.cell? ⟨w.heap.size + 1, 0, none⟩ = some fv ∧ DMem (w.heap.size + 1 + 1 + 1) W H a m c f V ∧ Below w.heap.size w V
theorem ci_below {w : World} {fv : Value} {W H : Int} {a : Option Addr} {m c : Nat} {f q : Nat → Bool} {k : Nat} {V V' : World} (h : CI w fv W H a m c f q k V) (hB : Below V.heap.size V V') : CI w fv W H a m c f q k V' := by
  obtain ⟨h1, h2, h3, ⟨h4, h5⟩, h6⟩ := h
  exact ⟨kc hB (block_lt_of_cell h1) h1, kf hB (block_lt_of_cell h1) h2, kc hB (block_lt_of_cell h3) h3, ⟨boxat_below h4 hB, da_below h5 hB⟩, bt h6 hB⟩
theorem ko_below {V V' : World} (h : Below V.heap.size V V') : KeepsOthers V V' := ⟨h.size, fun k o hk _ => (h.block k (Array.getElem?_eq_some_iff.1 hk).1).trans hk⟩
theorem put_cell {W : World} {r : Nat} {o : Obj} (o' : Obj) {p : Addr} {v : Value} (ho : W.heap[r]? = some o) (hc : o.isCells = false) (h : W.cell? p = some v) : (W.putObj r o').cell? p = some v ∧ (W.putObj r o').frozen? p = W.frozen? p := by
  have hne : p.block ≠ r := by
    rintro rfl
    unfold World.cell? at h
    rw [ho] at h
    cases o <;> simp_all [Obj.isCells]
  have e : (W.putObj r o').heap[p.block]? = W.heap[p.block]? := World.putObj_heap_other hne
  exact ⟨by simpa only [World.cell?, e] using h, by simp only [World.frozen?, e]⟩
theorem put_da {W : World} {r : Nat} {o : Obj} (o' : Obj) {a : Option Addr} {n : Nat} {f : Nat → Bool} (ho : W.heap[r]? = some o) (hc : o.isCells = false) (h : DA W a n f) : DA (W.putObj r o') a n f := fun i hi => by
  obtain ⟨b, o, e, hcl⟩ := h i hi
  exact ⟨b, o, e, (put_cell o' ho hc hcl).1⟩
theorem put_box {W : World} {r : Nat} {o : Obj} (o' : Obj) {B : Nat} {x y : Int} {a : Option Addr} {n c : Nat} (ho : W.heap[r]? = some o) (hc : o.isCells = false) (h : BoxAt W B x y a n c) : BoxAt (W.putObj r o') B x y a n c :=
  ⟨(put_cell o' ho hc h.1).1, (put_cell o' ho hc h.2.1).1, (put_cell o' ho hc h.2.2).1⟩
theorem below_put {w W : World} (h : Below w.heap.size w W) {r : Nat} (hr : w.heap.size ≤ r) (o : Obj) : Below w.heap.size w (W.putObj r o) :=
  h.grown (grownBy_putObj' W r o) h.size (fun k hk => by cases hk; exact hr)
theorem ci_put {w : World} {fv : Value} {W H : Int} {a : Option Addr} {m c : Nat} {f q : Nat → Bool} {k : Nat} {V : World} {r : Nat} {o : Obj} (o' : Obj) (hr : w.heap.size ≤ r) (h : CI w fv W H a m c f q k V) (ho : V.heap[r]? = some o) (hc : o.isCells = false) : CI w fv W H a m c f q k (V.putObj r o') := by
  obtain ⟨h1, h2, h3, ⟨h4, h5⟩, h6⟩ := h
  exact ⟨(put_cell o' ho hc h1).1, (put_cell o' ho hc h1).2.trans h2, (put_cell o' ho hc h3).1, ⟨put_box o' ho hc h4, put_da o' ho hc h5⟩, below_put h6 hr o'⟩
theorem ci_next {w : World} {fv : Value} {W H : Int} {a : Option Addr} {m c : Nat} {f q : Nat → Bool} {k : Nat} {V V0 : World} (h : CI w fv W H a m c f q k V) (hw : Below w.heap.size w V0) (hb : ∀ i, i < m → ∃ b o, a = some ⟨b, o, none⟩ ∧ b < w.heap.size) (hp : q k = true) :
    CI w fv W H a m c f q (k + 1) (V.setCell ⟨w.heap.size + 1 + 1, 0, none⟩ (.int .i64 ((cn q k : Nat) + 1 : Int))) := by
  obtain ⟨h1, h2, h3, ⟨⟨h40, h41, h42⟩, h5⟩, h6⟩ := h
  refine ⟨?_, by go_cell, by go_cell, ⟨⟨by go_cell, by go_cell, by go_cell⟩, ?_⟩, bs h6 (by simp; omega) _⟩
  · rw [cn_yes hp]
    have : ((cn q k + 1 : Nat) : Int) = (cn q k : Nat) + 1 := by omega
    rw [this]
    go_cell
  · intro i hi
    obtain ⟨b, o, e, hc⟩ := h5 i hi
    obtain ⟨b', o', e', hlt⟩ := hb i hi
    rw [e] at e'
    cases e'
    have hne : ¬ w.heap.size + 1 + 1 = b := by omega
    exact ⟨b, o, e, by go_cell⟩
theorem ci_skip {w : World} {fv : Value} {W H : Int} {a : Option Addr} {m c : Nat} {f q : Nat → Bool} {k : Nat} {V : World} (h : CI w fv W H a m c f q k V) (hp : q k = false) : CI w fv W H a m c f q (k + 1) V := by
  obtain ⟨h1, h2, h3, h4, h6⟩ := h
  exact ⟨by rw [cn_no hp]; exact h1, h2, h3, h4, h6⟩
theorem addr_old {w : World} {a : Option Addr} {m : Nat} {f : Nat → Bool} (h : DA w a m f) : ∀ i, i < m → ∃ b o, a = some ⟨b, o, none⟩ ∧ b < w.heap.size := fun i hi => by
  obtain ⟨b, o, e, hc⟩ := h i hi
  exact ⟨b, o, e, block_lt_of_cell hc⟩
/-- How many dots a bitmap has. -/
def count (W H : Int) (m : Nat) (f : Nat → Bool) : Nat := cn f (nd W H m)
def onlyQ (W H : Int) (f : Nat → Bool) (W2 H2 : Int) (n2 : Nat) (f2 : Nat → Bool) (dx dy fr ti : Int) (k : Nat) : Bool := f k && alone W2 H2 n2 f2 dx dy fr ti ((k : Int) % W) ((k : Int) / W)
def only (W H : Int) (m : Nat) (f : Nat → Bool) (W2 H2 : Int) (n2 : Nat) (f2 : Nat → Bool) (dx dy fr ti : Int) : Nat := cn (onlyQ W H f W2 H2 n2 f2 dx dy fr ti) (nd W H m)
end Go.Proofs.Ytjeiapgniflnaaa.Bm
namespace Go.Proofs.Ytjeiapgniflnaaa.Bm
open Go.RowKit Go.Shelf
attribute [local go_sem] Oper.semAt_some
/-- Dots that may be written, at an address that may be none if there are no dots. -/
def OO (w : World) (ta : Option Addr) (n : Nat) (f : Nat → Bool) : Prop := ∀ i, i < n → ∃ b, ta = some ⟨b, 0, none⟩ ∧ w.cell? ⟨b, i, none⟩ = some (.bool (f i)) ∧ w.frozen? ⟨b, i, none⟩ = false
theorem oo_ob {w : World} {b n : Nat} {f : Nat → Bool} (h : OB w b n f) : OO w (some ⟨b, 0, none⟩) n f := fun i hi => ⟨b, rfl, h i hi⟩
theorem ob_oo {w : World} {b n : Nat} {f : Nat → Bool} (h : OO w (some ⟨b, 0, none⟩) n f) : OB w b n f := fun i hi => by
  obtain ⟨b', e, h'⟩ := h i hi
  cases e
  exact h'
theorem oo_da {w : World} {ta : Option Addr} {n : Nat} {f : Nat → Bool} (h : OO w ta n f) : DA w ta n f := fun i hi => by
  obtain ⟨b, e, h1, h2⟩ := h i hi
  exact ⟨b, 0, e, by rw [Nat.zero_add]; exact h1⟩
theorem oo_below {w W : World} {ta : Option Addr} {n : Nat} {f : Nat → Bool} (h : OO w ta n f) (hB : Below w.heap.size w W) : OO W ta n f := fun i hi => by
  obtain ⟨b, e, h1, h2⟩ := h i hi
  exact ⟨b, e, kc hB (block_lt_of_cell h1) h1, kf hB (block_lt_of_cell h1) h2⟩
theorem oo_put {W : World} {r : Nat} {o : Obj} (o' : Obj) {ta : Option Addr} {n : Nat} {f : Nat → Bool} (ho : W.heap[r]? = some o) (hc : o.isCells = false) (h : OO W ta n f) : OO (W.putObj r o') ta n f := fun i hi => by
  obtain ⟨b, e, h1, h2⟩ := h i hi
  exact ⟨b, e, (put_cell o' ho hc h1).1, (put_cell o' ho hc h1).2.trans h2⟩
/-- What a call leaves that may write the dots at ta. -/
structure FR (w V : World) (ta : Option Addr) : Prop where
  os : V.os = w.os
  tape : V.tape = w.tape
  output : V.output = w.output
  size : w.heap.size ≤ V.heap.size
  block : ∀ k, k < w.heap.size → (∀ q, ta = some q → k ≠ q.block) → V.heap[k]? = w.heap[k]?
theorem FR.refl (w : World) (ta : Option Addr) : FR w w ta := ⟨rfl, rfl, rfl, Nat.le_refl _, fun _ _ _ => rfl⟩
theorem FR.below {w V V' : World} {ta : Option Addr} (h : FR w V ta) (hB : Below V.heap.size V V') : FR w V' ta :=
  ⟨hB.os.trans h.os, hB.tape.trans h.tape, hB.output.trans h.output, Nat.le_trans h.size hB.size, fun k hk hn => (hB.block k (Nat.lt_of_lt_of_le hk h.size)).trans (h.block k hk hn)⟩
theorem FR.put {w V : World} {ta : Option Addr} (h : FR w V ta) {r : Nat} (hr : w.heap.size ≤ r) (o : Obj) : FR w (V.putObj r o) ta :=
  ⟨h.os, h.tape, h.output, by have := (grownBy_putObj' V r o).size; have := h.size; omega, fun k hk hn => (World.putObj_heap_other (by omega)).trans (h.block k hk hn)⟩
theorem FR.set {w V : World} {b k : Nat} (h : FR w V (some ⟨b, 0, none⟩)) (v : Value) : FR w (V.setCell ⟨b, k, none⟩ v) (some ⟨b, 0, none⟩) :=
  ⟨h.os, h.tape, h.output, by rw [World.size_setCell]; exact h.size, fun j hj hn => (Below.heap_setCell V ⟨b, k, none⟩ v j (hn ⟨b, 0, none⟩ rfl)).trans (h.block j hj hn)⟩
theorem FR.to_below {w V : World} {ta : Option Addr} (h : FR w V ta) {S : Nat} (hS : S ≤ w.heap.size) (hb : ∀ q, ta = some q → S ≤ q.block) : Below S w V :=
  ⟨h.os, h.tape, h.output, h.size, fun k hk => h.block k (by omega) (fun q e => by have := hb q e; omega)⟩
theorem FR.cell {w V : World} {ta : Option Addr} (h : FR w V ta) {b o : Nat} {v : Value} (hc : w.cell? ⟨b, o, none⟩ = some v) (hn : ∀ q, ta = some q → b ≠ q.block) : V.cell? ⟨b, o, none⟩ = some v ∧ V.frozen? ⟨b, o, none⟩ = w.frozen? ⟨b, o, none⟩ := by
  have e := h.block b (block_lt_of_cell hc) hn
  exact ⟨by simpa only [World.cell?, e] using hc, by simp only [World.frozen?, e]⟩
/-- Where a dot of the source comes to lie. -/
def dX (x : Int) (W2 : Int) (k : Nat) : Int := RowKit.wrap64 (x + (k : Int) % W2)
def dY (y : Int) (W2 : Int) (k : Nat) : Int := RowKit.wrap64 (y + (k : Int) / W2)
def dr (W H W2 x y : Int) (f2 g : Nat → Bool) : Nat → Nat → Bool
  | 0 => g
  | k + 1 => if (f2 k && ins W H (dX x W2 k) (dY y W2 k)) = true then fun t => if t = (dY y W2 k * W + dX x W2 k).toNat then true else dr W H W2 x y f2 g k t else dr W H W2 x y f2 g k
def DI (w : World) (W H : Int) (ta : Option Addr) (n c : Nat) (W2 H2 : Int) (a2 : Option Addr) (n2 c2 : Nat) (f2 : Nat → Bool) (x y : Int) (g : Nat → Bool) (k : Nat) (V : World) : Prop :=
  OO V ta n (dr W H W2 x y f2 g k) ∧ BoxAt V w.heap.size W H ta n c ∧ V.cell? ⟨w.heap.size + 1 + 1, 0, none⟩ = some (.int .i64 x) ∧ V.cell? ⟨w.heap.size + 1 + 1 + 1, 0, none⟩ = some (.int .i64 y) ∧
  DMem (w.heap.size + 1 + 1 + 1 + 1) W2 H2 a2 n2 c2 f2 V ∧ FR w V ta
theorem di_below {w : World} {W H : Int} {ta : Option Addr} {n c : Nat} {W2 H2 : Int} {a2 : Option Addr} {n2 c2 : Nat} {f2 : Nat → Bool} {x y : Int} {g : Nat → Bool} {k : Nat} {V V' : World} (h : DI w W H ta n c W2 H2 a2 n2 c2 f2 x y g k V) (hB : Below V.heap.size V V') : DI w W H ta n c W2 H2 a2 n2 c2 f2 x y g k V' := by
  obtain ⟨h1, h2, h3, h4, ⟨h5, h6⟩, h7⟩ := h
  exact ⟨oo_below h1 hB, boxat_below h2 hB, kc hB (block_lt_of_cell h3) h3, kc hB (block_lt_of_cell h4) h4, ⟨boxat_below h5 hB, da_below h6 hB⟩, h7.below hB⟩
theorem di_put {w : World} {W H : Int} {ta : Option Addr} {n c : Nat} {W2 H2 : Int} {a2 : Option Addr} {n2 c2 : Nat} {f2 : Nat → Bool} {x y : Int} {g : Nat → Bool} {k : Nat} {V : World} {r : Nat} {o : Obj} (o' : Obj) (hr : w.heap.size ≤ r) (h : DI w W H ta n c W2 H2 a2 n2 c2 f2 x y g k V) (ho : V.heap[r]? = some o) (hc : o.isCells = false) : DI w W H ta n c W2 H2 a2 n2 c2 f2 x y g k (V.putObj r o') := by
  obtain ⟨h1, h2, h3, h4, ⟨h5, h6⟩, h7⟩ := h
  exact ⟨oo_put o' ho hc h1, put_box o' ho hc h2, (put_cell o' ho hc h3).1, (put_cell o' ho hc h4).1, ⟨put_box o' ho hc h5, put_da o' ho hc h6⟩, h7.put hr o'⟩
theorem di_skip {w : World} {W H : Int} {ta : Option Addr} {n c : Nat} {W2 H2 : Int} {a2 : Option Addr} {n2 c2 : Nat} {f2 : Nat → Bool} {x y : Int} {g : Nat → Bool} {k : Nat} {V : World} (h : DI w W H ta n c W2 H2 a2 n2 c2 f2 x y g k V) (hp : (f2 k && ins W H (dX x W2 k) (dY y W2 k)) = false) : DI w W H ta n c W2 H2 a2 n2 c2 f2 x y g (k + 1) V := by
  obtain ⟨h1, h2⟩ := h
  have e : dr W H W2 x y f2 g (k + 1) = dr W H W2 x y f2 g k := by rw [dr, if_neg (by rw [hp]; exact Bool.false_ne_true)]
  exact ⟨by rw [e]; exact h1, h2⟩
theorem di_next {w : World} {W H : Int} {b n c : Nat} {W2 H2 : Int} {a2 : Option Addr} {n2 c2 : Nat} {f2 : Nat → Bool} {x y : Int} {g : Nat → Bool} {k j : Nat} {V : World} (h : DI w W H (some ⟨b, 0, none⟩) n c W2 H2 a2 n2 c2 f2 x y g k V) (hp : (f2 k && ins W H (dX x W2 k) (dY y W2 k)) = true)
    (hj : dY y W2 k * W + dX x W2 k = (j : Int)) (hjn : j < n) (hbw : b < w.heap.size) (hne : ∀ q, a2 = some q → q.block ≠ b) : DI w W H (some ⟨b, 0, none⟩) n c W2 H2 a2 n2 c2 f2 x y g (k + 1) (V.setCell ⟨b, j, none⟩ (.bool true)) := by
  obtain ⟨h1, ⟨h20, h21, h22⟩, h3, h4, ⟨⟨h50, h51, h52⟩, h6⟩, h7⟩ := h
  have e : dr W H W2 x y f2 g (k + 1) = fun t => if t = j then true else dr W H W2 x y f2 g k t := by rw [dr, if_pos hp, hj, Int.toNat_natCast]
  have n1 : ¬ b = w.heap.size := by omega
  have n2' : ¬ b = w.heap.size + 1 + 1 := by omega
  have n3 : ¬ b = w.heap.size + 1 + 1 + 1 := by omega
  have n4 : ¬ b = w.heap.size + 1 + 1 + 1 + 1 := by omega
  refine ⟨?_, ⟨by go_cell, by go_cell, by go_cell⟩, by go_cell, by go_cell, ⟨⟨by go_cell, by go_cell, by go_cell⟩, ?_⟩, h7.set _⟩
  · rw [e]
    exact oo_ob (ob_set (ob_oo h1) hjn (fun i => rfl))
  · intro i hi
    obtain ⟨b', o, e', hc⟩ := h6 i hi
    have n5 : ¬ b = b' := fun h => hne _ e' h.symm
    exact ⟨b', o, e', by go_cell⟩
theorem nd_pos {W H : Int} {n k : Nat} (h : k < nd W H n) : 0 < n := by
  unfold nd at h
  split at h <;> omega
theorem wrap_pos {W H x y X Y i j : Int} (hX : RowKit.wrap64 (x + i) = X) (hY : RowKit.wrap64 (y + j) = Y) (hx : 0 ≤ X ∧ X < W) (hy : 0 ≤ Y ∧ Y < H) (hW : W ≤ 96) (hH : H ≤ 96) {k : Nat} (hk : Y * W + X = k) :
    RowKit.wrap64 (RowKit.wrap64 (RowKit.wrap64 (Y * W) + x) + i) = k := by
  have h1 := pos_in hx hy
  have h2 := mul_side (W := W) (H := H) ⟨by omega, by omega⟩ ⟨by omega, by omega⟩
  rw [wrap_id (x := Y * W) ⟨by omega, by omega⟩]
  rw [← hk]
  generalize Y * W = p at *
  unfold RowKit.wrap64 at *
  omega
end Go.Proofs.Ytjeiapgniflnaaa.Bm
namespace Go.Proofs.Ytjeiapgniflnaaa.Bm
open Go.RowKit
theorem dr_iff (W H W2 x y : Int) (f2 g : Nat → Bool) (t : Nat) : ∀ k, dr W H W2 x y f2 g k t = true ↔ (g t = true ∨ ∃ j, j < k ∧ f2 j = true ∧ ins W H (dX x W2 j) (dY y W2 j) = true ∧ t = (dY y W2 j * W + dX x W2 j).toNat)
  | 0 => by
    rw [dr]
    exact ⟨.inl, fun h => h.elim id (fun ⟨j, hj, _⟩ => absurd hj (by omega))⟩
  | k + 1 => by
    have ih := dr_iff W H W2 x y f2 g t k
    have tail : (g t = true ∨ ∃ j, j < k + 1 ∧ f2 j = true ∧ ins W H (dX x W2 j) (dY y W2 j) = true ∧ t = (dY y W2 j * W + dX x W2 j).toNat) ↔ ((g t = true ∨ ∃ j, j < k ∧ f2 j = true ∧ ins W H (dX x W2 j) (dY y W2 j) = true ∧ t = (dY y W2 j * W + dX x W2 j).toNat) ∨ (f2 k = true ∧ ins W H (dX x W2 k) (dY y W2 k) = true ∧ t = (dY y W2 k * W + dX x W2 k).toNat)) := by
      constructor
      · rintro (h | ⟨j, hj, h⟩)
        · exact .inl (.inl h)
        · rcases Nat.lt_or_ge j k with hl | hl
          · exact .inl (.inr ⟨j, hl, h⟩)
          · have : j = k := by omega
            subst this
            exact .inr h
      · rintro ((h | ⟨j, hj, h⟩) | h)
        · exact .inl h
        · exact .inr ⟨j, by omega, h⟩
        · exact .inr ⟨k, by omega, h⟩
    rw [tail, ← ih, dr]
    by_cases hc : (f2 k && ins W H (dX x W2 k) (dY y W2 k)) = true
    · rw [if_pos hc]
      rw [Bool.and_eq_true] at hc
      by_cases ht : t = (dY y W2 k * W + dX x W2 k).toNat
      · simp only [if_pos ht, true_iff]
        exact .inr ⟨hc.1, hc.2, ht⟩
      · simp only [if_neg ht]
        exact ⟨.inl, fun h => h.elim id (fun h => absurd h.2.2 ht)⟩
    · rw [if_neg hc]
      rw [Bool.and_eq_true] at hc
      exact ⟨.inl, fun h => h.elim id (fun h => absurd ⟨h.1, h.2.1⟩ hc)⟩
/-- What draw draws. -/
def pst (W W2 H2 : Int) (n2 : Nat) (f2 g : Nat → Bool) (x y : Int) (t : Nat) : Bool := g t || has W2 H2 n2 f2 (RowKit.wrap64 ((t : Int) % W - x)) (RowKit.wrap64 ((t : Int) / W - y))
theorem t_side {W H : Int} {n t : Nat} (hn : (n : Int) = W * H) (ht : t < n) (hW : 0 ≤ W) (hH : 0 ≤ H) : 0 < W ∧ 0 ≤ (t : Int) % W ∧ (t : Int) % W < W ∧ 0 ≤ (t : Int) / W ∧ (t : Int) / W < H ∧ (t : Int) / W * W + (t : Int) % W = t := by
  have h0 : 0 < W := by
    rcases Int.lt_or_le 0 W with h | h
    · exact h
    · have : W = 0 := by omega
      subst this
      omega
  refine ⟨h0, Int.emod_nonneg _ (by omega), Int.emod_lt_of_pos _ h0, Int.ediv_nonneg (by omega) hW, Int.ediv_lt_of_lt_mul h0 (by rw [Int.mul_comm]; omega), ?_⟩
  rw [Int.mul_comm]; exact Int.mul_ediv_add_emod _ _
theorem div_mod_at {W u v : Int} (h : 0 ≤ u ∧ u < W) : (v * W + u) % W = u ∧ (v * W + u) / W = v := by
  have hW : W ≠ 0 := by omega
  refine ⟨?_, ?_⟩
  · rw [Int.add_comm, Int.add_mul_emod_self_right]; exact Int.emod_eq_of_lt h.1 h.2
  · rw [Int.add_comm, Int.add_mul_ediv_right _ _ hW, Int.ediv_eq_zero_of_lt h.1 h.2]; omega
theorem dr_pst (W H W2 H2 x y : Int) (n n2 : Nat) (f2 g : Nat → Bool) (hW : 0 ≤ W ∧ W ≤ 96) (hH : 0 ≤ H ∧ H ≤ 96) (hn : (n : Int) = W * H) (hx : R64 x) (hy : R64 y) (t : Nat) (ht : t < n) : dr W H W2 x y f2 g (nd W2 H2 n2) t = pst W W2 H2 n2 f2 g x y t := by
  obtain ⟨hW0, u1, u2, v1, v2, huv⟩ := t_side hn ht hW.1 hH.1
  rw [Bool.eq_iff_iff, dr_iff]
  unfold pst has
  rw [Bool.or_eq_true, Bool.and_eq_true, Bool.and_eq_true, ins_iff]
  refine or_congr Iff.rfl ?_
  by_cases hg : gd W2 H2 n2 = true
  · rw [show nd W2 H2 n2 = n2 by unfold nd; rw [hg]; rfl]
    obtain ⟨g1, g2, g3⟩ := (gd_iff _ _ _).1 hg
    constructor
    · rintro ⟨j, hj, hf, hi, e⟩
      obtain ⟨i1, i2, i3, i4⟩ := (ins_iff _ _ _ _).1 hi
      obtain ⟨hW20, a1, a2, b1, b2, hab⟩ := t_side g3 hj g1.1 g2.1
      have e2 : (t : Int) = dY y W2 j * W + dX x W2 j := by
        have := (pos_in ⟨i1, i2⟩ ⟨i3, i4⟩).1
        omega
      have e3 := div_mod_at (v := dY y W2 j) ⟨i1, i2⟩
      rw [← e2] at e3
      have e4 : RowKit.wrap64 ((t : Int) % W - x) = (j : Int) % W2 := by
        rw [e3.1]
        unfold dX
        obtain ⟨x1, x2⟩ := hx
        unfold RowKit.wrap64
        omega
      have e5 : RowKit.wrap64 ((t : Int) / W - y) = (j : Int) / W2 := by
        rw [e3.2]
        unfold dY
        obtain ⟨x1, x2⟩ := hy
        unfold RowKit.wrap64
        omega
      rw [e4, e5]
      refine ⟨hg, ⟨a1, a2, b1, b2⟩, ?_⟩
      rw [hab, Int.toNat_natCast]; exact hf
    · rintro ⟨_, ⟨i1, i2, i3, i4⟩, hf⟩
      generalize hp : RowKit.wrap64 ((t : Int) % W - x) = p at *
      generalize hq : RowKit.wrap64 ((t : Int) / W - y) = q at *
      have hb := pos_in ⟨i1, i2⟩ ⟨i3, i4⟩
      have e3 := div_mod_at (v := q) ⟨i1, i2⟩
      have hc : ((q * W2 + p).toNat : Int) = q * W2 + p := by omega
      have ex : dX x W2 (q * W2 + p).toNat = (t : Int) % W := by
        unfold dX
        rw [hc, e3.1, ← hp]
        obtain ⟨x1, x2⟩ := hx
        unfold RowKit.wrap64
        omega
      have ey : dY y W2 (q * W2 + p).toNat = (t : Int) / W := by
        unfold dY
        rw [hc, e3.2, ← hq]
        obtain ⟨x1, x2⟩ := hy
        unfold RowKit.wrap64
        omega
      refine ⟨(q * W2 + p).toNat, by omega, hf, ?_, ?_⟩
      · rw [ex, ey]; exact (ins_iff _ _ _ _).2 ⟨u1, u2, v1, v2⟩
      · rw [ex, ey, huv]; rfl
  · rw [show nd W2 H2 n2 = 0 by unfold nd; rw [if_neg hg]]
    exact ⟨fun ⟨j, hj, _⟩ => absurd hj (by omega), fun h => absurd h.1 hg⟩
/-- What Crop cuts. -/
def crp (w W H : Int) (n : Nat) (f : Nat → Bool) (x y : Int) (t : Nat) : Bool := has W H n f (RowKit.wrap64 (x + (t : Int) % w)) (RowKit.wrap64 (y + (t : Int) / w))
theorem pst_crp (w W H : Int) (n : Nat) (f : Nat → Bool) (x y : Int) (t : Nat) : pst w W H n f (fun _ => false) (RowKit.wrap64 (-x)) (RowKit.wrap64 (-y)) t = crp w W H n f x y t := by
  unfold pst crp
  rw [Bool.false_or]
  have e : ∀ a b : Int, RowKit.wrap64 (a - RowKit.wrap64 (-b)) = RowKit.wrap64 (b + a) := fun a b => by unfold RowKit.wrap64; omega
  rw [e, e]
theorem wrap_R (x : Int) : R64 (RowKit.wrap64 x) := by unfold R64 RowKit.wrap64; omega
end Go.Proofs.Ytjeiapgniflnaaa.Bm
namespace Go.Proofs.Ytjeiapgniflnaaa.Bm
open Go.RowKit
theorem crp_self {W H : Int} {n : Nat} {f : Nat → Bool} (hg : gd W H n = true) (t : Nat) (ht : t < n) : crp W W H n f 0 0 t = f t := by
  obtain ⟨g1, g2, g3⟩ := (gd_iff _ _ _).1 hg
  obtain ⟨hW0, u1, u2, v1, v2, huv⟩ := t_side g3 ht g1.1 g2.1
  unfold crp has
  rw [wrap_id (x := 0 + (t : Int) % W) ⟨by omega, by omega⟩, wrap_id (x := 0 + (t : Int) / W) ⟨by omega, by omega⟩, Int.zero_add, Int.zero_add, hg, (ins_iff _ _ _ _).2 ⟨u1, u2, v1, v2⟩, huv, Int.toNat_natCast]
  rfl
theorem ck_i64 (W H : Int) (n : Nat) : ck W H n = 0 ∨ ck W H n = 5 ∨ ck W H n = 13 := by
  unfold ck
  split
  · split
    · exact .inl rfl
    · exact .inr (.inl rfl)
  · exact .inr (.inr rfl)
end Go.Proofs.Ytjeiapgniflnaaa.Bm
namespace Go.Proofs.Ytjeiapgniflnaaa.Bm
open Go.RowKit
def eqd (n : Nat) (f : Nat → Bool) (n' : Nat) (f' : Nat → Bool) : Bool := decide (n = n' ∧ ∀ i, i < n → f i = f' i)
def sm (W H : Int) (n : Nat) (f : Nat → Bool) (W' H' : Int) (n' : Nat) (f' : Nat → Bool) : Bool := decide (W = W') && decide (H = H') && eqd n f n' f'
def ERel (w : World) (n : Nat) (f f' : Nat → Bool) (s : Value) (wr : World) : Prop := ∃ k : Nat, k ≤ n ∧ s = .int .i64 k ∧ (∀ i, i < k → f i = f' i) ∧ Below w.heap.size w wr
theorem sm_len {W H W' H' : Int} {n n' : Nat} {f f' : Nat → Bool} (h : n ≠ n') : sm W H n f W' H' n' f' = false := by
  unfold sm eqd
  rw [decide_eq_false (fun e : n = n' ∧ _ => h e.1), Bool.and_false]
def E2Rel (w : World) (W H : Int) (a a' : Option Addr) (n c c' : Nat) (f f' : Nat → Bool) (s : Value) (wr : World) : Prop := ∃ k : Nat, k ≤ n ∧ s = .int .i64 k ∧ (∀ i, i < k → f i = f' i) ∧ BoxAt wr w.heap.size W H a n c ∧ BoxAt wr (w.heap.size + 1) W H a' n c' ∧ Below w.heap.size w wr
set_option maxHeartbeats 4000000 in
theorem rSame_eq (W H : Int) (a : Option Addr) (n c : Nat) (f : Nat → Bool) (a' : Option Addr) (c' : Nat) (f' : Nat → Bool) (hn : n ≤ 1000000) (w : World) (hD : DA w a n f) (hD' : DA w a' n f') :
    Calls Try.prog 21 #[bv W H a n c, bv W H a' n c'] w fun e w' => e = .returned (.bool (eqd n f n f')) ∧ Below w.heap.size w w' := by
  have HD := Lib.hid hD
  have HD' := Lib.hid hD'
  clear hD hD'
  unfold bv
  have hBa := ba (ba (Below.refl _ w) (.cells #[.int .i64 W, .int .i64 H, .slice a n c] 38)) (.cells #[.int .i64 W, .int .i64 H, .slice a' n c'] 38)
  go_enter Try.func21, Try.ntmps21
  go_wp2_with fail
  go_loopw [5] (fun s5 w' => E2Rel w W H a a' n c c' f f' s5 w') (fun s5 _ => n - (intOf s5).toNat)
  case atStart => exact ⟨0, by omega, rfl, fun i hi => absurd hi (by omega), ⟨by go_cell, by go_cell, by go_cell⟩, ⟨by go_cell, by go_cell, by go_cell⟩, hBa⟩
  case round =>
    clear hBa
    obtain ⟨k, hk, rfl, hall, ⟨b0, b1, b2⟩, ⟨p0, p1, p2⟩, hB⟩ := hrel
    rcases Nat.lt_or_ge k n with hkn | hkn
    · obtain ⟨b, o, rfl, hc⟩ := da_below HD.out hB k hkn
      obtain ⟨b', o', rfl, hc'⟩ := da_below HD'.out hB k hkn
      rcases hf : f k with _ | _ <;> rcases hf' : f' k with _ | _ <;> rw [hf] at hc <;> rw [hf'] at hc'
      case' false.true => have e : eqd n f n f' = false := by unfold eqd; rw [decide_eq_false]; exact fun h => by have := h.2 k hkn; rw [hf, hf'] at this; cases this
      case' true.false => have e : eqd n f n f' = false := by unfold eqd; rw [decide_eq_false]; exact fun h => by have := h.2 k hkn; rw [hf, hf'] at this; cases this
      case false.true =>
        go_wp2
        go_quiet (fail)
        go_wp2
        go_ret
        exact ⟨by rw [e]; rfl, bd hB _⟩
      case true.false =>
        go_wp2
        go_quiet (fail)
        go_wp2
        go_ret
        exact ⟨by rw [e]; rfl, bd hB _⟩
      all_goals
        have hall2 : ∀ i, i < k + 1 → f i = f' i := fun i hi => by
          rcases Nat.lt_or_ge i k with h | h
          · exact hall i h
          · have : i = k := by omega
            subst this
            rw [hf, hf']
        go_wp2
        go_quiet (fail)
        go_wp2
        go_roundw
        case rel => exact ⟨k + 1, by omega, by congr 1, hall2, ⟨by go_cell, by go_cell, by go_cell⟩, ⟨by go_cell, by go_cell, by go_cell⟩, bd hB _⟩
        case measure => simp [intOf]; omega
    · have hkk : k = n := by omega
      subst hkk
      have e : eqd k f k f' = true := by unfold eqd; rw [decide_eq_true ⟨rfl, hall⟩]
      go_wp2
      go_ret
      exact ⟨by rw [e]; rfl, hB⟩
set_option maxHeartbeats 4000000 in
theorem rSame_any (W H : Int) (a : Option Addr) (n c : Nat) (f : Nat → Bool) (W' H' : Int) (a' : Option Addr) (n' c' : Nat) (f' : Nat → Bool) (hn : n ≤ 1000000) (w : World) (hD : DA w a n f) (hD' : DA w a' n' f') :
    Calls Try.prog 21 #[bv W H a n c, bv W' H' a' n' c'] w fun e w' => e = .returned (.bool (sm W H n f W' H' n' f')) ∧ Below w.heap.size w w' := by
  by_cases h1 : W = W'
  rotate_left
  · unfold sm
    simp only [h1, decide_false, Bool.false_and]
    unfold bv
    go_enter Try.func21, Try.ntmps21
    go_wp2
    go_ret
    exact ⟨rfl, ba (ba (Below.refl _ _) _) _⟩
  subst h1
  by_cases h2 : H = H'
  rotate_left
  · unfold sm
    simp only [h2, decide_false, decide_true, Bool.false_and, Bool.true_and]
    unfold bv
    go_enter Try.func21, Try.ntmps21
    go_wp2
    go_ret
    exact ⟨rfl, ba (ba (Below.refl _ _) _) _⟩
  subst h2
  by_cases h3 : n = n'
  rotate_left
  · rw [sm_len h3]
    have h3' : ¬ (n : Int) = n' := by omega
    unfold bv
    go_enter Try.func21, Try.ntmps21
    go_wp2
    go_ret
    exact ⟨rfl, ba (ba (Below.refl _ _) _) _⟩
  subst h3
  have := rSame_eq W H a n c f a' c' f' hn w hD hD'
  unfold sm
  simpa only [decide_true, Bool.true_and] using this
end Go.Proofs.Ytjeiapgniflnaaa.Bm
