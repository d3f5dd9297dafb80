/-
  Layer 4 (bitmap): what lies in memory; Check, inside, Get.
-/
import Derived.Test.YtfkpodhkbcocmaaProg
import Derived.Laws.BitsLemmas
import Derived.IntWalk
import Derived.Deep.QuietTactic
import Derived.BigQuiet
import Derived.WalkLawsBesides
import Derived.WalkSpells
import Derived.ChangeAlike
import Derived.Handy
import Derived.OpenShut
import Derived.Deep.DeepCutAuto
import Derived.Outline
import Derived.RegionTactic
import Derived.BigRegion
import Derived.Lib.Hide
import Derived.Lib.QuietBelow
namespace Go.Proofs.Ytfkpodhkbcocmaa.Bm
open Go.RowKit

theorem kc {B : Nat} {w a : World} (h : Below B w a) {b o : Nat} {v : Value} (hb : b < B) (hc : w.cell? ⟨b, o, none⟩ = some v) : a.cell? ⟨b, o, none⟩ = some v := by
  rw [h.cell (p := ⟨b, o, none⟩) hb]; exact hc
theorem kf {B : Nat} {w a : World} (h : Below B w a) {b o : Nat} {v : Bool} (hb : b < B) (hc : w.frozen? ⟨b, o, none⟩ = v) : a.frozen? ⟨b, o, none⟩ = v := by
  rw [h.frozen (p := ⟨b, o, none⟩) hb]; exact hc
theorem bt {w u v : World} (h1 : Below w.heap.size w u) (h2 : Below u.heap.size u v) : Below w.heap.size w v := h1.trans (h2.mono h1.size)
theorem ba {w u : World} (h : Below w.heap.size w u) (o : Obj) : Below w.heap.size w (u.alloc o) := h.alloc h.size o
theorem bs {w u : World} (h : Below w.heap.size w u) {p : Addr} (hp : w.heap.size ≤ p.block) (v : Value) : Below w.heap.size w (u.setCell p v) := h.setCell hp v
theorem bd1 {w u : World} (h : Below w.heap.size w u) : Below w.heap.size w u.drew := ⟨h.os, h.tape, h.output, h.size, h.block⟩
theorem bd {w u : World} (h : Below w.heap.size w u) (n : Nat) : Below w.heap.size w (u.drewN n) := ⟨h.os, h.tape, h.output, h.size, h.block⟩

/-- A bitmap as the program's value. -/
def bv (W H : Int) (a : Option Addr) (n c : Nat) : Value := .agg #[.int .i64 W, .int .i64 H, .slice a n c]
/-- The dots in memory. -/
def DA (w : World) (a : Option Addr) (n : Nat) (f : Nat → Bool) : Prop :=
  ∀ i, i < n → ∃ b o, a = some ⟨b, o, none⟩ ∧ w.cell? ⟨b, o + i, none⟩ = some (.bool (f i))
theorem da_below {w W : World} {a : Option Addr} {n : Nat} {f : Nat → Bool} (h : DA w a n f) (hB : Below w.heap.size w W) : DA W a n f := fun i hi => by
  obtain ⟨b, o, e, hc⟩ := h i hi
  exact ⟨b, o, e, kc hB (block_lt_of_cell hc) hc⟩
def R64 (x : Int) : Prop := -9223372036854775808 ≤ x ∧ x ≤ 9223372036854775807
/-- A side. -/
def sd (x : Int) : Bool := decide (0 ≤ x) && decide (x ≤ 96)
theorem sd_iff (x : Int) : sd x = true ↔ 0 ≤ x ∧ x ≤ 96 := by unfold sd; simp
def ck (W H : Int) (n : Nat) : Int := if sd W && sd H then (if (n : Int) = W * H then 0 else 5) else 13
def gd (W H : Int) (n : Nat) : Bool := sd W && sd H && decide ((n : Int) = W * H)
theorem gd_iff (W H : Int) (n : Nat) : gd W H n = true ↔ (0 ≤ W ∧ W ≤ 96) ∧ (0 ≤ H ∧ H ≤ 96) ∧ (n : Int) = W * H := by
  unfold gd; rw [Bool.and_eq_true, Bool.and_eq_true, sd_iff, sd_iff, decide_eq_true_iff]; exact and_assoc
theorem ck_zero (W H : Int) (n : Nat) : (ck W H n == 0) = gd W H n := by
  unfold ck gd
  cases sd W <;> cases sd H <;> simp
  by_cases h : (n : Int) = W * H <;> simp [h]
/-- Whether a position lies in a bitmap. -/
def ins (W H x y : Int) : Bool := decide (0 ≤ x) && decide (x < W) && decide (0 ≤ y) && decide (y < H)
theorem ins_iff (W H x y : Int) : ins W H x y = true ↔ 0 ≤ x ∧ x < W ∧ 0 ≤ y ∧ y < H := by
  unfold ins; simp [and_assoc]
/-- Whether a bitmap has a dot. -/
def has (W H : Int) (n : Nat) (f : Nat → Bool) (x y : Int) : Bool := gd W H n && (ins W H x y && f (y * W + x).toNat)

theorem mul_side {W H : Int} (hW : 0 ≤ W ∧ W ≤ 96) (hH : 0 ≤ H ∧ H ≤ 96) : 0 ≤ W * H ∧ W * H ≤ 9216 := by
  obtain ⟨a, b⟩ := hW; obtain ⟨c, d⟩ := hH
  refine ⟨Int.mul_nonneg a c, ?_⟩
  have h1 : W * H ≤ 96 * H := Int.mul_le_mul_of_nonneg_right b c
  omega
theorem pos_in {W H x y : Int} (hx : 0 ≤ x ∧ x < W) (hy : 0 ≤ y ∧ y < H) : 0 ≤ y * W ∧ y * W + x < W * H := by
  obtain ⟨a, b⟩ := hx; obtain ⟨c, d⟩ := hy
  refine ⟨Int.mul_nonneg c (by omega), ?_⟩
  have h1 : (y + 1) * W ≤ H * W := Int.mul_le_mul_of_nonneg_right (by omega) (by omega)
  rw [Int.add_mul, Int.one_mul] at h1
  rw [Int.mul_comm W H]; omega

theorem isSide_any (x : Int) (w : World) :
    Calls Try.prog 35 #[.int .i64 x] w fun e w' => e = .returned (.bool (sd x)) ∧ Below w.heap.size w w' := by
  unfold sd
  go_enter Try.func35, Try.ntmps35
  by_cases h1 : 0 ≤ x <;> by_cases h2 : x ≤ 96 <;> simp only [h1, h2, decide_true, decide_false, Bool.and_true, Bool.and_false, Bool.true_and, Bool.false_and]
  all_goals
    go_wp2
    go_ret
    exact ⟨rfl, by go_grown⟩
theorem side_any (x : Int) (w : World) :
    Calls Try.prog 36 #[.int .i64 x] w fun e w' => e = .returned (.bool (sd x)) ∧ Below w.heap.size w w' := by
  unfold sd
  go_enter Try.func36, Try.ntmps36
  by_cases h1 : 0 ≤ x <;> by_cases h2 : x ≤ 96 <;> simp only [h1, h2, decide_true, decide_false, Bool.and_true, Bool.and_false, Bool.true_and, Bool.false_and]
  all_goals
    go_wp2
    go_ret
    exact ⟨rfl, by go_grown⟩
theorem inside_any (W H : Int) (a : Option Addr) (n c : Nat) (x y : Int) (w : World) :
    Calls Try.prog 43 #[bv W H a n c, .int .i64 x, .int .i64 y] w fun e w' => e = .returned (.bool (ins W H x y)) ∧ Below w.heap.size w w' := by
  unfold bv ins
  go_enter Try.func43, Try.ntmps43
  by_cases h1 : 0 ≤ x <;> by_cases h2 : x < W <;> by_cases h3 : 0 ≤ y <;> by_cases h4 : y < H <;> simp only [h1, h2, h3, h4, decide_true, decide_false, Bool.and_true, Bool.and_false, Bool.true_and, Bool.false_and]
  all_goals
    go_wp2
    go_ret
    exact ⟨rfl, by go_grown⟩
end Go.Proofs.Ytfkpodhkbcocmaa.Bm
