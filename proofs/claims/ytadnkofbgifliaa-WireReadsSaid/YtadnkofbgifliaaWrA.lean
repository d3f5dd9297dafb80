/-
  Layer 2 (wire): codes of integers, and the readers' small methods.
-/
import Derived.Test.YtadnkofbgifliaaWrMath
import Derived.Lib.Zigzag
import Derived.Laws.BitsLemmas
import Derived.Laws.BitsAllLaws
import Derived.IntWalk
import Derived.Deep.QuietTactic
import Derived.BigQuiet
import Derived.WalkLawsBesides
import Derived.WalkSpells
import Derived.ChangeAlike
import Derived.Handy
import Derived.OpenShut
namespace Go.Proofs.Ytadnkofbgifliaa.Wr
open Go.RowKit

theorem zz_lib (n : Int) : zz n = Lib.zigzag n := by unfold zz Lib.zigzag; split <;> split <;> omega

set_option maxHeartbeats 1000000 in
theorem codeOf_any (n : Int) (h : -9223372036854775808 ≤ n ∧ n ≤ 9223372036854775807) (w : World) :
    Calls Try.prog 41 #[.int .i64 n] w fun e w' => e = .returned (.int .u64 (zz n)) ∧ w = w' := by
  obtain ⟨h0, h1⟩ := h
  rcases Int.lt_or_le n 0 with hn | hn
  · go_enter Try.func41, Try.ntmps41
    go_wp2
    go_ret
    exact ⟨congrArg (fun n : Int => Ending.returned (Value.int .u64 n)) (by rw [zz_lib]; exact Lib.zigzag_neg h0 hn), rfl⟩
  · go_enter Try.func41, Try.ntmps41
    go_wp2
    go_ret
    exact ⟨congrArg (fun n : Int => Ending.returned (Value.int .u64 n)) (by rw [zz_lib]; exact (Lib.zigzag_nonneg hn).symm), rfl⟩

set_option maxHeartbeats 1000000 in
theorem number_any (c : Nat) (h : c < 18446744073709551616) (w : World) :
    Calls Try.prog 44 #[.int .u64 c] w fun e w' => e = .returned (.int .i64 (un c)) ∧ w = w' := by
  by_cases hm : c % 2 = 1
  · have h2 : ((c : Int) % 2 == 1) = true := by rw [beq_iff_eq]; omega
    have h3 : Hid (bits .xor .i64 (-1) ((c : Int) / 2) = un c) := Lib.hid (by
      have := Lib.i64_not (c / 2) (by omega)
      rw [show ((c : Int) / 2) = ((c / 2 : Nat) : Int) by omega, this]; unfold un; rw [if_pos hm])
    go_enter Try.func44, Try.ntmps44
    go_wp2
    go_ret
    exact ⟨congrArg (fun n : Int => Ending.returned (Value.int .i64 n)) h3.out, rfl⟩
  · have h2 : ((c : Int) % 2 == 1) = false := by rw [beq_eq_false_iff_ne]; omega
    have h3 : Hid ((c : Int) / 2 = un c) := Lib.hid (by unfold un; rw [if_neg hm]; omega)
    go_enter Try.func44, Try.ntmps44
    go_wp2
    go_ret
    exact ⟨congrArg (fun n : Int => Ending.returned (Value.int .i64 n)) h3.out, rfl⟩

/-- Beside one row that may be written: nothing that was there has turned. -/
theorem gr (w : World) (r : Option Nat) : w.grownBy w r := ⟨rfl, rfl, rfl, Nat.le_refl _, fun _ _ _ => rfl⟩
theorem gd {a w : World} {r : Option Nat} (h : a.grownBy w r) (n : Nat) : a.grownBy (w.drewN n) r := ⟨h.os, h.tape, h.output, h.size, h.block⟩
theorem gs {a w : World} {r o : Nat} (h : a.grownBy w (some r)) (u : Value) : a.grownBy (w.setCell ⟨r, o, none⟩ u) (some r) :=
  ⟨h.os, h.tape, h.output, by simpa [World.setCell] using h.size, fun i hi hne => (Below.heap_setCell w _ u i (by rintro rfl; exact hne rfl)).trans (h.block i hi hne)⟩
theorem gg {a w v : World} {r : Option Nat} (h : a.grownBy w r) (k : w.grownBy v r) : a.grownBy v r :=
  ⟨k.os.trans h.os, k.tape.trans h.tape, k.output.trans h.output, Nat.le_trans h.size k.size, fun i hi hne => (k.block i (Nat.lt_of_lt_of_le hi h.size) hne).trans (h.block i hi hne)⟩
/-- A call that leaves all as it was. -/
theorem gb {a w v : World} {r : Option Nat} (h : a.grownBy w r) (k : Below w.heap.size w v) : a.grownBy v r :=
  ⟨k.os.trans h.os, k.tape.trans h.tape, k.output.trans h.output, Nat.le_trans h.size k.size, fun i hi _ => (k.block i (Nat.lt_of_lt_of_le hi h.size)).trans (h.block i hi (by assumption))⟩
/-- The row was made since. -/
theorem gB {w a v : World} {B r : Nat} (h : Below B w a) (g : a.grownBy v (some r)) (hB : B ≤ a.heap.size) (hr : B ≤ r) : Below B w v :=
  h.grown g hB (fun k hk => by cases hk; exact hr)

/-- A reader with the bytes that it has left. -/
def RS (w : World) (b : Nat) (s : ByteArray) (bad : Bool) : Prop :=
  w.cell? ⟨b, 0, none⟩ = some (.string s) ∧ w.cell? ⟨b, 1, none⟩ = some (.bool bad) ∧ w.frozen? ⟨b, 0, none⟩ = false ∧ w.frozen? ⟨b, 1, none⟩ = false

def empty : ByteArray := ⟨#[]⟩
def pt (b : Nat) : Value := .pointer (some ⟨b, 0, none⟩)

set_option maxHeartbeats 1000000 in
theorem left_any (b : Nat) (s : ByteArray) (bad : Bool) (w : World) (h : RS w b s bad) :
    Calls Try.prog 32 #[.pointer (some ⟨b, 0, none⟩)] w fun e w' => e = .returned (.int .i64 s.size) ∧ w = w' := by
  obtain ⟨h0, h1, f0, f1⟩ := h
  go_enter Try.func32, Try.ntmps32
  go_wp2
  go_ret
  exact ⟨rfl, rfl⟩
set_option maxHeartbeats 1000000 in
theorem left_nil (w : World) :
    Calls Try.prog 32 #[.pointer none] w fun e w' => e = .returned (.int .i64 0) ∧ w = w' := by
  go_enter Try.func32, Try.ntmps32
  go_wp2
  go_ret
  exact ⟨rfl, rfl⟩
set_option maxHeartbeats 1000000 in
theorem bad_any (b : Nat) (s : ByteArray) (bad : Bool) (w : World) (h : RS w b s bad) :
    Calls Try.prog 34 #[.pointer (some ⟨b, 0, none⟩)] w fun e w' => e = .returned (.bool bad) ∧ w = w' := by
  obtain ⟨h0, h1, f0, f1⟩ := h
  go_enter Try.func34, Try.ntmps34
  go_wp2
  go_ret
  exact ⟨rfl, rfl⟩
set_option maxHeartbeats 1000000 in
theorem bad_nil (w : World) :
    Calls Try.prog 34 #[.pointer none] w fun e w' => e = .returned (.bool true) ∧ w = w' := by
  go_enter Try.func34, Try.ntmps34
  go_wp2
  go_ret
  exact ⟨rfl, rfl⟩
set_option maxHeartbeats 1000000 in
theorem fail_any (b : Nat) (s : ByteArray) (bad : Bool) (w : World) (h : RS w b s bad) :
    Calls Try.prog 45 #[.pointer (some ⟨b, 0, none⟩)] w fun e w' => e = .returned (.tuple #[]) ∧ RS w' b empty true ∧ w.grownBy w' (some b) := by
  obtain ⟨h0, h1, f0, f1⟩ := h
  go_enter Try.func45, Try.ntmps45
  go_wp2
  go_end0
  exact ⟨rfl, ⟨by go_cell, by go_cell, by go_cell, by go_cell⟩, gs (gs (gr _ _) _) _⟩
set_option maxHeartbeats 1000000 in
theorem fail_nil (w : World) :
    Calls Try.prog 45 #[.pointer none] w fun e w' => e = .returned (.tuple #[]) ∧ w = w' := by
  go_enter Try.func45, Try.ntmps45
  go_wp2
  go_end0
  exact ⟨rfl, rfl⟩
set_option maxHeartbeats 1000000 in
theorem new_any (s : ByteArray) (w : World) :
    Calls Try.prog 20 #[.string s] w fun e w' => e = .returned (.pointer (some ⟨w.heap.size, 0, none⟩)) ∧ RS w' w.heap.size s false ∧ Below w.heap.size w w' ∧ w.heap.size < w'.heap.size := by
  go_enter Try.func20, Try.ntmps20
  go_wp2
  go_ret
  exact ⟨rfl, ⟨by go_cell, by go_cell, by go_cell, by go_cell⟩, by go_grown, by simp⟩
end Go.Proofs.Ytadnkofbgifliaa.Wr
