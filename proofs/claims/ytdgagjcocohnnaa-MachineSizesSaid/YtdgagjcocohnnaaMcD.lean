/-
  Layer 9 (machine): what operations do.
-/
import Derived.Test.YtdgagjcocohnnaaMcB
namespace Go.Proofs.Ytdgagjcocohnnaa.Mc
open Go.RowKit
/-- What an operation works on. -/
def useV (n sz a b : Int) (pt : Option Addr) : Value := .agg #[.int .i64 n, .int .i64 sz, .int .i64 a, .int .i64 b, .pointer pt]
theorem use5 (w : World) (n sz a b : Int) (pt : Option Addr) : (w.alloc (.cells #[.int .i64 n, .int .i64 sz, .int .i64 a, .int .i64 b, .pointer pt] 88)).cell? ⟨w.heap.size, 0, none⟩ = some (.int .i64 n) ∧ (w.alloc (.cells #[.int .i64 n, .int .i64 sz, .int .i64 a, .int .i64 b, .pointer pt] 88)).cell? ⟨w.heap.size, 1, none⟩ = some (.int .i64 sz) ∧ (w.alloc (.cells #[.int .i64 n, .int .i64 sz, .int .i64 a, .int .i64 b, .pointer pt] 88)).cell? ⟨w.heap.size, 2, none⟩ = some (.int .i64 a) ∧ (w.alloc (.cells #[.int .i64 n, .int .i64 sz, .int .i64 a, .int .i64 b, .pointer pt] 88)).cell? ⟨w.heap.size, 3, none⟩ = some (.int .i64 b) ∧ (w.alloc (.cells #[.int .i64 n, .int .i64 sz, .int .i64 a, .int .i64 b, .pointer pt] 88)).cell? ⟨w.heap.size, 4, none⟩ = some (.pointer pt) :=
  ⟨by go_cell, by go_cell, by go_cell, by go_cell, by go_cell⟩
/-- A limited number. -/
def L30 (x : Int) : Prop := -1073741824 ≤ x ∧ x ≤ 1073741824
theorem lim_in (x : Int) : L30 (lim x) := by
  unfold lim L30
  omega
def DoP (r : Int) (w : World) (e : Ending) (w' : World) : Prop := e = .returned (.int .i64 r) ∧ Below w.heap.size w w'
theorem do_push (n sz a b : Int) (pt : Option Addr) (w : World) : Calls Try.prog 36 #[useV n sz a b pt] w (DoP (n) w) := by
  unfold useV
  obtain ⟨x0, x1, x2, x3, x4⟩ := use5 w n sz a b pt
  have hB : Below w.heap.size w (w.alloc (.cells #[.int .i64 n, .int .i64 sz, .int .i64 a, .int .i64 b, .pointer pt] 88)) := ba (Below.refl _ _) _
  go_enter Try.func36, Try.ntmps36
  go_wp2
  go_ret
  exact ⟨rfl, hB⟩
theorem do_add (n sz a b : Int) (pt : Option Addr) (ha : L30 a) (hb : L30 b) (w : World) : Calls Try.prog 37 #[useV n sz a b pt] w (DoP (a + b) w) := by
  unfold useV
  obtain ⟨x0, x1, x2, x3, x4⟩ := use5 w n sz a b pt
  have hB : Below w.heap.size w (w.alloc (.cells #[.int .i64 n, .int .i64 sz, .int .i64 a, .int .i64 b, .pointer pt] 88)) := ba (Below.refl _ _) _
  obtain ⟨a1, a2⟩ := ha
  obtain ⟨b1, b2⟩ := hb
  go_enter Try.func37, Try.ntmps37
  go_wp2
  go_ret
  exact ⟨rfl, hB⟩
theorem do_sub (n sz a b : Int) (pt : Option Addr) (ha : L30 a) (hb : L30 b) (w : World) : Calls Try.prog 38 #[useV n sz a b pt] w (DoP (a - b) w) := by
  unfold useV
  obtain ⟨x0, x1, x2, x3, x4⟩ := use5 w n sz a b pt
  have hB : Below w.heap.size w (w.alloc (.cells #[.int .i64 n, .int .i64 sz, .int .i64 a, .int .i64 b, .pointer pt] 88)) := ba (Below.refl _ _) _
  obtain ⟨a1, a2⟩ := ha
  obtain ⟨b1, b2⟩ := hb
  go_enter Try.func38, Try.ntmps38
  go_wp2
  go_ret
  exact ⟨rfl, hB⟩
theorem do_min (n sz a b : Int) (pt : Option Addr) (w : World) : Calls Try.prog 39 #[useV n sz a b pt] w (DoP (min a b) w) := by
  unfold useV
  obtain ⟨x0, x1, x2, x3, x4⟩ := use5 w n sz a b pt
  have hB : Below w.heap.size w (w.alloc (.cells #[.int .i64 n, .int .i64 sz, .int .i64 a, .int .i64 b, .pointer pt] 88)) := ba (Below.refl _ _) _
  go_enter Try.func39, Try.ntmps39
  go_wp2
  go_ret
  exact ⟨rfl, hB⟩
theorem do_max (n sz a b : Int) (pt : Option Addr) (w : World) : Calls Try.prog 40 #[useV n sz a b pt] w (DoP (max a b) w) := by
  unfold useV
  obtain ⟨x0, x1, x2, x3, x4⟩ := use5 w n sz a b pt
  have hB : Below w.heap.size w (w.alloc (.cells #[.int .i64 n, .int .i64 sz, .int .i64 a, .int .i64 b, .pointer pt] 88)) := ba (Below.refl _ _) _
  go_enter Try.func40, Try.ntmps40
  go_wp2
  go_ret
  exact ⟨rfl, hB⟩
theorem do_neg (n sz a b : Int) (pt : Option Addr) (ha : L30 a) (w : World) : Calls Try.prog 41 #[useV n sz a b pt] w (DoP (-a) w) := by
  unfold useV
  obtain ⟨x0, x1, x2, x3, x4⟩ := use5 w n sz a b pt
  have hB : Below w.heap.size w (w.alloc (.cells #[.int .i64 n, .int .i64 sz, .int .i64 a, .int .i64 b, .pointer pt] 88)) := ba (Below.refl _ _) _
  obtain ⟨a1, a2⟩ := ha
  go_enter Try.func41, Try.ntmps41
  go_wp2
  go_ret
  exact ⟨rfl, hB⟩
theorem do_size (n sz a b : Int) (pt : Option Addr) (w : World) : Calls Try.prog 44 #[useV n sz a b pt] w (DoP (sz) w) := by
  unfold useV
  obtain ⟨x0, x1, x2, x3, x4⟩ := use5 w n sz a b pt
  have hB : Below w.heap.size w (w.alloc (.cells #[.int .i64 n, .int .i64 sz, .int .i64 a, .int .i64 b, .pointer pt] 88)) := ba (Below.refl _ _) _
  go_enter Try.func44, Try.ntmps44
  go_wp2
  go_ret
  exact ⟨rfl, hB⟩
theorem do_loop (n sz a b : Int) (pt : Option Addr) (w : World) : Calls Try.prog 50 #[useV n sz a b pt] w (DoP (n) w) := by
  unfold useV
  obtain ⟨x0, x1, x2, x3, x4⟩ := use5 w n sz a b pt
  have hB : Below w.heap.size w (w.alloc (.cells #[.int .i64 n, .int .i64 sz, .int .i64 a, .int .i64 b, .pointer pt] 88)) := ba (Below.refl _ _) _
  go_enter Try.func50, Try.ntmps50
  go_wp2
  go_ret
  exact ⟨rfl, hB⟩
theorem do_getx (n sz a b : Int) (pt : Option Addr) (q : Nat) (o : Nat) (hpt : pt = some ⟨q, o, none⟩) (x : Int) (w : World) (hx : w.cell? ⟨q, o, none⟩ = some (.int .i64 x)) : Calls Try.prog 45 #[useV n sz a b pt] w (DoP (x) w) := by
  unfold useV
  obtain ⟨x0, x1, x2, x3, x4⟩ := use5 w n sz a b pt
  have hB : Below w.heap.size w (w.alloc (.cells #[.int .i64 n, .int .i64 sz, .int .i64 a, .int .i64 b, .pointer pt] 88)) := ba (Below.refl _ _) _
  subst hpt
  have hx' := kc hB hx
  go_enter Try.func45, Try.ntmps45
  go_wp2
  go_ret
  exact ⟨rfl, hB⟩
theorem do_gety (n sz a b : Int) (pt : Option Addr) (q : Nat) (o : Nat) (hpt : pt = some ⟨q, o, none⟩) (x : Int) (w : World) (hx : w.cell? ⟨q, o + 1, none⟩ = some (.int .i64 x)) : Calls Try.prog 46 #[useV n sz a b pt] w (DoP (x) w) := by
  unfold useV
  obtain ⟨x0, x1, x2, x3, x4⟩ := use5 w n sz a b pt
  have hB : Below w.heap.size w (w.alloc (.cells #[.int .i64 n, .int .i64 sz, .int .i64 a, .int .i64 b, .pointer pt] 88)) := ba (Below.refl _ _) _
  subst hpt
  have hx' := kc hB hx
  go_enter Try.func46, Try.ntmps46
  go_wp2
  go_ret
  exact ⟨rfl, hB⟩
theorem do_choose (n sz a b : Int) (pt : Option Addr) (w : World) : Calls Try.prog 49 #[useV n sz a b pt] w (DoP (if 0 < a then 1 else 0) w) := by
  unfold useV
  obtain ⟨x0, x1, x2, x3, x4⟩ := use5 w n sz a b pt
  have hB : Below w.heap.size w (w.alloc (.cells #[.int .i64 n, .int .i64 sz, .int .i64 a, .int .i64 b, .pointer pt] 88)) := ba (Below.refl _ _) _
  by_cases h : 0 < a
  · rw [if_pos h]
    go_enter Try.func49, Try.ntmps49
    go_wp2
    go_ret
    exact ⟨rfl, hB⟩
  · rw [if_neg h]
    go_enter Try.func49, Try.ntmps49
    go_wp2
    go_ret
    exact ⟨rfl, hB⟩
theorem do_setx (n sz a b : Int) (pt : Option Addr) (q o : Nat) (hpt : pt = some ⟨q, o, none⟩) (x : Int) (w : World) (hx : w.cell? ⟨q, o, none⟩ = some (.int .i64 x)) (hf : w.frozen? ⟨q, o, none⟩ = false) :
    Calls Try.prog 47 #[useV n sz a b pt] w fun e w' => e = .returned (.int .i64 0) ∧ ∃ V, Below w.heap.size w V ∧ w' = V.setCell ⟨q, o, none⟩ (.int .i64 a) := by
  unfold useV
  obtain ⟨x0, x1, x2, x3, x4⟩ := use5 w n sz a b pt
  have hB : Below w.heap.size w (w.alloc (.cells #[.int .i64 n, .int .i64 sz, .int .i64 a, .int .i64 b, .pointer pt] 88)) := ba (Below.refl _ _) _
  subst hpt
  have hx' := kc hB hx
  have hf' := kf hB hx hf
  go_enter Try.func47, Try.ntmps47
  go_wp2
  go_ret
  exact ⟨rfl, _, hB, rfl⟩
theorem do_sety (n sz a b : Int) (pt : Option Addr) (q o : Nat) (hpt : pt = some ⟨q, o, none⟩) (x : Int) (w : World) (hx : w.cell? ⟨q, o + 1, none⟩ = some (.int .i64 x)) (hf : w.frozen? ⟨q, o + 1, none⟩ = false) :
    Calls Try.prog 48 #[useV n sz a b pt] w fun e w' => e = .returned (.int .i64 0) ∧ ∃ V, Below w.heap.size w V ∧ w' = V.setCell ⟨q, o + 1, none⟩ (.int .i64 a) := by
  unfold useV
  obtain ⟨x0, x1, x2, x3, x4⟩ := use5 w n sz a b pt
  have hB : Below w.heap.size w (w.alloc (.cells #[.int .i64 n, .int .i64 sz, .int .i64 a, .int .i64 b, .pointer pt] 88)) := ba (Below.refl _ _) _
  subst hpt
  have hx' := kc hB hx
  have hf' := kf hB hx hf
  go_enter Try.func48, Try.ntmps48
  go_wp2
  go_ret
  exact ⟨rfl, _, hB, rfl⟩
end Go.Proofs.Ytdgagjcocohnnaa.Mc
