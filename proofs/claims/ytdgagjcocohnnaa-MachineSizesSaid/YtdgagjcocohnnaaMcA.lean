/-
  Layer 9 (machine): operations, the table of their kinds; failIf, limited, hasBlock, lengthOf, fits.
-/
import Derived.Test.YtdgagjcocohnnaaProg
import Derived.Laws.BitsLemmas
import Derived.IntWalk
import Derived.Deep.QuietTactic
import Derived.BigQuiet
import Derived.WalkLawsBesides
import Derived.WalkSpells
import Derived.ChangeAlike
import Derived.Handy
import Derived.OpenShut
import Derived.Deep.DeepCutAuto
import Derived.Outline
import Derived.RegionTactic
import Derived.BigRegion
import Derived.Deep.RegionHeld3
import Derived.Deep.RegionHeldLaw
import Derived.Deep.AppendLies
import Derived.Deep.MidRow
import Derived.Recover
import Derived.Lib.Hide
import Derived.Lib.QuietBelow
import Derived.Lib.MinMax
namespace Go.Proofs.Ytdgagjcocohnnaa.Mc
open Go.RowKit

theorem kc {w a : World} (h : Below w.heap.size w a) {b o : Nat} {v : Value} (hc : w.cell? ⟨b, o, none⟩ = some v) : a.cell? ⟨b, o, none⟩ = some v := by
  rw [h.cell (p := ⟨b, o, none⟩) (block_lt_of_cell hc)]; exact hc
theorem kf {w a : World} (h : Below w.heap.size w a) {b o : Nat} {v : Value} {t : Bool} (hc : w.cell? ⟨b, o, none⟩ = some v) (f : w.frozen? ⟨b, o, none⟩ = t) : a.frozen? ⟨b, o, none⟩ = t := by
  rw [h.frozen (p := ⟨b, o, none⟩) (block_lt_of_cell hc)]; exact f
theorem bt {w u v : World} (h1 : Below w.heap.size w u) (h2 : Below u.heap.size u v) : Below w.heap.size w v := h1.trans (h2.mono h1.size)
theorem ba {w u : World} (h : Below w.heap.size w u) (o : Obj) : Below w.heap.size w (u.alloc o) := h.alloc h.size o
theorem bs {w u : World} (h : Below w.heap.size w u) {p : Addr} (hp : w.heap.size ≤ p.block) (v : Value) : Below w.heap.size w (u.setCell p v) := h.setCell hp v
theorem bd1 {w u : World} (h : Below w.heap.size w u) : Below w.heap.size w u.drew := ⟨h.os, h.tape, h.output, h.size, h.block⟩
theorem bd {w u : World} (h : Below w.heap.size w u) (n : Nat) : Below w.heap.size w (u.drewN n) := ⟨h.os, h.tape, h.output, h.size, h.block⟩
def R64 (x : Int) : Prop := -9223372036854775808 ≤ x ∧ x ≤ 9223372036854775807

/-- A run that has failed. -/
def pan (e : Int) : Ending := .panicked [{ v := .iface 36 (.int .i64 e), recovered := false }]
theorem failIf_no (e : Int) (w : World) : Calls Try.prog 61 #[.bool false, .int .i64 e] w fun r w' => r = .returned (.tuple #[]) ∧ w' = w := by
  go_enter Try.func61, Try.ntmps61
  go_wp2
  go_end0
  exact ⟨rfl, rfl⟩
theorem failIf_yes (e : Int) (w : World) : Calls Try.prog 61 #[.bool true, .int .i64 e] w fun r w' => r = pan e ∧ w' = w := by
  go_enter Try.func61, Try.ntmps61
  go_wp2
  exact ⟨rfl, rfl, rfl⟩
def lim (x : Int) : Int := min (max x (-1073741824)) 1073741824
theorem limited_any (x : Int) (w : World) : Calls Try.prog 64 #[.int .i64 x] w fun r w' => r = .returned (.int .i64 (lim x)) ∧ w' = w := by
  unfold lim
  go_enter Try.func64, Try.ntmps64
  go_wp2
  go_ret
  exact ⟨rfl, rfl⟩
/-- An operation. -/
structure Opn where
  c : Int
  n : Int
  m : Int
def opV (p : Opn) : Value := .agg #[.int .i64 p.c, .int .i64 p.n, .int .i64 p.m]
def hasB (p : Opn) : Bool := decide (p.c = 14) || decide (p.c = 15)
def blkL (p : Opn) : Int := if p.c = 14 then p.n else if p.c = 15 then p.m else 0
def fitB (p : Opn) (left : Int) : Bool := (decide (p.c = 14) || (decide (1 ≤ p.n) && decide (p.n ≤ 16))) && (decide (1 ≤ blkL p) && decide (blkL p ≤ left))
theorem op3 (w : World) (c n m : Int) : (w.alloc (.cells #[.int .i64 c, .int .i64 n, .int .i64 m] 45)).cell? ⟨w.heap.size, 0, none⟩ = some (.int .i64 c) ∧ (w.alloc (.cells #[.int .i64 c, .int .i64 n, .int .i64 m] 45)).cell? ⟨w.heap.size, 1, none⟩ = some (.int .i64 n) ∧ (w.alloc (.cells #[.int .i64 c, .int .i64 n, .int .i64 m] 45)).cell? ⟨w.heap.size, 2, none⟩ = some (.int .i64 m) := ⟨by go_cell, by go_cell, by go_cell⟩
set_option maxHeartbeats 2000000 in
theorem hasBlock_any (p : Opn) (w : World) :
    Calls Try.prog 62 #[opV p] w fun e w' => e = .returned (.bool (hasB p)) ∧ Below w.heap.size w w' := by
  obtain ⟨c, n, m⟩ := p
  unfold opV hasB
  simp only
  obtain ⟨e0, e1, e2⟩ := op3 w c n m
  have hB : Below w.heap.size w (w.alloc (.cells #[.int .i64 c, .int .i64 n, .int .i64 m] 45)) := ba (Below.refl _ _) _
  by_cases h1 : c = 14
  · subst h1
    go_enter Try.func62, Try.ntmps62
    go_wp2
    go_ret
    exact ⟨rfl, hB⟩
  · by_cases h2 : c = 15
    · subst h2
      go_enter Try.func62, Try.ntmps62
      go_wp2
      go_ret
      exact ⟨rfl, hB⟩
    · have g1 : (c == 14) = false := beq_eq_false_iff_ne.2 h1
      have g2 : (c == 15) = false := beq_eq_false_iff_ne.2 h2
      rw [decide_eq_false h1, decide_eq_false h2]
      go_enter Try.func62, Try.ntmps62
      go_wp2
      go_ret
      exact ⟨rfl, hB⟩
set_option maxHeartbeats 2000000 in
theorem lengthOf_any (p : Opn) (w : World) :
    Calls Try.prog 52 #[opV p] w fun e w' => e = .returned (.int .i64 (blkL p)) ∧ Below w.heap.size w w' := by
  obtain ⟨c, n, m⟩ := p
  unfold opV blkL
  simp only
  obtain ⟨e0, e1, e2⟩ := op3 w c n m
  have hB : Below w.heap.size w (w.alloc (.cells #[.int .i64 c, .int .i64 n, .int .i64 m] 45)) := ba (Below.refl _ _) _
  by_cases h1 : c = 14
  · subst h1
    go_enter Try.func52, Try.ntmps52
    go_wp2
    go_ret
    exact ⟨rfl, hB⟩
  · by_cases h2 : c = 15
    · subst h2
      go_enter Try.func52, Try.ntmps52
      go_wp2
      go_ret
      exact ⟨rfl, hB⟩
    · have g1 : (c == 14) = false := beq_eq_false_iff_ne.2 h1
      have g2 : (c == 15) = false := beq_eq_false_iff_ne.2 h2
      rw [if_neg h1, if_neg h2]
      go_enter Try.func52, Try.ntmps52
      go_wp2
      go_ret
      exact ⟨rfl, hB⟩
end Go.Proofs.Ytdgagjcocohnnaa.Mc
