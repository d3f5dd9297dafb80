/-
  Layer 5 (axis): what AxisPositions compares; axes that are changed in one place.
-/
import Derived.Test.YtmlkdfieakihlaaAxRn
import Derived.Test.YtmlkdfieakihlaaAxS
namespace Go.Proofs.Ytmlkdfieakihlaa.Ax
open Go.RowKit
def nmK2 (g : Nat → Axs) (n m : Nat) : Nat := if nmE g n m = 0 then n else 0
theorem nmE_zero {g : Nat → Axs} {n m : Nat} (h : nmE g n m = 0) : ckL g n = 0 ∧ m = n := by
  unfold nmE at h
  by_cases hz : ckL g n = 0
  · rw [if_pos hz] at h
    by_cases hm : m = n
    · exact ⟨hz, hm⟩
    · rw [if_neg hm] at h; cases h
  · rw [if_neg hz] at h; exact absurd h hz
theorem Norm_all (a : Option Addr) (n c : Nat) (g : Nat → Axs) (pa : Option Addr) (m d : Nat) (p : Nat → Int) (hn : n ≤ c ∧ c ≤ 9223372036854775807) (w : World) (hA : AA w a n g) (hP : LA w pa m p) :
    Calls Try.prog 11 #[.slice a n c, .slice pa m d] w fun e w' => ∃ (S : Option Addr) (cc : Nat), e = .returned (.tuple #[.slice S (nmK2 g n m) cc, .int .i64 (nmE g n m)]) ∧ LA w' S (nmK2 g n m) (fun i => nm (g i) (p i)) ∧ Below w.heap.size w w' := by
  unfold nmK2
  by_cases hE : nmE g n m = 0
  · obtain ⟨h1, rfl⟩ := nmE_zero hE
    rw [if_pos hE, hE]
    refine (Normal_ok a m c g pa d p hn w hA hP h1).mono ?_
    rintro e w' ⟨S, rfl, hO, hS, hB⟩
    exact ⟨_, _, rfl, oi_la hO, hB⟩
  · rw [if_neg hE]
    refine (Normal_bad a n c g pa m d hn w hA hE).mono ?_
    rintro e w' ⟨rfl, hB⟩
    exact ⟨_, _, rfl, fun i hi => absurd hi (by omega), hB⟩
theorem rNorm_all (a : Option Addr) (n c : Nat) (g : Nat → Axs) (pa : Option Addr) (m d : Nat) (p : Nat → Int) (hs : ∀ i, i < n → (g i).t.size ≤ 9223372036854775807) (w : World) (hA : AA w a n g) (hP : LA w pa m p) :
    Calls Try.prog 12 #[.slice a n c, .slice pa m d] w fun e w' => ∃ (S : Option Addr) (cc : Nat), e = .returned (.tuple #[.slice S (nmK2 g n m) cc, .int .i64 (nmE g n m)]) ∧ LA w' S (nmK2 g n m) (fun i => nm (g i) (p i)) ∧ Below w.heap.size w w' := by
  unfold nmK2
  by_cases hE : nmE g n m = 0
  · obtain ⟨h1, rfl⟩ := nmE_zero hE
    rw [if_pos hE, hE]
    refine (rNormal_ok a m c g pa d p hs w hA hP h1).mono ?_
    rintro e w' ⟨S, cc, rfl, hL, hB⟩
    exact ⟨_, _, rfl, hL, hB⟩
  · rw [if_neg hE]
    refine (rNormal_bad a n c g pa m d hs w hA hE).mono ?_
    rintro e w' ⟨rfl, hB⟩
    exact ⟨_, _, rfl, fun i hi => absurd hi (by omega), hB⟩
theorem nmK2_le (g : Nat → Axs) (n m : Nat) : nmK2 g n m ≤ n := by unfold nmK2; split <;> omega
/-- Axes as a comparison wants them. -/
def Good (V : World) (a : Option Addr) (n c : Nat) : Prop := ∃ g : Nat → Axs, n ≤ 5 ∧ n ≤ c ∧ c ≤ 9223372036854775807 ∧ AA V a n g ∧ ∀ i, i < n → (g i).t.size ≤ 9223372036854775807
theorem good_below {V V' : World} {a : Option Addr} {n c : Nat} (h : Good V a n c) (hB : Below V.heap.size V V') : Good V' a n c := by
  obtain ⟨g, h1, h2, h3, h4, h5⟩ := h
  exact ⟨g, h1, h2, h3, aa_below h4 hB, h5⟩
theorem good_made {V : World} {B : Nat} {a : Option Addr} {n c : Nat} {g : Nat → Axs} (h : OA V B a n g) (hn : n ≤ 3) (h1 : n ≤ c) (h2 : c ≤ 9223372036854775807) (hok : ∀ i, i < n → mdOk (g i) i) : Good V a n c :=
  ⟨g, by omega, h1, h2, oa_aa h, fun i hi => by rw [(hok i hi).1]; unfold tagN; split; (simp [ByteArray.size]); split <;> simp [ByteArray.size]⟩
/-- A field of one axis stored. -/
theorem aa_put {V : World} {b n j f : Nat} {g : Nat → Axs} {v : Value} {x : Axs} (h : OA V 0 (some ⟨b, 0, none⟩) n g) (hj : j < n) (hf : f < 4)
    (h0 : f = 0 → v = .string x.t) (h1 : f = 1 → v = .int .i64 x.l) (h2 : f = 2 → v = .int .i64 x.u) (h3 : f = 3 → v = .int .i64 x.h)
    (e0 : f ≠ 0 → x.t = (g j).t) (e1 : f ≠ 1 → x.l = (g j).l) (e2 : f ≠ 2 → x.u = (g j).u) (e3 : f ≠ 3 → x.h = (g j).h) :
    AA (V.setCell ⟨b, j * 4 + f, none⟩ v) (some ⟨b, 0, none⟩) n (fun i => if i = j then x else g i) := by
  intro i hi
  obtain ⟨b', e, _, ⟨c0, c1, c2, c3⟩, hz⟩ := h i hi
  cases e
  refine ⟨b, 0, rfl, ?_⟩
  rw [Nat.zero_add]
  by_cases hij : i = j
  · subst hij
    simp only [if_true]
    have hzf := hz (i * 4 + f)
    have : f = 0 ∨ f = 1 ∨ f = 2 ∨ f = 3 := by omega
    rcases this with rfl | rfl | rfl | rfl
    · rw [h0 rfl, Nat.add_zero]
      rw [← e1 (by omega)] at c1; rw [← e2 (by omega)] at c2; rw [← e3 (by omega)] at c3
      rw [Nat.add_zero] at hzf
      exact ⟨by go_cell, by go_cell, by go_cell, by go_cell⟩
    · rw [h1 rfl]
      rw [← e0 (by omega)] at c0; rw [← e2 (by omega)] at c2; rw [← e3 (by omega)] at c3
      exact ⟨by go_cell, by go_cell, by go_cell, by go_cell⟩
    · rw [h2 rfl]
      rw [← e0 (by omega)] at c0; rw [← e1 (by omega)] at c1; rw [← e3 (by omega)] at c3
      exact ⟨by go_cell, by go_cell, by go_cell, by go_cell⟩
    · rw [h3 rfl]
      rw [← e0 (by omega)] at c0; rw [← e1 (by omega)] at c1; rw [← e2 (by omega)] at c2
      exact ⟨by go_cell, by go_cell, by go_cell, by go_cell⟩
  · simp only [if_neg hij]
    have n0 : ¬ j * 4 + f = i * 4 := by omega
    have n1 : ¬ j * 4 + f = i * 4 + 1 := by omega
    have n2 : ¬ j * 4 + f = i * 4 + 2 := by omega
    have n3 : ¬ j * 4 + f = i * 4 + 3 := by omega
    exact ⟨by go_cell, by go_cell, by go_cell, by go_cell⟩
end Go.Proofs.Ytmlkdfieakihlaa.Ax
