/-
  Layer 9 (machine): half and round.
-/
import Derived.Test.YtdgagjcocohnnaaMcD
import Derived.Test.YtdgagjcocohnnaaExTwo
namespace Go.Proofs.Ytdgagjcocohnnaa.Mc
open Go.RowKit
open Go.Proofs.Ytdgagjcocohnnaa.Ex (FlI FlB RoI RoB outI fits floor_go round_go floorQ)
theorem half_q (a : Int) (h : L30 a) : FlI a 2 = a / 2 ∧ FlB a 2 = true := by
  obtain ⟨h1, h2⟩ := h
  have e : floorQ a 2 = a / 2 := by
    unfold floorQ
    have s2 : Go.Proofs.Ytdgagjcocohnnaa.Ex.sgn 2 = 1 := rfl
    rw [s2]
    omega
  have e2 : fits (a / 2) = true := decide_eq_true (by omega)
  refine ⟨?_, ?_⟩
  · unfold FlI outI
    rw [if_neg (by decide), e, if_pos e2]
  · unfold FlB
    rw [if_neg (by decide), e, e2]
theorem round_q (a : Int) (h : L30 a) : RoI a 64 = (2 * a + 64) / 128 ∧ RoB a 64 = true := by
  obtain ⟨h1, h2⟩ := h
  have e2 : fits ((2 * a + 64) / (2 * 64)) = true := decide_eq_true (by omega)
  refine ⟨?_, ?_⟩
  · unfold RoI outI
    rw [if_neg (by decide), if_pos e2]
    rfl
  · unfold RoB
    rw [if_neg (by decide), e2]
theorem do_half (n sz a b : Int) (pt : Option Addr) (ha : L30 a) (w : World) : Calls Try.prog 42 #[useV n sz a b pt] w (DoP (a / 2) w) := by
  have FL := Lib.hid (fun W => floor_go a 2 (by have := ha.1; have := ha.2; omega) (by omega) W)
  obtain ⟨q1, q2⟩ := half_q a ha
  rw [q1, q2] at FL
  generalize a / 2 = q at *
  unfold useV
  obtain ⟨x0, x1, x2, x3, x4⟩ := use5 w n sz a b pt
  have hB : Below w.heap.size w (w.alloc (.cells #[.int .i64 n, .int .i64 sz, .int .i64 a, .int .i64 b, .pointer pt] 88)) := ba (Below.refl _ _) _
  clear q1 q2
  go_enter Try.func42, Try.ntmps42
  go_wp2_with ((with_reducible refine (FL.out _).mono ?_); rintro e v1 ⟨rfl, hv1⟩; replace hB := bt hB hv1)
  go_ret
  exact ⟨rfl, hB⟩
theorem do_round (n sz a b : Int) (pt : Option Addr) (ha : L30 a) (w : World) : Calls Try.prog 43 #[useV n sz a b pt] w (DoP (64 * ((2 * a + 64) / 128)) w) := by
  have FL := Lib.hid (fun W => round_go a 64 (by have := ha.1; have := ha.2; omega) (by omega) W)
  obtain ⟨q1, q2⟩ := round_q a ha
  rw [q1, q2] at FL
  have b1 : -10000000000 ≤ (2 * a + 64) / 128 := by have := ha.1; omega
  have b2 : (2 * a + 64) / 128 ≤ 10000000000 := by have := ha.2; omega
  generalize (2 * a + 64) / 128 = q at *
  unfold useV
  obtain ⟨x0, x1, x2, x3, x4⟩ := use5 w n sz a b pt
  have hB : Below w.heap.size w (w.alloc (.cells #[.int .i64 n, .int .i64 sz, .int .i64 a, .int .i64 b, .pointer pt] 88)) := ba (Below.refl _ _) _
  clear q1 q2
  go_enter Try.func43, Try.ntmps43
  go_wp2_with ((with_reducible refine (FL.out _).mono ?_); rintro e v1 ⟨rfl, hv1⟩; replace hB := bt hB hv1)
  go_ret
  exact ⟨rfl, hB⟩
end Go.Proofs.Ytdgagjcocohnnaa.Mc
