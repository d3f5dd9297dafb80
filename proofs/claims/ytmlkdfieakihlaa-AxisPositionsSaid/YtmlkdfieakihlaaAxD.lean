/-
  Layer 5 (axis): Check.
-/
import Derived.Test.YtmlkdfieakihlaaAxC
import Derived.Deep.RegionHeld3
namespace Go.Proofs.Ytmlkdfieakihlaa.Ax
open Go.RowKit

def CkRel (w : World) (g : Nat → Axs) (n : Nat) (v : Value) (V : World) : Prop := ∃ k : Nat, v = .int .i64 k ∧ k ≤ n ∧ ckTo g k = 0 ∧ Below w.heap.size w V
set_option maxRecDepth 100000 in
set_option maxHeartbeats 4000000 in
theorem Check_any (a : Option Addr) (n c : Nat) (g : Nat → Axs) (hn : n ≤ c ∧ c ≤ 9223372036854775807) (w : World) (hA : AA w a n g) :
    Calls Try.prog 13 #[.slice a n c] w fun e w' => e = .returned (.int .i64 (ckL g n)) ∧ Below w.heap.size w w' := by
  obtain ⟨hn1, hn2⟩ := hn
  unfold ckL
  by_cases h3 : n ≤ 3
  · rw [if_pos h3]
    have q1 : decide ((3 : Int) < (n : Int)) = false := decide_eq_false (by omega)
    have HA := Lib.hid hA
    clear hA
    go_enter Try.func13, Try.ntmps13
    go_wp2_with fail
    clear q1
    go_loopw [11] (fun v V => CkRel w g n v V) (fun v _ => n - (intOf v).toNat)
    case atStart => exact ⟨0, rfl, by omega, rfl, Below.refl _ _⟩
    case round =>
      obtain ⟨k, rfl, hle, hz, hB⟩ := hrel
      rename World => V
      rcases Nat.lt_or_ge k n with hk | hk
      · have HA2 := aa_below HA.out hB
        have C := fun V' (h : Below V.heap.size V V') => checkNext_any a k c g (g k) (by omega) V' (aa_less (aa_below HA2 h) (by omega))
        obtain ⟨b, o, rfl, x0, x1, x2, x3⟩ := HA2 k hk
        have hN : Hid (ckOne g k (g k) = 0 → CkRel w g n (.int .i64 ((k : Int) + 1)) V) := Lib.hid (fun h => ⟨k + 1, rfl, by omega, by rw [ckTo, if_pos hz, h], hB⟩)
        have hY : Hid (¬ ckOne g k (g k) = 0 → ckTo g n = ckOne g k (g k)) := Lib.hid (fun h => ckTo_stay hz h n hk)
        have k1 : (k : Int) ≤ (c : Int) := by omega
        have k2 : (0 : Int) ≤ (k : Int) := by omega
        have k3 : (k : Int) < (n : Int) := by omega
        unfold axV at C
        clear hz HA2
        generalize ckOne g k (g k) = z at *
        generalize g k = x at *
        go_wp2
        have hX : BxA (V.alloc (.cells #[.string x.t, .int .i64 x.l, .int .i64 x.u, .int .i64 x.h] 29)) V.heap.size x := ⟨by go_cell, by go_cell, by go_cell, by go_cell⟩
        have hB1 : Below V.heap.size V (V.alloc (.cells #[.string x.t, .int .i64 x.l, .int .i64 x.u, .int .i64 x.h] 29)) := ba (Below.refl _ _) _
        clear x0 x1 x2 x3
        obtain ⟨B, hBs⟩ : ∃ B, B = V.heap.size := ⟨_, rfl⟩
        rw [← hBs] at hX ⊢
        generalize V.alloc (.cells #[.string x.t, .int .i64 x.l, .int .i64 x.u, .int .i64 x.h] 29) = V1 at *
        have C1 : Hid (∀ V', Below V1.heap.size V1 V' → _) := Lib.hid (fun V' h => C V' (bt hB1 h))
        have X0 : ∀ V', Below V1.heap.size V1 V' → V'.cell? ⟨B, 0, none⟩ = some (.string x.t) := fun _ h => (bxa_below hX h).1
        have X1 : ∀ V', Below V1.heap.size V1 V' → V'.cell? ⟨B, 1, none⟩ = some (.int .i64 x.l) := fun _ h => (bxa_below hX h).2.1
        have X2 : ∀ V', Below V1.heap.size V1 V' → V'.cell? ⟨B, 2, none⟩ = some (.int .i64 x.u) := fun _ h => (bxa_below hX h).2.2.1
        have X3 : ∀ V', Below V1.heap.size V1 V' → V'.cell? ⟨B, 3, none⟩ = some (.int .i64 x.h) := fun _ h => (bxa_below hX h).2.2.2
        clear hX C hBs
        go_region_held3 (fun w' => Below V1.heap.size V1 w') (first
          | (with_reducible exact bd1 (Below.refl _ _))
          | (with_reducible exact bt (by assumption) hba))
          (first
          | ((with_reducible refine (C1.out _ (by assumption)).mono ?_); rintro en wa ⟨rfl, hba⟩))
        have hb2 : Below V1.heap.size V1 wa := by with_reducible assumption
        replace hB := bt (bt hB hB1) hb2
        rcases Classical.em (z = 0) with rfl | hz0
        · have R : Hid (CkRel w g n (.int .i64 ((k : Int) + 1)) wa) := Lib.hid (by
            obtain ⟨k', e1, e2, e3, _⟩ := hN.out rfl
            exact ⟨k', e1, e2, e3, hB⟩)
          go_wp2_with fail
          exact ⟨R.out, by simp [intOf]; omega⟩
        · have hR := Lib.hid (hY.out hz0)
          have hz1 : (z == 0) = false := beq_eq_false_iff_ne.2 hz0
          clear hY hN
          go_wp2
          go_ret
          exact ⟨by rw [hR.out]; rfl, hB⟩
      · obtain rfl : k = n := by omega
        have hL := Lib.hid hz
        clear hz
        go_wp2
        go_ret
        exact ⟨by rw [hL.out]; rfl, hB⟩
  · rw [if_neg h3]
    have q1 : decide ((3 : Int) < (n : Int)) = true := decide_eq_true (by omega)
    go_enter Try.func13, Try.ntmps13
    go_wp2
    go_ret
    exact ⟨rfl, Below.refl _ _⟩
end Go.Proofs.Ytmlkdfieakihlaa.Ax
