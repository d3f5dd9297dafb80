/-
  Layer 5 (axis): User of the program.
-/
import Derived.Test.YtmlkdfieakihlaaAxE
namespace Go.Proofs.Ytmlkdfieakihlaa.Ax
open Go.RowKit
open Go.Proofs.Ytmlkdfieakihlaa.Ex (RoI RoB outI fits round_go round_ref)

theorem ro_in {a b M : Int} (hb : 1 ≤ b) (hM : 0 ≤ M ∧ M ≤ 1000000000000) (ha : 0 ≤ a ∧ a ≤ M * b) : RoI a b = (2 * a + b) / (2 * b) ∧ 0 ≤ RoI a b ∧ RoI a b ≤ M := by
  have h1 : 0 ≤ (2 * a + b) / (2 * b) := Int.ediv_nonneg (by omega) (by omega)
  have h2 : (2 * a + b) / (2 * b) ≤ M := by
    apply Int.le_of_lt_add_one
    apply Int.ediv_lt_of_lt_mul (by omega)
    rw [show (M + 1) * (2 * b) = 2 * (M * b) + 2 * b by rw [Int.add_mul, Int.one_mul, Int.mul_left_comm]]
    omega
  have h3 : RoI a b = (2 * a + b) / (2 * b) := by
    unfold RoI outI fits
    rw [if_neg (by omega), if_pos (decide_eq_true (by omega))]
  rw [h3]
  exact ⟨rfl, h1, h2⟩
/-- The error of one axis. -/
def ck1 (x : Axs) : Int := ckOne (fun _ => x) 0 x
theorem ckL_one (x : Axs) : ckL (fun _ => x) 1 = ck1 x := rfl
theorem ckOne_none (g : Nat → Axs) (x : Axs) : ckOne g 0 x = ck1 x := rfl
/-- The position in user units. -/
def us (x : Axs) (v : Int) : Int :=
  if ck1 x = 0 then (if lim v (-64) 64 < 0 then x.u - RoI (-lim v (-64) 64 * (x.u - x.l)) 64 else x.u + RoI (lim v (-64) 64 * (x.h - x.u)) 64) else 0
theorem aa_one {w : World} {b : Nat} {x : Axs} (h : BxA w b x) : AA w (some ⟨b, 0, none⟩) 1 (fun _ => x) := fun i hi => by
  obtain rfl : i = 0 := by omega
  exact ⟨b, 0, rfl, h⟩
theorem bxa_new (V : World) (x : Axs) (T : TypeId) : BxA (V.alloc (.cells #[.string x.t, .int .i64 x.l, .int .i64 x.u, .int .i64 x.h] T)) V.heap.size x := ⟨by go_cell, by go_cell, by go_cell, by go_cell⟩
set_option maxRecDepth 100000 in
set_option maxHeartbeats 1000000 in
theorem User_no (x : Axs) (v z : Int) (hz : ¬ z = 0) (CK : Hid (∀ w b, BxA w b x → Calls Try.prog 13 #[.slice (some ⟨b, 0, none⟩) 1 1] w fun e w' => e = .returned (.int .i64 z) ∧ Below w.heap.size w w')) (w : World) :
    Calls Try.prog 16 #[axV x, .int .i64 v] w fun e w' => e = .returned (.int .i64 0) ∧ Below w.heap.size w w' := by
  have hz1 : (z == 0) = false := beq_eq_false_iff_ne.2 hz
  unfold axV
  go_enter Try.func16, Try.ntmps16
  go_wp2_with fail
  have hb := bxa_new (w.alloc (.cells #[.string x.t, .int .i64 x.l, .int .i64 x.u, .int .i64 x.h] 29)) x 29
  simp only [World.size_alloc] at hb
  refine (CK.out _ _ hb).mono ?_
  rintro e V1 ⟨rfl, hB1⟩
  go_wp2
  go_ret
  exact ⟨rfl, bt (ba (ba (Below.refl _ _) _) _) hB1⟩
set_option maxRecDepth 100000 in
set_option maxHeartbeats 2000000 in
theorem User_core (x : Axs) (v n s f wh F q r : Int) (b : Bool)
    (CK : Hid (∀ w b, BxA w b x → Calls Try.prog 13 #[.slice (some ⟨b, 0, none⟩) 1 1] w fun e w' => e = .returned (.int .i64 0) ∧ Below w.heap.size w w'))
    (LM : Hid (∀ w, Calls Try.prog 29 #[.int .i64 v] w fun e w' => e = .returned (.int .i64 n) ∧ Below w.heap.size w w'))
    (CM : Hid (∀ w, Calls Try.prog 30 #[.int .i64 n, .int .i64 0] w fun e w' => e = .returned (.int .i64 s) ∧ Below w.heap.size w w'))
    (SD : Hid (∀ H L M (w : World), w.cell? ⟨H, 0, none⟩ = some (.int .i64 x.h) → w.cell? ⟨L, 0, none⟩ = some (.int .i64 x.l) → w.cell? ⟨M, 0, none⟩ = some (.int .i64 x.u) →
      Calls Try.prog 49 #[.int .i64 s, .int .i64 x.u, .pointer (some ⟨H, 0, none⟩), .pointer (some ⟨L, 0, none⟩), .pointer (some ⟨M, 0, none⟩)] w fun e w' => e = .returned (.tuple #[.int .i64 f, .int .i64 wh]) ∧ Below w.heap.size w w'))
    (q1 : wrap64 (wrap64 (s * n) * wh) = F)
    (RD : Hid (∀ w, Calls Try.prog 32 #[.int .i64 F, .int .i64 64] w fun e w' => e = .returned (.tuple #[.int .i64 q, .bool b]) ∧ Below w.heap.size w w'))
    (q2 : wrap64 (x.u + wrap64 (s * q)) = r) (w : World) :
    Calls Try.prog 16 #[axV x, .int .i64 v] w fun e w' => e = .returned (.int .i64 r) ∧ Below w.heap.size w w' := by
  have SS := Lib.hid (fun w => sides_any x.l x.u x.h w)
  have Q2 := Lib.hid q2
  clear q2
  unfold axV
  unfold sdV at SS
  go_enter Try.func16, Try.ntmps16
  go_wp2_with fail
  have hb := bxa_new (w.alloc (.cells #[.string x.t, .int .i64 x.l, .int .i64 x.u, .int .i64 x.h] 29)) x 29
  simp only [World.size_alloc] at hb
  refine (CK.out _ _ hb).mono ?_
  rintro e V0 ⟨rfl, hB⟩
  have hX : BxA V0 w.heap.size x := bxa_below (bxa_below (bxa_new w x _) (ba (Below.refl _ _) _)) hB
  have hB0 : Below w.heap.size w V0 := bt (ba (ba (Below.refl _ _) _) _) hB
  clear hB hb
  obtain ⟨x0, x1, x2, x3⟩ := id hX
  go_wp2_with fail
  refine (LM.out _).mono ?_
  rintro e V1 ⟨rfl, hB1⟩
  replace hB0 := bt hB0 hB1
  replace hX := bxa_below hX hB1
  clear x0 x1 x2 x3
  obtain ⟨x0, x1, x2, x3⟩ := id hX
  go_wp2_with fail
  refine (CM.out _).mono ?_
  rintro e V2 ⟨rfl, hB2⟩
  replace hB0 := bt hB0 hB2
  replace hX := bxa_below hX hB2
  clear x0 x1 x2 x3
  go_upto_region 5 with (fail)
  have X0 : ∀ V', Below V2.heap.size V2 V' → V'.cell? ⟨w.heap.size, 1, none⟩ = some (.int .i64 x.l) := fun _ h => (bxa_below hX h).2.1
  have X1 : ∀ V', Below V2.heap.size V2 V' → V'.cell? ⟨w.heap.size, 2, none⟩ = some (.int .i64 x.u) := fun _ h => (bxa_below hX h).2.2.1
  have X2 : ∀ V', Below V2.heap.size V2 V' → V'.cell? ⟨w.heap.size, 3, none⟩ = some (.int .i64 x.h) := fun _ h => (bxa_below hX h).2.2.2
  go_region_held3 (fun w' => Below V2.heap.size V2 w') (first
    | (with_reducible exact bd1 (Below.refl _ _))
    | (with_reducible exact bt (by assumption) hba))
    (first
    | ((with_reducible refine (SS.out _).mono ?_); rintro en wa ⟨H, L, M, rfl, c1, c2, c3, hba⟩)
    | ((with_reducible refine (SD.out _ _ _ _ (by assumption) (by assumption) (by assumption)).mono ?_); rintro en wa ⟨rfl, hba⟩))
  have hb3 : Below V2.heap.size V2 wa := by with_reducible assumption
  replace hB0 := bt hB0 hb3
  replace hX := bxa_below hX hb3
  clear X0 X1 X2
  obtain ⟨x0, x1, x2, x3⟩ := id hX
  go_wp2_with fail
  refine (RD.out _).mono ?_
  rintro e V3 ⟨rfl, hB3⟩
  replace hB0 := bt hB0 hB3
  replace hX := bxa_below hX hB3
  clear x0 x1 x2 x3
  obtain ⟨x0, x1, x2, x3⟩ := id hX
  go_wp2
  go_ret
  exact ⟨by rw [← Q2.out]; rfl, hB0⟩
theorem ck1_rg {x : Axs} (h : ck1 x = 0) : rgA x := ckOne_zero h
theorem mul_in {n s M N : Int} (hn : 0 ≤ n ∧ n ≤ M) (hs : 0 ≤ s ∧ s ≤ N) (hM : 0 ≤ M) : 0 ≤ n * s ∧ n * s ≤ M * N :=
  ⟨Int.mul_nonneg hn.1 hs.1, Int.mul_le_mul hn.2 hs.2 hs.1 hM⟩
theorem User_any (x : Axs) (v : Int) (w : World) :
    Calls Try.prog 16 #[axV x, .int .i64 v] w fun e w' => e = .returned (.int .i64 (us x v)) ∧ Below w.heap.size w w' := by
  have CK : Hid (∀ w b, BxA w b x → Calls Try.prog 13 #[.slice (some ⟨b, 0, none⟩) 1 1] w fun e w' => e = .returned (.int .i64 (ck1 x)) ∧ Below w.heap.size w w') :=
    Lib.hid (fun w b h => Check_any (some ⟨b, 0, none⟩) 1 1 (fun _ => x) (by omega) w (aa_one h))
  unfold us
  by_cases hz : ck1 x = 0
  · rw [if_pos hz]
    obtain ⟨h1, h2, h3, h4⟩ := ck1_rg hz
    rw [hz] at CK
    have LM := Lib.hid (fun w => limNormal_any v w)
    have hn := lim_in (v := v) (lo := -64) (hi := 64) (by omega)
    generalize lim v (-64) 64 = n at *
    have CM := Lib.hid (fun w => compare_any n 0 w)
    by_cases c1 : n < 0
    · rw [if_pos c1]
      rw [show cmpI n 0 = -1 from if_pos c1] at CM
      have hm := mul_in (n := -n) (s := x.u - x.l) (M := 64) (N := 2000) (by omega) (by omega) (by omega)
      have hq := ro_in (a := -n * (x.u - x.l)) (b := 64) (M := 2000) (by omega) (by omega) (by omega)
      refine User_core x v n (-1) 0 (x.u - x.l) (-n * (x.u - x.l)) (RoI (-n * (x.u - x.l)) 64) _ _ CK LM CM (Lib.hid (fun H L M w k1 k2 k3 => ?_)) ?_ (Lib.hid (fun w => round_go _ _ (by omega) (by omega) w)) ?_ w
      · have := sides1_any (-1) x.u x.l x.u x.h H L M w k1 k2 k3
        rw [if_pos (by omega), w64 (x := x.u - x.u) (by omega), w64 (x := x.l - x.u) (by omega), w64 (by omega), w64 (by omega), show -1 * (x.u - x.u) = 0 by omega, show -1 * (x.l - x.u) = x.u - x.l by omega] at this
        exact this
      · rw [w64 (x := -1 * n) (by omega), show -1 * n = -n by omega, w64 (by omega)]
      · rw [w64 (x := -1 * _) (by omega), w64 (by omega)]; omega
    · rw [if_neg c1]
      have hm := mul_in (n := n) (s := x.h - x.u) (M := 64) (N := 2000) (by omega) (by omega) (by omega)
      have hq := ro_in (a := n * (x.h - x.u)) (b := 64) (M := 2000) (by omega) (by omega) (by omega)
      by_cases c2 : 0 < n
      · rw [show cmpI n 0 = 1 by unfold cmpI; rw [if_neg c1, if_pos c2]] at CM
        refine User_core x v n 1 0 (x.h - x.u) (n * (x.h - x.u)) (RoI (n * (x.h - x.u)) 64) _ _ CK LM CM (Lib.hid (fun H L M w k1 k2 k3 => ?_)) ?_ (Lib.hid (fun w => round_go _ _ (by omega) (by omega) w)) ?_ w
        · have := sides1_any 1 x.u x.l x.u x.h H L M w k1 k2 k3
          rw [if_neg (by omega), w64 (x := x.u - x.u) (by omega), w64 (x := x.h - x.u) (by omega), Int.one_mul, Int.one_mul, w64 (by omega), w64 (by omega), Int.sub_self] at this
          exact this
        · rw [Int.one_mul, w64 (x := n) (by omega), w64 (by omega)]
        · rw [Int.one_mul, w64 (x := RoI _ _) (by omega), w64 (by omega)]
      · rw [show cmpI n 0 = 0 by unfold cmpI; rw [if_neg c1, if_neg c2]] at CM
        obtain rfl : n = 0 := by omega
        rw [Int.zero_mul, show RoI 0 64 = 0 from by decide, Int.add_zero]
        refine User_core x v 0 0 0 0 0 0 _ _ CK LM CM (Lib.hid (fun H L M w k1 k2 k3 => ?_)) ?_ (Lib.hid (fun w => round_go 0 64 (by omega) (by omega) w)) ?_ w
        · have := sides1_any 0 x.u x.l x.u x.h H L M w k1 k2 k3
          rw [Int.zero_mul, Int.zero_mul, w64 (by omega)] at this
          exact this
        · unfold wrap64; omega
        · rw [Int.zero_mul, w64 (x := 0) (by omega), w64 (by omega)]; omega
  · rw [if_neg hz]
    exact User_no x v _ hz CK w
end Go.Proofs.Ytmlkdfieakihlaa.Ax
