/-
  Layer 5 (axis): Scalar whole; the document's own Scalar.
-/
import Derived.Test.YtcogoomajfahkaaAxK
import Derived.Test.YtcogoomajfahkaaExThree
namespace Go.Proofs.Ytcogoomajfahkaa.Ax
open Go.RowKit
open Go.Proofs.Ytcogoomajfahkaa.Ex (MuN MuD MuB okR fits redN redD mul_ref)

theorem Scalar_any (a : Option Addr) (n c : Nat) (g : Nat → Tns) (pa : Option Addr) (m d : Nat) (p : Nat → Int) (hn : n ≤ 9223372036854775807) (w : World) (hA : TA w a n g) (hP : LA w pa m p) :
    Calls Try.prog 67 #[.slice a n c, .slice pa m d] w fun e w' => e = .returned (ratV (scal g n (ps m p)).1 (scal g n (ps m p)).2) ∧ Below w.heap.size w w' := by
  unfold scal
  rcases hv : vts g n with _ | _
  · rw [if_neg Bool.false_ne_true]
    exact Scalar_no a n c g pa m d hn w hA hv
  · rw [if_pos rfl]
    exact Scalar_yes a n c g pa m d p hn w hA hP hv
set_option maxRecDepth 100000 in
set_option maxHeartbeats 1000000 in
theorem rScalar_no (a : Option Addr) (n c : Nat) (g : Nat → Tns) (pa : Option Addr) (m d : Nat) (hn : n ≤ 1000000) (w : World) (hA : TA w a n g) (hv : vts g n = false) :
    Calls Try.prog 32 #[.slice a n c, .slice pa m d] w fun e w' => e = .returned (ratV 0 0) ∧ Below w.heap.size w w' := by
  have F : Hid (∀ V, Below w.heap.size w V → Calls Try.prog 51 #[.slice a n c, .int .i64 n] V fun e w' => e = .returned (.bool false) ∧ Below V.heap.size V w') := Lib.hid (fun V h => by
    have := rFits_any a n c g n hn V (ta_below hA h)
    unfold fit at this
    rw [hv, Bool.and_false] at this
    exact this)
  unfold ratV
  go_enter Try.func32, Try.ntmps32
  go_wp2_with fail
  have hB := ba (Below.refl _ w) (.cells #[.int .i64 0, .int .i64 0] 67)
  refine (F.out _ hB).mono ?_
  rintro e V0 ⟨rfl, hB1⟩
  have hR := rb_below (rb_new w (0, 0) 67) hB1
  replace hB := bt hB hB1
  clear hB1
  obtain ⟨d0, d1, f0, f1⟩ := hR
  simp only at d0 d1
  go_wp2
  refine bodyPost_ret (v := .agg #[.int .i64 0, .int .i64 0]) (by simp [results, Try.results32, go_sem, d0, d1]) rfl ⟨rfl, ?_⟩
  exact bs (bs hB (by simp) _) (by simp) _
set_option maxRecDepth 100000 in
set_option maxHeartbeats 4000000 in
theorem rScalar_yes (a : Option Addr) (n c : Nat) (g : Nat → Tns) (pa : Option Addr) (m d : Nat) (p : Nat → Int) (hn : n ≤ 1000000) (w : World) (hA : TA w a n g) (hP : LA w pa m p) (hv : vts g n = true) :
    Calls Try.prog 32 #[.slice a n c, .slice pa m d] w fun e w' => e = .returned (ratV (scS g (ps m p) n).1 (scS g (ps m p) n).2) ∧ Below w.heap.size w w' := by
  have F : Hid (∀ V, Below w.heap.size w V → Calls Try.prog 51 #[.slice a n c, .int .i64 n] V fun e w' => e = .returned (.bool true) ∧ Below V.heap.size V w') := Lib.hid (fun V h => by
    have := rFits_any a n c g n hn V (ta_below hA h)
    unfold fit at this
    rw [hv, decide_eq_true rfl] at this
    exact this)
  have VA := Lib.hid (fun k hk => vt_rg (vts_all hv k hk))
  have HA := Lib.hid hA
  have HP := Lib.hid hP
  clear hA hP hv
  unfold ratV
  go_enter Try.func32, Try.ntmps32
  go_wp2_with fail
  have hB := ba (Below.refl _ w) (.cells #[.int .i64 0, .int .i64 0] 67)
  refine (F.out _ hB).mono ?_
  rintro e V0 ⟨rfl, hB1⟩
  have hR := rb_below (rb_new w (0, 0) 67) hB1
  replace hB := bt hB hB1
  clear hB1
  have hS := rb_new V0 (1, 1) 67
  have hB1 : Below V0.heap.size V0 (V0.alloc (.cells #[.int .i64 1, .int .i64 1] 67)) := ba (Below.refl _ _) _
  have hRl := rb_lt hR
  go_wp2_with fail
  obtain ⟨S, hSe⟩ : ∃ S, S = V0.heap.size := ⟨_, rfl⟩
  have hRS : ¬ S = w.heap.size := by omega
  have hwS : w.heap.size ≤ S := by omega
  rw [← hSe] at hS ⊢
  replace hR := rb_below hR hB1
  replace hB := bt hB hB1
  clear hSe hRl
  go_loopw [6] (fun v V => ScRel w S g (ps m p) n v V) (fun v _ => n - (intOf v).toNat)
  case atStart => exact ⟨0, rfl, by omega, hS, hR, hB⟩
  case round =>
    clear hS hR hB hB1
    obtain ⟨k, rfl, hle, hS, hR, hB⟩ := hrel
    rename World => V
    rcases Nat.lt_or_ge k n with hk | hk
    · obtain ⟨b, o, rfl, x0, x1, x2⟩ := ta_below HA.out hB k hk
      have hy := ps_in m p k
      have hvr := VA.out k hk
      have hL := Lib.hid (fun i w => rlimited_any (p i) w)
      have VL := Lib.hid (fun w => rvalue_any (g k) (ps m p k) hvr hy w)
      have hvl := vl_in (v := ps m p k) hvr
      have hzb := sc_bd g (ps m p) k
      have ML := Lib.hid (fun w => mul_ref (scS g (ps m p) k).1 (scS g (ps m p) k).2 (vlN (g k) (ps m p k)) (vlD (g k) (ps m p k)) hzb.1 hzb.2 (by omega) (by omega) w)
      unfold Ex.ratV at ML
      unfold ratV tnV at VL
      have hN : Hid (∀ V', RB V' S (MuN (scS g (ps m p) k).1 (scS g (ps m p) k).2 (vlN (g k) (ps m p k)) (vlD (g k) (ps m p k)), MuD (scS g (ps m p) k).1 (scS g (ps m p) k).2 (vlN (g k) (ps m p k)) (vlD (g k) (ps m p k))) → RB V' w.heap.size (0, 0) → Below w.heap.size w V' → ScRel w S g (ps m p) n (.int .i64 ((k : Int) + 1)) V') := Lib.hid (fun V' h1 h2 h3 => ⟨k + 1, rfl, by omega, h1, h2, h3⟩)
      have k2 : (0 : Int) ≤ (k : Int) := by omega
      have k3 : (k : Int) < (n : Int) := by omega
      generalize MuN (scS g (ps m p) k).1 (scS g (ps m p) k).2 (vlN (g k) (ps m p k)) (vlD (g k) (ps m p k)) = r1 at *
      generalize MuD (scS g (ps m p) k).1 (scS g (ps m p) k).2 (vlN (g k) (ps m p k)) (vlD (g k) (ps m p k)) = r2 at *
      generalize MuB (scS g (ps m p) k).1 (scS g (ps m p) k).2 (vlN (g k) (ps m p k)) (vlD (g k) (ps m p k)) = rb at *
      generalize scS g (ps m p) k = z at *
      generalize vlN (g k) (ps m p k) = vn at *
      generalize vlD (g k) (ps m p k) = vd at *
      clear hvl hzb hvr hy VA
      obtain ⟨s0, s1, s2, s3⟩ := hS
      obtain ⟨d0, d1, e0, e1⟩ := hR
      simp only at d0 d1
      by_cases hkm : k < m
      · have hp1 : ps m p k = lim (p k) (-64) 64 := if_pos hkm
        obtain ⟨pb, po, rfl, hpc⟩ := la_below HP.out hB k hkm
        have k4 : (k : Int) < (m : Int) := by omega
        have LL := Lib.hid (fun w => hL.out k w)
        rw [hp1] at VL
        clear hL hp1
        generalize lim (p k) (-64) 64 = y at *
        generalize p k = pk at *
        generalize g k = x at *
        go_wp2_with fail
        refine (LL.out _).mono ?_
        rintro e V1 ⟨rfl, hba⟩
        replace e0 := kf hba (block_lt_of_cell d0) e0
        replace e1 := kf hba (block_lt_of_cell d1) e1
        replace d0 := kc hba (block_lt_of_cell d0) d0
        replace d1 := kc hba (block_lt_of_cell d1) d1
        replace s2 := kf hba (block_lt_of_cell s0) s2
        replace s3 := kf hba (block_lt_of_cell s1) s3
        replace s0 := kc hba (block_lt_of_cell s0) s0
        replace s1 := kc hba (block_lt_of_cell s1) s1
        replace x0 := kc hba (block_lt_of_cell x0) x0
        replace x1 := kc hba (block_lt_of_cell x1) x1
        replace x2 := kc hba (block_lt_of_cell x2) x2
        replace hB := bt hB hba
        clear hba hpc LL
        go_upto_region 10 with (fail)
        go_region_with (first
          | ((with_reducible refine (VL.out _).mono ?_); rintro en wa ⟨rfl, hba⟩; replace s2 := kf hba (block_lt_of_cell s0) s2; replace s3 := kf hba (block_lt_of_cell s0) s3; replace s1 := kc hba (block_lt_of_cell s1) s1; replace s0 := kc hba (block_lt_of_cell s0) s0; replace e0 := kf hba (block_lt_of_cell d0) e0; replace e1 := kf hba (block_lt_of_cell d1) e1; replace d0 := kc hba (block_lt_of_cell d0) d0; replace d1 := kc hba (block_lt_of_cell d1) d1; (first | replace hB := bt hB hba | replace hB := bt (bd1 hB) hba))
          | ((with_reducible refine (ML.out _).mono ?_); rintro en wa ⟨rfl, hba⟩; replace s2 := kf hba (block_lt_of_cell s0) s2; replace s3 := kf hba (block_lt_of_cell s0) s3; replace s1 := kc hba (block_lt_of_cell s1) s1; replace s0 := kc hba (block_lt_of_cell s0) s0; replace e0 := kf hba (block_lt_of_cell d0) e0; replace e1 := kf hba (block_lt_of_cell d1) e1; replace d0 := kc hba (block_lt_of_cell d0) d0; replace d1 := kc hba (block_lt_of_cell d1) d1; (first | replace hB := bt hB hba | replace hB := bt (bd1 hB) hba)))
        all_goals
          have R := Lib.hid (hN.out _ (rb_put (y := (r1, r2)) ⟨s0, s1, s2, s3⟩) (rb_other (rb_other ⟨d0, d1, e0, e1⟩ hRS) hRS) (bs (bs hB hwS _) hwS _))
          clear hN
          go_wp2_with fail
          exact ⟨R.out, by simp [intOf]; omega⟩
      · have hp1 : ps m p k = 0 := if_neg hkm
        have k4 : decide ((k : Int) < (m : Int)) = false := decide_eq_false (by omega)
        rw [hp1] at VL
        clear hL hp1
        generalize g k = x at *
        go_upto_region 10 with (fail)
        go_region_with (first
          | ((with_reducible refine (VL.out _).mono ?_); rintro en wa ⟨rfl, hba⟩; replace s2 := kf hba (block_lt_of_cell s0) s2; replace s3 := kf hba (block_lt_of_cell s0) s3; replace s1 := kc hba (block_lt_of_cell s1) s1; replace s0 := kc hba (block_lt_of_cell s0) s0; replace e0 := kf hba (block_lt_of_cell d0) e0; replace e1 := kf hba (block_lt_of_cell d1) e1; replace d0 := kc hba (block_lt_of_cell d0) d0; replace d1 := kc hba (block_lt_of_cell d1) d1; (first | replace hB := bt hB hba | replace hB := bt (bd1 hB) hba))
          | ((with_reducible refine (ML.out _).mono ?_); rintro en wa ⟨rfl, hba⟩; replace s2 := kf hba (block_lt_of_cell s0) s2; replace s3 := kf hba (block_lt_of_cell s0) s3; replace s1 := kc hba (block_lt_of_cell s1) s1; replace s0 := kc hba (block_lt_of_cell s0) s0; replace e0 := kf hba (block_lt_of_cell d0) e0; replace e1 := kf hba (block_lt_of_cell d1) e1; replace d0 := kc hba (block_lt_of_cell d0) d0; replace d1 := kc hba (block_lt_of_cell d1) d1; (first | replace hB := bt hB hba | replace hB := bt (bd1 hB) hba)))
        all_goals
          have R := Lib.hid (hN.out _ (rb_put (y := (r1, r2)) ⟨s0, s1, s2, s3⟩) (rb_other (rb_other ⟨d0, d1, e0, e1⟩ hRS) hRS) (bs (bs hB hwS _) hwS _))
          clear hN
          go_wp2_with fail
          exact ⟨R.out, by simp [intOf]; omega⟩
    · obtain rfl : k = n := by omega
      obtain ⟨d0, d1, f0, f1⟩ := hR
      obtain ⟨s0, s1, _, _⟩ := hS
      simp only at d0 d1
      obtain ⟨z, hz⟩ : ∃ z, scS g (ps m p) k = z := ⟨_, rfl⟩
      rw [hz] at s0 s1
      have HZ := Lib.hid hz
      clear hz
      go_wp2
      refine bodyPost_ret (v := .agg #[.int .i64 z.1, .int .i64 z.2]) (by simp [results, Try.results32, go_sem, d0, d1]) rfl ⟨by rw [HZ.out], ?_⟩
      exact bs (bs hB (by simp) _) (by simp) _
theorem rScalar_any (a : Option Addr) (n c : Nat) (g : Nat → Tns) (pa : Option Addr) (m d : Nat) (p : Nat → Int) (hn : n ≤ 1000000) (w : World) (hA : TA w a n g) (hP : LA w pa m p) :
    Calls Try.prog 32 #[.slice a n c, .slice pa m d] w fun e w' => e = .returned (ratV (scal g n (ps m p)).1 (scal g n (ps m p)).2) ∧ Below w.heap.size w w' := by
  unfold scal
  rcases hv : vts g n with _ | _
  · rw [if_neg Bool.false_ne_true]
    exact rScalar_no a n c g pa m d hn w hA hv
  · rw [if_pos rfl]
    exact rScalar_yes a n c g pa m d p hn w hA hP hv
end Go.Proofs.Ytcogoomajfahkaa.Ax
