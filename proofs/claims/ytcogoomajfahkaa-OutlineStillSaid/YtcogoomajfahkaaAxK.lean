/-
  Layer 5 (axis): Scalar.
-/
import Derived.Test.YtcogoomajfahkaaAxJ
import Derived.Test.YtcogoomajfahkaaExTwo
namespace Go.Proofs.Ytcogoomajfahkaa.Ax
open Go.RowKit
open Go.Proofs.Ytcogoomajfahkaa.Ex (MuN MuD MuB okR fits redN redD mul_go)

/-- The product of the values of the first tents. -/
def scS (g : Nat → Tns) (q : Nat → Int) : Nat → Int × Int
  | 0 => (1, 1)
  | k + 1 => (MuN (scS g q k).1 (scS g q k).2 (vlN (g k) (q k)) (vlD (g k) (q k)), MuD (scS g q k).1 (scS g q k).2 (vlN (g k) (q k)) (vlD (g k) (q k)))
theorem mu_bd (n d m e : Int) : R64 (MuN n d m e) ∧ R64 (MuD n d m e) := by
  unfold MuN MuD R64
  by_cases h : MuB n d m e = true
  · rw [if_pos h, if_pos h]
    unfold MuB okR fits at h
    simp only [Bool.and_eq_true, decide_eq_true_eq] at h
    exact h.2.2
  · rw [if_neg h, if_neg h]
    omega
theorem mu_no {n d m e : Int} (h : MuB n d m e = false) : MuN n d m e = 0 ∧ MuD n d m e = 0 := by
  unfold MuN MuD
  rw [h]; exact ⟨rfl, rfl⟩
theorem mu_zero (m e : Int) : MuB 0 0 m e = false := by unfold MuB; rfl
theorem sc_bd (g : Nat → Tns) (q : Nat → Int) (k : Nat) : R64 (scS g q k).1 ∧ R64 (scS g q k).2 := by
  cases k with
  | zero => exact ⟨by unfold R64 scS; simp, by unfold R64 scS; simp⟩
  | succ k => exact mu_bd _ _ _ _
theorem sc_stay {g : Nat → Tns} {q : Nat → Int} {k : Nat} (h : MuB (scS g q k).1 (scS g q k).2 (vlN (g k) (q k)) (vlD (g k) (q k)) = false) : ∀ n, k < n → scS g q n = (0, 0)
  | 0, h0 => by omega
  | n + 1, h0 => by
    unfold scS
    rcases Nat.lt_or_ge k n with hlt | hge
    · rw [sc_stay h n hlt]
      obtain ⟨e1, e2⟩ := mu_no (mu_zero (vlN (g n) (q n)) (vlD (g n) (q n)))
      show (MuN 0 0 _ _, MuD 0 0 _ _) = _
      rw [e1, e2]
    · obtain rfl : k = n := by omega
      obtain ⟨e1, e2⟩ := mu_no h
      rw [e1, e2]
/-- The value of a region. -/
def scal (g : Nat → Tns) (n : Nat) (q : Nat → Int) : Int × Int := if vts g n = true then scS g q n else (0, 0)
/-- A ratio in a block of its own, which may be written. -/
def RB (w : World) (b : Nat) (x : Int × Int) : Prop :=
  w.cell? ⟨b, 0, none⟩ = some (.int .i64 x.1) ∧ w.cell? ⟨b, 1, none⟩ = some (.int .i64 x.2) ∧ w.frozen? ⟨b, 0, none⟩ = false ∧ w.frozen? ⟨b, 1, none⟩ = false
theorem rb_below {w W : World} {b : Nat} {x : Int × Int} (h : RB w b x) (hB : Below w.heap.size w W) : RB W b x :=
  ⟨kc hB (block_lt_of_cell h.1) h.1, kc hB (block_lt_of_cell h.1) h.2.1, kf hB (block_lt_of_cell h.1) h.2.2.1, kf hB (block_lt_of_cell h.1) h.2.2.2⟩
theorem rb_lt {w : World} {b : Nat} {x : Int × Int} (h : RB w b x) : b < w.heap.size := block_lt_of_cell h.1
theorem rb_new (V : World) (x : Int × Int) (T : TypeId) : RB (V.alloc (.cells #[.int .i64 x.1, .int .i64 x.2] T)) V.heap.size x := ⟨by go_cell, by go_cell, by go_cell, by go_cell⟩
theorem rb_put {w : World} {b : Nat} {x y : Int × Int} (h : RB w b x) : RB ((w.setCell ⟨b, 0, none⟩ (.int .i64 y.1)).setCell ⟨b, 1, none⟩ (.int .i64 y.2)) b y := by
  obtain ⟨h1, h2, h3, h4⟩ := h
  exact ⟨by go_cell, by go_cell, by go_cell, by go_cell⟩
theorem rb_other {w : World} {b c o : Nat} {v : Value} {x : Int × Int} (h : RB w b x) (hne : ¬ c = b) : RB (w.setCell ⟨c, o, none⟩ v) b x := by
  obtain ⟨h1, h2, h3, h4⟩ := h
  exact ⟨by go_cell, by go_cell, by go_cell, by go_cell⟩
set_option maxRecDepth 100000 in
set_option maxHeartbeats 1000000 in
theorem Scalar_no (a : Option Addr) (n c : Nat) (g : Nat → Tns) (pa : Option Addr) (m d : Nat) (hn : n ≤ 9223372036854775807) (w : World) (hA : TA w a n g) (hv : vts g n = false) :
    Calls Try.prog 67 #[.slice a n c, .slice pa m d] w fun e w' => e = .returned (ratV 0 0) ∧ Below w.heap.size w w' := by
  have F : Hid (∀ V, Below w.heap.size w V → Calls Try.prog 66 #[.slice a n c, .int .i64 n] V fun e w' => e = .returned (.bool false) ∧ Below V.heap.size V w') := Lib.hid (fun V h => by
    have := Fits_any a n c g n hn V (ta_below hA h)
    unfold fit at this
    rw [hv, Bool.and_false] at this
    exact this)
  unfold ratV
  go_enter Try.func67, Try.ntmps67
  go_wp2_with fail
  have hB := ba (Below.refl _ w) (.cells #[.int .i64 0, .int .i64 0] 67)
  refine (F.out _ hB).mono ?_
  rintro e V0 ⟨rfl, hB1⟩
  have hR := rb_below (rb_new w (0, 0) 67) hB1
  replace hB := bt hB hB1
  clear hB1
  obtain ⟨d0, d1, f0, f1⟩ := hR
  simp only at d0 d1
  go_wp2
  refine bodyPost_ret (v := .agg #[.int .i64 0, .int .i64 0]) (by simp [results, Try.results67, go_sem, d0, d1]) rfl ⟨rfl, ?_⟩
  exact bs (bs hB (by simp) _) (by simp) _
def ScRel (w : World) (S : Nat) (g : Nat → Tns) (q : Nat → Int) (n : Nat) (v : Value) (V : World) : Prop := ∃ k : Nat, v = .int .i64 k ∧ k ≤ n ∧ RB V S (scS g q k) ∧ RB V w.heap.size (0, 0) ∧ Below w.heap.size w V
set_option maxRecDepth 100000 in
set_option maxHeartbeats 4000000 in
theorem Scalar_yes (a : Option Addr) (n c : Nat) (g : Nat → Tns) (pa : Option Addr) (m d : Nat) (p : Nat → Int) (hn : n ≤ 9223372036854775807) (w : World) (hA : TA w a n g) (hP : LA w pa m p) (hv : vts g n = true) :
    Calls Try.prog 67 #[.slice a n c, .slice pa m d] w fun e w' => e = .returned (ratV (scS g (ps m p) n).1 (scS g (ps m p) n).2) ∧ Below w.heap.size w w' := by
  have F : Hid (∀ V, Below w.heap.size w V → Calls Try.prog 66 #[.slice a n c, .int .i64 n] V fun e w' => e = .returned (.bool true) ∧ Below V.heap.size V w') := Lib.hid (fun V h => by
    have := Fits_any a n c g n hn V (ta_below hA h)
    unfold fit at this
    rw [hv, decide_eq_true rfl] at this
    exact this)
  have PO := Lib.hid (fun i V h => position_any pa m d p i V h)
  have hQ := Lib.hid (fun i => ps_in m p i)
  have VA := Lib.hid (fun k hk => vt_rg (vts_all hv k hk))
  have HA := Lib.hid hA
  have HP := Lib.hid hP
  clear hA hP hv
  generalize ps m p = q at *
  unfold ratV
  go_enter Try.func67, Try.ntmps67
  go_wp2_with fail
  have hB := ba (Below.refl _ w) (.cells #[.int .i64 0, .int .i64 0] 67)
  refine (F.out _ hB).mono ?_
  rintro e V0 ⟨rfl, hB1⟩
  have hR := rb_below (rb_new w (0, 0) 67) hB1
  replace hB := bt hB hB1
  clear hB1
  have hS := rb_new V0 (1, 1) 67
  have hB1 : Below V0.heap.size V0 (V0.alloc (.cells #[.int .i64 1, .int .i64 1] 67)) := ba (Below.refl _ _) _
  have hRl := rb_lt hR
  go_wp2_with fail
  obtain ⟨S, hSe⟩ : ∃ S, S = V0.heap.size := ⟨_, rfl⟩
  have hRS : ¬ S = w.heap.size := by omega
  have hwS : w.heap.size ≤ S := by omega
  rw [← hSe] at hS ⊢
  replace hR := rb_below hR hB1
  replace hB := bt hB hB1
  clear hSe hRl
  go_loopw [18] (fun v V => ScRel w S g q n v V) (fun v _ => n - (intOf v).toNat)
  case atStart => exact ⟨0, rfl, by omega, hS, hR, hB⟩
  case round =>
    clear hS hR hB hB1
    obtain ⟨k, rfl, hle, hS, hR, hB⟩ := hrel
    rename World => V
    rcases Nat.lt_or_ge k n with hk | hk
    · obtain ⟨b, o, rfl, x0, x1, x2⟩ := ta_below HA.out hB k hk
      have hy := hQ.out k
      have hvr := VA.out k hk
      have VL := Lib.hid (fun w => value_any (g k) (q k) hvr hy w)
      have hvl := vl_in (v := q k) hvr
      have hzb := sc_bd g q k
      have ML := Lib.hid (fun w => mul_go (scS g q k).1 (scS g q k).2 (vlN (g k) (q k)) (vlD (g k) (q k)) hzb.1 hzb.2 (by omega) (by omega) w)
      unfold Ex.ratV at ML
      unfold ratV tnV at VL
      have hNo : Hid (MuB (scS g q k).1 (scS g q k).2 (vlN (g k) (q k)) (vlD (g k) (q k)) = false → scS g q n = (0, 0)) := Lib.hid (fun h => sc_stay h n hk)
      have hN : Hid (∀ V', RB V' S (MuN (scS g q k).1 (scS g q k).2 (vlN (g k) (q k)) (vlD (g k) (q k)), MuD (scS g q k).1 (scS g q k).2 (vlN (g k) (q k)) (vlD (g k) (q k))) → RB V' w.heap.size (0, 0) → Below w.heap.size w V' → ScRel w S g q n (.int .i64 ((k : Int) + 1)) V') := Lib.hid (fun V' h1 h2 h3 => ⟨k + 1, rfl, by omega, h1, h2, h3⟩)
      have P0 := Lib.hid (fun V h => PO.out k V h)
      have k2 : (0 : Int) ≤ (k : Int) := by omega
      have k3 : (k : Int) < (n : Int) := by omega
      generalize MuN (scS g q k).1 (scS g q k).2 (vlN (g k) (q k)) (vlD (g k) (q k)) = r1 at *
      generalize MuD (scS g q k).1 (scS g q k).2 (vlN (g k) (q k)) (vlD (g k) (q k)) = r2 at *
      generalize MuB (scS g q k).1 (scS g q k).2 (vlN (g k) (q k)) (vlD (g k) (q k)) = rb at *
      generalize scS g q k = z at *
      generalize vlN (g k) (q k) = vn at *
      generalize vlD (g k) (q k) = vd at *
      generalize q k = y at *
      generalize g k = x at *
      clear hvl hzb hvr hy PO hQ VA
      go_upto_region 7 with (fail)
      have hX := bxt_new V x 70
      have hB1 : Below V.heap.size V (V.alloc (.cells #[.int .i64 x.l, .int .i64 x.p, .int .i64 x.h] 70)) := ba (Below.refl _ _) _
      have hSB : V.heap.size ≠ S := by have := rb_lt hS; omega
      replace hS := rb_below hS hB1
      replace hR := rb_below hR hB1
      replace hB := bt hB hB1
      clear x0 x1 x2 hB1
      obtain ⟨B, hBs⟩ : ∃ B, B = V.heap.size := ⟨_, rfl⟩
      rw [← hBs] at hX hSB ⊢
      generalize V.alloc (.cells #[.int .i64 x.l, .int .i64 x.p, .int .i64 x.h] 70) = V1 at *
      clear hBs
      have P1 : Hid (∀ V', Below w.heap.size w V' → _) := Lib.hid (fun V' h => P0.out V' (la_below HP.out h))
      obtain ⟨d0, d1, e0, e1⟩ := id hR
      simp only at d0 d1
      obtain ⟨s0, s1, s2, s3⟩ := id hS
      obtain ⟨x0, x1, x2⟩ := id hX
      clear hX P0 hR hSB
      have Q1 := Lib.hid (P1.out V1.drew (bd1 hB))
      go_region_with (first
        | ((with_reducible refine Q1.out.mono ?_); rintro en wa ⟨rfl, hba⟩; replace s2 := kf hba (block_lt_of_cell s0) s2; replace s3 := kf hba (block_lt_of_cell s0) s3; replace s1 := kc hba (block_lt_of_cell s1) s1; replace s0 := kc hba (block_lt_of_cell s0) s0; replace x0 := kc hba (block_lt_of_cell x0) x0; replace x1 := kc hba (block_lt_of_cell x1) x1; replace x2 := kc hba (block_lt_of_cell x2) x2; replace e0 := kf hba (block_lt_of_cell d0) e0; replace e1 := kf hba (block_lt_of_cell d1) e1; replace d0 := kc hba (block_lt_of_cell d0) d0; replace d1 := kc hba (block_lt_of_cell d1) d1; (first | replace hB := bt hB hba | replace hB := bt (bd1 hB) hba))
        | ((with_reducible refine (VL.out _).mono ?_); rintro en wa ⟨rfl, hba⟩; replace s2 := kf hba (block_lt_of_cell s0) s2; replace s3 := kf hba (block_lt_of_cell s0) s3; replace s1 := kc hba (block_lt_of_cell s1) s1; replace s0 := kc hba (block_lt_of_cell s0) s0; replace x0 := kc hba (block_lt_of_cell x0) x0; replace x1 := kc hba (block_lt_of_cell x1) x1; replace x2 := kc hba (block_lt_of_cell x2) x2; replace e0 := kf hba (block_lt_of_cell d0) e0; replace e1 := kf hba (block_lt_of_cell d1) e1; replace d0 := kc hba (block_lt_of_cell d0) d0; replace d1 := kc hba (block_lt_of_cell d1) d1; (first | replace hB := bt hB hba | replace hB := bt (bd1 hB) hba))
        | ((with_reducible refine (ML.out _).mono ?_); rintro en wa ⟨rfl, hba⟩; replace s2 := kf hba (block_lt_of_cell s0) s2; replace s3 := kf hba (block_lt_of_cell s0) s3; replace s1 := kc hba (block_lt_of_cell s1) s1; replace s0 := kc hba (block_lt_of_cell s0) s0; replace x0 := kc hba (block_lt_of_cell x0) x0; replace x1 := kc hba (block_lt_of_cell x1) x1; replace x2 := kc hba (block_lt_of_cell x2) x2; replace e0 := kf hba (block_lt_of_cell d0) e0; replace e1 := kf hba (block_lt_of_cell d1) e1; replace d0 := kc hba (block_lt_of_cell d0) d0; replace d1 := kc hba (block_lt_of_cell d1) d1; (first | replace hB := bt hB hba | replace hB := bt (bd1 hB) hba)))
      all_goals
        rcases rb with _ | _
        · have hz := Lib.hid (hNo.out rfl)
          clear hN hNo
          go_wp2
          refine bodyPost_ret (v := .agg #[.int .i64 0, .int .i64 0]) (by simp [results, Try.results67, go_sem, d0, d1]) rfl ⟨by rw [hz.out], ?_⟩
          exact bs (bs (bs (bs hB hwS _) hwS _) (by simp) _) (by simp) _
        · have R := Lib.hid (hN.out _ (rb_put (y := (r1, r2)) ⟨s0, s1, s2, s3⟩) (rb_other (rb_other ⟨d0, d1, e0, e1⟩ hRS) hRS) (bs (bs hB hwS _) hwS _))
          clear hN hNo
          go_wp2_with fail
          exact ⟨R.out, by simp [intOf]; omega⟩
    · obtain rfl : k = n := by omega
      obtain ⟨d0, d1, f0, f1⟩ := hR
      obtain ⟨s0, s1, _, _⟩ := hS
      simp only at d0 d1
      obtain ⟨z, hz⟩ : ∃ z, scS g q k = z := ⟨_, rfl⟩
      rw [hz] at s0 s1
      have HZ := Lib.hid hz
      clear hz
      go_wp2
      refine bodyPost_ret (v := .agg #[.int .i64 z.1, .int .i64 z.2]) (by simp [results, Try.results67, go_sem, d0, d1]) rfl ⟨by rw [HZ.out], ?_⟩
      exact bs (bs hB (by simp) _) (by simp) _
end Go.Proofs.Ytcogoomajfahkaa.Ax
