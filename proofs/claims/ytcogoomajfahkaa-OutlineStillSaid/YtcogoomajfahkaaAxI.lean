/-
  Layer 5 (axis): Fits, positions, values of tents.
-/
import Derived.Test.YtcogoomajfahkaaAxH
namespace Go.Proofs.Ytcogoomajfahkaa.Ax
open Go.RowKit

/-- Whether the first tents are valid. -/
def vts (g : Nat → Tns) : Nat → Bool
  | 0 => true
  | k + 1 => vts g k && vt (g k)
theorem vts_no {g : Nat → Tns} {i : Nat} (h : vt (g i) = false) : ∀ k, i < k → vts g k = false
  | 0, h0 => by omega
  | k + 1, h0 => by
    unfold vts
    rcases Nat.lt_or_ge i k with hlt | hge
    · rw [vts_no h k hlt]; rfl
    · obtain rfl : i = k := by omega
      rw [h, Bool.and_false]
theorem vts_all {g : Nat → Tns} : ∀ {n : Nat}, vts g n = true → ∀ k, k < n → vt (g k) = true
  | 0, _, k, hk => by omega
  | n + 1, h, k, hk => by
    unfold vts at h
    rw [Bool.and_eq_true] at h
    rcases Nat.lt_or_ge k n with hlt | hge
    · exact vts_all h.1 k hlt
    · obtain rfl : k = n := by omega
      exact h.2
/-- Whether a region fits. -/
def fit (g : Nat → Tns) (n : Nat) (m : Int) : Bool := decide ((n : Int) = m) && vts g n
def FtRel (w : World) (g : Nat → Tns) (n : Nat) (v : Value) (V : World) : Prop := ∃ k : Nat, v = .int .i64 k ∧ k ≤ n ∧ vts g k = true ∧ Below w.heap.size w V
set_option maxRecDepth 100000 in
set_option maxHeartbeats 1000000 in
theorem Fits_any (a : Option Addr) (n c : Nat) (g : Nat → Tns) (m : Int) (hn : n ≤ 9223372036854775807) (w : World) (hA : TA w a n g) :
    Calls Try.prog 66 #[.slice a n c, .int .i64 m] w fun e w' => e = .returned (.bool (fit g n m)) ∧ Below w.heap.size w w' := by
  unfold fit
  by_cases hm : (n : Int) = m
  · rw [decide_eq_true hm, Bool.true_and]
    subst hm
    have HA := Lib.hid hA
    clear hA
    go_enter Try.func66, Try.ntmps66
    go_wp2_with fail
    go_loopw [13] (fun v V => FtRel w g n v V) (fun v _ => n - (intOf v).toNat)
    case atStart => exact ⟨0, rfl, by omega, rfl, Below.refl _ _⟩
    case round =>
      obtain ⟨k, rfl, hle, hz, hB⟩ := hrel
      rename World => V
      rcases Nat.lt_or_ge k n with hk | hk
      · obtain ⟨b, o, rfl, x0, x1, x2⟩ := ta_below HA.out hB k hk
        have C := Lib.hid (fun w => isValid_any (g k) w)
        have hN : Hid (vt (g k) = true → ∀ V', Below V.heap.size V V' → FtRel w g n (.int .i64 ((k : Int) + 1)) V') := Lib.hid (fun h V' h2 => ⟨k + 1, rfl, by omega, by rw [vts, hz, h]; rfl, bt hB h2⟩)
        have hY : Hid (vt (g k) = false → vts g n = false) := Lib.hid (fun h => vts_no h n hk)
        have k2 : (0 : Int) ≤ (k : Int) := by omega
        have k3 : (k : Int) < (n : Int) := by omega
        unfold tnV at C
        clear hz
        rcases hv : vt (g k) with _ | _
        · have hR := Lib.hid (hY.out hv)
          rw [hv] at C
          clear hN hY hv
          generalize g k = x at *
          go_wp2_with fail
          refine (C.out _).mono ?_
          rintro e V1 ⟨rfl, hB1⟩
          go_wp2
          go_ret
          exact ⟨by rw [hR.out]; rfl, bt hB (bt (ba (Below.refl _ _) _) hB1)⟩
        · have hR := Lib.hid (hN.out hv)
          rw [hv] at C
          clear hN hY hv
          generalize g k = x at *
          go_wp2_with fail
          refine (C.out _).mono ?_
          rintro e V1 ⟨rfl, hB1⟩
          have R := Lib.hid (hR.out _ (bt (ba (Below.refl _ _) _) hB1))
          go_wp2_with fail
          exact ⟨R.out, by simp [intOf]; omega⟩
      · obtain rfl : k = n := by omega
        have hL := Lib.hid hz
        clear hz
        go_wp2
        go_ret
        exact ⟨by rw [hL.out]; rfl, hB⟩
  · rw [decide_eq_false hm, Bool.false_and]
    have q : ((n : Int) == m) = false := beq_eq_false_iff_ne.2 hm
    go_enter Try.func66, Try.ntmps66
    go_wp2
    go_ret
    exact ⟨rfl, Below.refl _ _⟩
/-- The normalized position of a number. -/
def ps (m : Nat) (p : Nat → Int) (i : Nat) : Int := if i < m then lim (p i) (-64) 64 else 0
theorem ps_in (m : Nat) (p : Nat → Int) (i : Nat) : -64 ≤ ps m p i ∧ ps m p i ≤ 64 := by
  unfold ps
  split
  · exact lim_in (by omega)
  · omega
theorem position_any (pa : Option Addr) (m d : Nat) (p : Nat → Int) (i : Nat) (w : World) (hP : LA w pa m p) :
    Calls Try.prog 82 #[.slice pa m d, .int .i64 (i : Int)] w fun e w' => e = .returned (.int .i64 (ps m p i)) ∧ Below w.heap.size w w' := by
  unfold ps
  by_cases hi : i < m
  · rw [if_pos hi]
    obtain ⟨b, o, rfl, hc⟩ := hP i hi
    have L := Lib.hid (fun w => limNormal_any (p i) w)
    have q : decide ((m : Int) ≤ (i : Int)) = false := decide_eq_false (by omega)
    have k2 : (0 : Int) ≤ (i : Int) := by omega
    have k3 : (i : Int) < (m : Int) := by omega
    clear hP
    generalize p i = y at *
    go_enter Try.func82, Try.ntmps82
    go_wp2_with fail
    refine (L.out _).mono ?_
    rintro e V1 ⟨rfl, hB1⟩
    go_wp2
    go_ret
    exact ⟨rfl, hB1⟩
  · rw [if_neg hi]
    have q : decide ((m : Int) ≤ (i : Int)) = true := decide_eq_true (by omega)
    go_enter Try.func82, Try.ntmps82
    go_wp2
    go_ret
    exact ⟨rfl, Below.refl _ _⟩
def ratV (n d : Int) : Value := .agg #[.int .i64 n, .int .i64 d]
/-- The value of a tent. -/
def vlN (x : Tns) (v : Int) : Int := if x.p = 0 ∨ v = x.p then 1 else if v ≤ x.l ∨ x.h ≤ v then 0 else if v < x.p then v - x.l else x.h - v
def vlD (x : Tns) (v : Int) : Int := if x.p = 0 ∨ v = x.p then 1 else if v ≤ x.l ∨ x.h ≤ v then 1 else if v < x.p then x.p - x.l else x.h - x.p
def vtR (x : Tns) : Prop := -64 ≤ x.l ∧ x.l ≤ x.p ∧ x.p ≤ x.h ∧ x.h ≤ 64
theorem vt_rg {x : Tns} (h : vt x = true) : vtR x := by
  unfold vt at h
  rw [Bool.and_eq_true] at h
  exact (tOrd_iff x).1 h.1
theorem vl_in {x : Tns} {v : Int} (hx : vtR x) : 0 ≤ vlN x v ∧ vlN x v ≤ vlD x v ∧ 1 ≤ vlD x v ∧ vlD x v ≤ 128 := by
  unfold vtR at hx
  unfold vlN vlD
  (repeat' split) <;> omega
set_option maxRecDepth 100000 in
set_option maxHeartbeats 1000000 in
theorem value_core (x : Tns) (v s f wh r0 r1 : Int) (hz : (x.p == 0) = false) (hs : (s == 0) = false)
    (CM : Hid (∀ w, Calls Try.prog 91 #[.int .i64 v, .int .i64 x.p] w fun e w' => e = .returned (.int .i64 s) ∧ Below w.heap.size w w'))
    (SD : Hid (∀ H L M (w : World), w.cell? ⟨H, 0, none⟩ = some (.int .i64 x.h) → w.cell? ⟨L, 0, none⟩ = some (.int .i64 x.l) → w.cell? ⟨M, 0, none⟩ = some (.int .i64 x.p) →
      Calls Try.prog 99 #[.int .i64 s, .int .i64 v, .pointer (some ⟨H, 0, none⟩), .pointer (some ⟨L, 0, none⟩), .pointer (some ⟨M, 0, none⟩)] w fun e w' => e = .returned (.tuple #[.int .i64 f, .int .i64 wh]) ∧ Below w.heap.size w w'))
    (q : (decide (wh ≤ f) = true ∧ r0 = 0 ∧ r1 = 1) ∨ (decide (wh ≤ f) = false ∧ wrap64 (wh - f) = r0 ∧ r1 = wh)) (w : World) :
    Calls Try.prog 81 #[tnV x, .int .i64 v] w fun e w' => e = .returned (ratV r0 r1) ∧ Below w.heap.size w w' := by
  have SS := Lib.hid (fun w => sides_any x.l x.p x.h w)
  unfold tnV ratV
  unfold sdV at SS
  rcases q with ⟨q1, rfl, rfl⟩ | ⟨q1, q2, q3⟩ <;> try subst q3
  all_goals
    go_enter Try.func81, Try.ntmps81
    go_wp2_with fail
    refine (CM.out _).mono ?_
    rintro e V0 ⟨rfl, hB⟩
    have hX : BxT V0 w.heap.size x := bxt_below (bxt_below (bxt_new w x _) (ba (Below.refl _ _) _)) hB
    have d0 := kc hB (b := w.heap.size + 1) (o := 0) (v := .int .i64 0) (by simp) (by go_cell)
    have d1 := kc hB (b := w.heap.size + 1) (o := 1) (v := .int .i64 0) (by simp) (by go_cell)
    have fr0 := kf hB (b := w.heap.size + 1) (o := 0) (v := false) (by simp) (by go_cell)
    have fr1 := kf hB (b := w.heap.size + 1) (o := 1) (v := false) (by simp) (by go_cell)
    have hB0 : Below w.heap.size w V0 := bt (ba (ba (Below.refl _ _) _) _) hB
    clear hB
    obtain ⟨x0, x1, x2⟩ := id hX
    go_wp2_with fail
    refine (SS.out _).mono ?_
    rintro e V2 ⟨H, L, M, rfl, c1, c2, c3, hB2⟩
    replace hB0 := bt hB0 hB2
    replace fr0 := kf hB2 (block_lt_of_cell d0) fr0
    replace fr1 := kf hB2 (block_lt_of_cell d1) fr1
    replace d0 := kc hB2 (block_lt_of_cell d0) d0
    replace d1 := kc hB2 (block_lt_of_cell d1) d1
    clear x0 x1 x2 hX
    go_wp2_with fail
    refine (SD.out _ _ _ _ c1 c2 c3).mono ?_
    rintro e V3 ⟨rfl, hB3⟩
    replace hB0 := bt hB0 hB3
    replace fr0 := kf hB3 (block_lt_of_cell d0) fr0
    replace fr1 := kf hB3 (block_lt_of_cell d1) fr1
    replace d0 := kc hB3 (block_lt_of_cell d0) d0
    replace d1 := kc hB3 (block_lt_of_cell d1) d1
    clear c1 c2 c3
    go_wp2
    first
      | (refine bodyPost_ret (v := .agg #[.int .i64 0, .int .i64 1]) (by simp [results, Try.results81, go_sem, d0, d1]) rfl ⟨rfl, bs (bs hB0 (by simp) _) (by simp) _⟩)
      | (refine bodyPost_ret (v := .agg #[.int .i64 r0, .int .i64 _]) (by simp [results, Try.results81, go_sem, d0, d1, q2]) rfl ⟨rfl, bs (bs hB0 (by simp) _) (by simp) _⟩)
end Go.Proofs.Ytcogoomajfahkaa.Ax
