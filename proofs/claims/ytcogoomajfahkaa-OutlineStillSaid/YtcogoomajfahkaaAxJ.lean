/-
  Layer 5 (axis): the value of a tent, the document's own Fits.
-/
import Derived.Test.YtcogoomajfahkaaAxI
namespace Go.Proofs.Ytcogoomajfahkaa.Ax
open Go.RowKit

set_option maxRecDepth 100000 in
set_option maxHeartbeats 1000000 in
theorem value_one (x : Tns) (v s : Int) (hz : (x.p == 0) = true ∨ ((x.p == 0) = false ∧ s = 0))
    (CM : Hid (∀ w, Calls Try.prog 91 #[.int .i64 v, .int .i64 x.p] w fun e w' => e = .returned (.int .i64 s) ∧ Below w.heap.size w w')) (w : World) :
    Calls Try.prog 81 #[tnV x, .int .i64 v] w fun e w' => e = .returned (ratV 1 1) ∧ Below w.heap.size w w' := by
  unfold tnV ratV
  rcases hz with hz | ⟨hz, rfl⟩
  all_goals
    go_enter Try.func81, Try.ntmps81
    go_wp2_with fail
    refine (CM.out _).mono ?_
    rintro e V0 ⟨rfl, hB⟩
    have hX : BxT V0 w.heap.size x := bxt_below (bxt_below (bxt_new w x _) (ba (Below.refl _ _) _)) hB
    have d0 := kc hB (b := w.heap.size + 1) (o := 0) (v := .int .i64 0) (by simp) (by go_cell)
    have d1 := kc hB (b := w.heap.size + 1) (o := 1) (v := .int .i64 0) (by simp) (by go_cell)
    have fr0 := kf hB (b := w.heap.size + 1) (o := 0) (v := false) (by simp) (by go_cell)
    have fr1 := kf hB (b := w.heap.size + 1) (o := 1) (v := false) (by simp) (by go_cell)
    have hB0 : Below w.heap.size w V0 := bt (ba (ba (Below.refl _ _) _) _) hB
    clear hB
    obtain ⟨x0, x1, x2⟩ := id hX
    go_wp2
    refine bodyPost_ret (v := .agg #[.int .i64 1, .int .i64 1]) (by simp [results, Try.results81, go_sem, d0, d1]) rfl ⟨rfl, bs (bs hB0 (by simp) _) (by simp) _⟩
theorem beq_no {a b : Int} (h : ¬ a = b) : (a == b) = false := beq_eq_false_iff_ne.2 h
theorem value_any (x : Tns) (v : Int) (hx : vtR x) (hv : -64 ≤ v ∧ v ≤ 64) (w : World) :
    Calls Try.prog 81 #[tnV x, .int .i64 v] w fun e w' => e = .returned (ratV (vlN x v) (vlD x v)) ∧ Below w.heap.size w w' := by
  obtain ⟨h1, h2, h3, h4⟩ := hx
  have CM := Lib.hid (fun w => compare_any v x.p w)
  unfold vlN vlD
  by_cases hz : x.p = 0
  · rw [if_pos (Or.inl hz), if_pos (Or.inl hz)]
    exact value_one x v _ (Or.inl (by rw [hz]; rfl)) CM w
  · by_cases he : v = x.p
    · rw [if_pos (Or.inr he), if_pos (Or.inr he)]
      exact value_one x v _ (Or.inr ⟨beq_no hz, by unfold cmpI; rw [if_neg (by omega), if_neg (by omega)]⟩) CM w
    · rw [if_neg (show ¬ (x.p = 0 ∨ v = x.p) by omega), if_neg (show ¬ (x.p = 0 ∨ v = x.p) by omega)]
      by_cases hlt : v < x.p
      · rw [show cmpI v x.p = -1 from if_pos hlt] at CM
        refine value_core x v (-1) (x.p - v) (x.p - x.l) _ _ (beq_no hz) rfl CM (Lib.hid (fun H L M w k1 k2 k3 => ?_)) ?_ w
        · have := sides1_any (-1) v x.l x.p x.h H L M w k1 k2 k3
          rw [if_pos (by omega), w64 (x := v - x.p) (by omega), w64 (x := x.l - x.p) (by omega), w64 (by omega), w64 (by omega), show -1 * (v - x.p) = x.p - v by omega, show -1 * (x.l - x.p) = x.p - x.l by omega] at this
          exact this
        · by_cases hl : v ≤ x.l
          · rw [if_pos (Or.inl hl), if_pos (Or.inl hl)]
            exact Or.inl ⟨decide_eq_true (by omega), rfl, rfl⟩
          · rw [if_neg (show ¬ (v ≤ x.l ∨ x.h ≤ v) by omega), if_neg (show ¬ (v ≤ x.l ∨ x.h ≤ v) by omega), if_pos hlt, if_pos hlt]
            exact Or.inr ⟨decide_eq_false (by omega), by rw [w64 (by omega)]; omega, rfl⟩
      · rw [show cmpI v x.p = 1 by unfold cmpI; rw [if_neg hlt, if_pos (by omega)]] at CM
        refine value_core x v 1 (v - x.p) (x.h - x.p) _ _ (beq_no hz) rfl CM (Lib.hid (fun H L M w k1 k2 k3 => ?_)) ?_ w
        · have := sides1_any 1 v x.l x.p x.h H L M w k1 k2 k3
          rw [if_neg (by omega), w64 (x := v - x.p) (by omega), w64 (x := x.h - x.p) (by omega), Int.one_mul, Int.one_mul, w64 (by omega), w64 (by omega)] at this
          exact this
        · by_cases hl : x.h ≤ v
          · rw [if_pos (Or.inr hl), if_pos (Or.inr hl)]
            exact Or.inl ⟨decide_eq_true (by omega), rfl, rfl⟩
          · rw [if_neg (show ¬ (v ≤ x.l ∨ x.h ≤ v) by omega), if_neg (show ¬ (v ≤ x.l ∨ x.h ≤ v) by omega), if_neg hlt, if_neg hlt]
            exact Or.inr ⟨decide_eq_false (by omega), by rw [w64 (by omega)]; omega, rfl⟩
set_option maxRecDepth 100000 in
set_option maxHeartbeats 4000000 in
theorem rvalue_any (x : Tns) (v : Int) (hx : vtR x) (hv : -64 ≤ v ∧ v ≤ 64) (w : World) :
    Calls Try.prog 56 #[tnV x, .int .i64 v] w fun e w' => e = .returned (ratV (vlN x v) (vlD x v)) ∧ Below w.heap.size w w' := by
  obtain ⟨h1, h2, h3, h4⟩ := hx
  unfold vlN vlD tnV ratV
  obtain ⟨l, p, h⟩ := x
  simp only at *
  by_cases hz : p = 0
  · rw [if_pos (Or.inl hz), if_pos (Or.inl hz)]
    have q1 : (p == 0) = true := by rw [hz]; rfl
    clear hz h1 h2 h3 h4
    go_enter Try.func56, Try.ntmps56
    go_wp2
    refine bodyPost_ret (v := .agg #[.int .i64 (1), .int .i64 (1)]) (by simp [results, Try.results56, go_sem]) rfl ⟨rfl, ?_⟩
    go_grown
  have q1 := beq_no hz
  by_cases he : v = p
  · rw [if_pos (Or.inr he), if_pos (Or.inr he)]
    have q2 : (v == p) = true := by rw [he]; exact beq_self_eq_true p
    clear he hz h1 h2 h3 h4
    go_enter Try.func56, Try.ntmps56
    go_wp2
    refine bodyPost_ret (v := .agg #[.int .i64 (1), .int .i64 (1)]) (by simp [results, Try.results56, go_sem]) rfl ⟨rfl, ?_⟩
    go_grown
  have q2 := beq_no he
  rw [if_neg (show ¬ (p = 0 ∨ v = p) by omega), if_neg (show ¬ (p = 0 ∨ v = p) by omega)]
  by_cases hl : v ≤ l
  · rw [if_pos (Or.inl hl), if_pos (Or.inl hl)]
    have q3 : decide (v ≤ l) = true := decide_eq_true hl
    clear hl he hz h1 h2 h3 h4
    go_enter Try.func56, Try.ntmps56
    go_wp2
    refine bodyPost_ret (v := .agg #[.int .i64 (0), .int .i64 (1)]) (by simp [results, Try.results56, go_sem]) rfl ⟨rfl, ?_⟩
    go_grown
  have q3 : decide (v ≤ l) = false := decide_eq_false hl
  by_cases hh : h ≤ v
  · rw [if_pos (Or.inr hh), if_pos (Or.inr hh)]
    have q4 : decide (h ≤ v) = true := decide_eq_true hh
    clear hh hl he hz h1 h2 h3 h4
    go_enter Try.func56, Try.ntmps56
    go_wp2
    refine bodyPost_ret (v := .agg #[.int .i64 (0), .int .i64 (1)]) (by simp [results, Try.results56, go_sem]) rfl ⟨rfl, ?_⟩
    go_grown
  have q4 : decide (h ≤ v) = false := decide_eq_false hh
  rw [if_neg (show ¬ (v ≤ l ∨ h ≤ v) by omega), if_neg (show ¬ (v ≤ l ∨ h ≤ v) by omega)]
  by_cases hlt : v < p
  · rw [if_pos hlt, if_pos hlt]
    have q5 : decide (v < p) = true := decide_eq_true hlt
    have w1 : wrap64 (v - l) = v - l := w64 (by omega)
    have w2 : wrap64 (p - l) = p - l := w64 (by omega)
    clear hlt hh hl he hz h1 h2 h3 h4
    go_enter Try.func56, Try.ntmps56
    go_wp2
    refine bodyPost_ret (v := .agg #[.int .i64 (v - l), .int .i64 (p - l)]) (by simp [results, Try.results56, go_sem]) rfl ⟨rfl, ?_⟩
    go_grown
  · rw [if_neg hlt, if_neg hlt]
    have q5 : decide (v < p) = false := decide_eq_false hlt
    have w1 : wrap64 (h - v) = h - v := w64 (by omega)
    have w2 : wrap64 (h - p) = h - p := w64 (by omega)
    clear hlt hh hl he hz h1 h2 h3 h4
    go_enter Try.func56, Try.ntmps56
    go_wp2
    refine bodyPost_ret (v := .agg #[.int .i64 (h - v), .int .i64 (h - p)]) (by simp [results, Try.results56, go_sem]) rfl ⟨rfl, ?_⟩
    go_grown
set_option maxRecDepth 100000 in
set_option maxHeartbeats 1000000 in
theorem rFits_any (a : Option Addr) (n c : Nat) (g : Nat → Tns) (m : Int) (hn : n ≤ 1000000) (w : World) (hA : TA w a n g) :
    Calls Try.prog 51 #[.slice a n c, .int .i64 m] w fun e w' => e = .returned (.bool (fit g n m)) ∧ Below w.heap.size w w' := by
  unfold fit
  have HA := Lib.hid hA
  clear hA
  go_enter Try.func51, Try.ntmps51
  go_wp2_with fail
  go_loopw [5] (fun v V => FtRel w g n v V) (fun v _ => n - (intOf v).toNat)
  case atStart => exact ⟨0, rfl, by omega, rfl, Below.refl _ _⟩
  case round =>
    obtain ⟨k, rfl, hle, hz, hB⟩ := hrel
    rename World => V
    rcases Nat.lt_or_ge k n with hk | hk
    · obtain ⟨b, o, rfl, x0, x1, x2⟩ := ta_below HA.out hB k hk
      have C := Lib.hid (fun w => valid_any (g k) w)
      have hN : Hid (vt (g k) = true → ∀ V', Below V.heap.size V V' → FtRel w g n (.int .i64 ((k : Int) + 1)) V') := Lib.hid (fun h V' h2 => ⟨k + 1, rfl, by omega, by rw [vts, hz, h]; rfl, bt hB h2⟩)
      have hY : Hid (vt (g k) = false → vts g n = false) := Lib.hid (fun h => vts_no h n hk)
      have k2 : (0 : Int) ≤ (k : Int) := by omega
      have k3 : (k : Int) < (n : Int) := by omega
      unfold tnV at C
      clear hz
      rcases hv : vt (g k) with _ | _
      · have hR := Lib.hid (hY.out hv)
        rw [hv] at C
        clear hN hY hv
        generalize g k = x at *
        go_wp2_with fail
        refine (C.out _).mono ?_
        rintro e V1 ⟨rfl, hB1⟩
        go_wp2
        go_ret
        exact ⟨by rw [hR.out, Bool.and_false]; rfl, bt hB hB1⟩
      · have hR := Lib.hid (hN.out hv)
        rw [hv] at C
        clear hN hY hv
        generalize g k = x at *
        go_wp2_with fail
        refine (C.out _).mono ?_
        rintro e V1 ⟨rfl, hB1⟩
        have R := Lib.hid (hR.out _ hB1)
        go_wp2_with fail
        exact ⟨R.out, by simp [intOf]; omega⟩
    · obtain rfl : k = n := by omega
      have hL := Lib.hid hz
      clear hz
      by_cases hm : (k : Int) = m
      · have q : ((k : Int) == m) = true := by rw [hm]; exact beq_self_eq_true m
        have hm2 := Lib.hid hm
        clear hm
        go_wp2
        go_ret
        exact ⟨by rw [hL.out, decide_eq_true hm2.out]; rfl, hB⟩
      · have q := beq_no hm
        have hm2 := Lib.hid hm
        clear hm
        go_wp2
        go_ret
        exact ⟨by rw [decide_eq_false hm2.out]; rfl, hB⟩
end Go.Proofs.Ytcogoomajfahkaa.Ax
