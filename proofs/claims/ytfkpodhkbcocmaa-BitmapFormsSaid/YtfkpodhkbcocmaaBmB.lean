/-
  Layer 4 (bitmap): Check, New, Get, and the document's own.
-/
import Derived.Test.YtfkpodhkbcocmaaBmA
namespace Go.Proofs.Ytfkpodhkbcocmaa.Bm
open Go.RowKit
theorem wrap_id {x : Int} (h : R64 x) : RowKit.wrap64 x = x := by
  obtain ⟨a, b⟩ := h
  unfold RowKit.wrap64; omega
/-- Cells that a call leaves. -/
theorem box3 {w W1 : World} {b : Nat} {x y z : Value} {T : TypeId} (hb : Below (w.alloc (.cells #[x, y, z] T)).heap.size (w.alloc (.cells #[x, y, z] T)) W1) (e : b = w.heap.size) :
    W1.cell? ⟨b, 0, none⟩ = some x ∧ W1.cell? ⟨b, 1, none⟩ = some y ∧ W1.cell? ⟨b, 2, none⟩ = some z := by
  subst e
  exact ⟨kc hb (by simp) (by go_cell), kc hb (by simp) (by go_cell), kc hb (by simp) (by go_cell)⟩
theorem k3 {w W : World} {b : Nat} {x y z : Value} (hb : Below w.heap.size w W) (h : w.cell? ⟨b, 0, none⟩ = some x ∧ w.cell? ⟨b, 1, none⟩ = some y ∧ w.cell? ⟨b, 2, none⟩ = some z) :
    W.cell? ⟨b, 0, none⟩ = some x ∧ W.cell? ⟨b, 1, none⟩ = some y ∧ W.cell? ⟨b, 2, none⟩ = some z :=
  ⟨kc hb (block_lt_of_cell h.1) h.1, kc hb (block_lt_of_cell h.2.1) h.2.1, kc hb (block_lt_of_cell h.2.2) h.2.2⟩
set_option maxHeartbeats 1000000 in
theorem Check_any (W H : Int) (a : Option Addr) (n c : Nat) (w : World) :
    Calls Try.prog 10 #[bv W H a n c] w fun e w' => e = .returned (.int .i64 (ck W H n)) ∧ Below w.heap.size w w' := by
  have S1 := Lib.hid (isSide_any W)
  have S2 := Lib.hid (isSide_any H)
  unfold ck
  rcases h1 : sd W with _ | _
  · rw [h1] at S1
    simp only [Bool.false_and, Bool.false_eq_true, if_false]
    unfold bv
    go_enter Try.func10, Try.ntmps10
    go_wp2_with fail
    refine (S1.out _).mono ?_
    rintro e w1 ⟨rfl, hb1⟩
    obtain ⟨c0, c1, c2⟩ := box3 hb1 rfl
    have hB : Below w.heap.size w w1 := bt (ba (Below.refl _ _) _) hb1
    clear hb1
    go_wp2
    go_ret
    exact ⟨rfl, hB⟩
  rcases h2 : sd H with _ | _
  · rw [h1] at S1
    rw [h2] at S2
    simp only [Bool.true_and, Bool.false_eq_true, if_false]
    unfold bv
    go_enter Try.func10, Try.ntmps10
    go_wp2_with fail
    refine (S1.out _).mono ?_
    rintro e w1 ⟨rfl, hb1⟩
    obtain ⟨c0, c1, c2⟩ := box3 hb1 rfl
    have hB : Below w.heap.size w w1 := bt (ba (Below.refl _ _) _) hb1
    clear hb1
    go_wp2_with fail
    refine (S2.out _).mono ?_
    rintro e w2 ⟨rfl, hb2⟩
    obtain ⟨c0, c1, c2⟩ := k3 hb2 ⟨c0, c1, c2⟩
    replace hB := bt hB hb2
    clear hb2
    go_wp2
    go_ret
    exact ⟨rfl, hB⟩
  · rw [h1] at S1
    rw [h2] at S2
    simp only [Bool.true_and, if_true]
    obtain ⟨m1, m2⟩ := mul_side ((sd_iff W).1 h1) ((sd_iff H).1 h2)
    have mw : RowKit.wrap64 (W * H) = W * H := wrap_id ⟨by omega, by omega⟩
    clear h1 h2
    unfold bv
    go_enter Try.func10, Try.ntmps10
    go_wp2_with fail
    refine (S1.out _).mono ?_
    rintro e w1 ⟨rfl, hb1⟩
    obtain ⟨c0, c1, c2⟩ := box3 hb1 rfl
    have hB : Below w.heap.size w w1 := bt (ba (Below.refl _ _) _) hb1
    clear hb1
    go_wp2_with fail
    refine (S2.out _).mono ?_
    rintro e w2 ⟨rfl, hb2⟩
    obtain ⟨c0, c1, c2⟩ := k3 hb2 ⟨c0, c1, c2⟩
    replace hB := bt hB hb2
    clear hb2
    by_cases h : (n : Int) = W * H <;> simp only [h, if_true, if_false]
    all_goals
      go_wp2
      go_ret
      exact ⟨rfl, hB⟩
set_option maxHeartbeats 1000000 in
theorem rCheck_any (W H : Int) (a : Option Addr) (n c : Nat) (w : World) :
    Calls Try.prog 11 #[bv W H a n c] w fun e w' => e = .returned (.int .i64 (ck W H n)) ∧ Below w.heap.size w w' := by
  have S1 := Lib.hid (side_any W)
  have S2 := Lib.hid (side_any H)
  unfold ck
  rcases h1 : sd W with _ | _
  · rw [h1] at S1
    simp only [Bool.false_and, Bool.false_eq_true, if_false]
    unfold bv
    go_enter Try.func11, Try.ntmps11
    go_wp2_with fail
    refine (S1.out _).mono ?_
    rintro e w1 ⟨rfl, hb1⟩
    obtain ⟨c0, c1, c2⟩ := box3 hb1 rfl
    have hB : Below w.heap.size w w1 := bt (ba (Below.refl _ _) _) hb1
    clear hb1
    go_wp2
    go_ret
    exact ⟨rfl, hB⟩
  rcases h2 : sd H with _ | _
  · rw [h1] at S1
    rw [h2] at S2
    simp only [Bool.true_and, Bool.false_eq_true, if_false]
    unfold bv
    go_enter Try.func11, Try.ntmps11
    go_wp2_with fail
    refine (S1.out _).mono ?_
    rintro e w1 ⟨rfl, hb1⟩
    obtain ⟨c0, c1, c2⟩ := box3 hb1 rfl
    have hB : Below w.heap.size w w1 := bt (ba (Below.refl _ _) _) hb1
    clear hb1
    go_wp2_with fail
    refine (S2.out _).mono ?_
    rintro e w2 ⟨rfl, hb2⟩
    obtain ⟨c0, c1, c2⟩ := k3 hb2 ⟨c0, c1, c2⟩
    replace hB := bt hB hb2
    clear hb2
    go_wp2
    go_ret
    exact ⟨rfl, hB⟩
  · rw [h1] at S1
    rw [h2] at S2
    simp only [Bool.true_and, if_true]
    obtain ⟨m1, m2⟩ := mul_side ((sd_iff W).1 h1) ((sd_iff H).1 h2)
    have mw : RowKit.wrap64 (W * H) = W * H := wrap_id ⟨by omega, by omega⟩
    clear h1 h2
    unfold bv
    go_enter Try.func11, Try.ntmps11
    go_wp2_with fail
    refine (S1.out _).mono ?_
    rintro e w1 ⟨rfl, hb1⟩
    obtain ⟨c0, c1, c2⟩ := box3 hb1 rfl
    have hB : Below w.heap.size w w1 := bt (ba (Below.refl _ _) _) hb1
    clear hb1
    go_wp2_with fail
    refine (S2.out _).mono ?_
    rintro e w2 ⟨rfl, hb2⟩
    obtain ⟨c0, c1, c2⟩ := k3 hb2 ⟨c0, c1, c2⟩
    replace hB := bt hB hb2
    clear hb2
    by_cases h : (n : Int) = W * H <;> simp only [h, if_true, if_false]
    all_goals
      go_wp2
      go_ret
      exact ⟨rfl, hB⟩
set_option maxHeartbeats 2000000 in
theorem Get_any (W H : Int) (a : Option Addr) (n c : Nat) (f : Nat → Bool) (x y : Int) (w : World) (hD : DA w a n f) :
    Calls Try.prog 21 #[bv W H a n c, .int .i64 x, .int .i64 y] w fun e w' => e = .returned (.bool (has W H n f x y)) ∧ Below w.heap.size w w' := by
  have C := Lib.hid (Check_any W H a n c)
  have I := Lib.hid (inside_any W H a n c x y)
  have hz := ck_zero W H n
  unfold has
  unfold bv at *
  rcases h1 : gd W H n with _ | _
  · rw [h1] at hz
    simp only [Bool.false_and]
    generalize ck W H n = z at *
    have hz2 : ¬ z = 0 := fun h => by rw [h] at hz; cases hz
    go_enter Try.func21, Try.ntmps21
    go_wp2_with fail
    refine (C.out _).mono ?_
    rintro e w1 ⟨rfl, hb1⟩
    obtain ⟨c0, c1, c2⟩ := box3 hb1 rfl
    have hB : Below w.heap.size w w1 := bt (ba (Below.refl _ _) _) hb1
    replace hD := da_below (da_below hD (ba (Below.refl _ _) _)) hb1
    clear hb1
    go_wp2
    go_ret
    exact ⟨rfl, hB⟩
  have hz3 : ck W H n = 0 := by rw [h1] at hz; exact eq_of_beq hz
  rw [hz3] at C
  rcases h2 : ins W H x y with _ | _
  · rw [h2] at I
    simp only [Bool.true_and, Bool.false_and]
    clear hz hz3 h1
    go_enter Try.func21, Try.ntmps21
    go_wp2_with fail
    refine (C.out _).mono ?_
    rintro e w1 ⟨rfl, hb1⟩
    obtain ⟨c0, c1, c2⟩ := box3 hb1 rfl
    have hB : Below w.heap.size w w1 := bt (ba (Below.refl _ _) _) hb1
    replace hD := da_below (da_below hD (ba (Below.refl _ _) _)) hb1
    clear hb1
    go_wp2_with fail
    refine (I.out _).mono ?_
    rintro e w2 ⟨rfl, hb2⟩
    replace hb2 := hb2
    obtain ⟨c0, c1, c2⟩ := k3 hb2 ⟨c0, c1, c2⟩
    replace hD := da_below hD hb2
    replace hB := bt hB hb2
    clear hb2
    go_wp2
    go_ret
    exact ⟨rfl, hB⟩
  · rw [h2] at I
    simp only [Bool.true_and]
    obtain ⟨q1, q2, q3, q4⟩ := (ins_iff W H x y).1 h2
    obtain ⟨hW, hH, hn⟩ := (gd_iff W H n).1 h1
    have hp := pos_in ⟨q1, q2⟩ ⟨q3, q4⟩
    have hm := mul_side hW hH
    obtain ⟨k, hk⟩ : ∃ k : Nat, y * W + x = k := ⟨(y * W + x).toNat, by omega⟩
    rw [hk, Int.toNat_natCast]
    have hkn : k < n := by omega
    have w1e : RowKit.wrap64 (y * W) = y * W := wrap_id ⟨by omega, by omega⟩
    have w2e : RowKit.wrap64 (y * W + x) = k := by rw [hk]; exact wrap_id ⟨by omega, by omega⟩
    clear hz hz3 h1 h2 hp hm hW hH hn hk
    go_enter Try.func21, Try.ntmps21
    go_wp2_with fail
    refine (C.out _).mono ?_
    rintro e w1 ⟨rfl, hb1⟩
    obtain ⟨c0, c1, c2⟩ := box3 hb1 rfl
    have hB : Below w.heap.size w w1 := bt (ba (Below.refl _ _) _) hb1
    replace hD := da_below (da_below hD (ba (Below.refl _ _) _)) hb1
    clear hb1
    go_wp2_with fail
    refine (I.out _).mono ?_
    rintro e w2 ⟨rfl, hb2⟩
    replace hb2 := hb2
    obtain ⟨c0, c1, c2⟩ := k3 hb2 ⟨c0, c1, c2⟩
    replace hD := da_below hD hb2
    replace hB := bt hB hb2
    clear hb2
    obtain ⟨b, o, rfl, hc⟩ := hD k hkn
    go_wp2
    go_ret
    exact ⟨rfl, hB⟩
set_option maxHeartbeats 2000000 in
theorem rGet_any (W H : Int) (a : Option Addr) (n c : Nat) (f : Nat → Bool) (x y : Int) (w : World) (hD : DA w a n f) :
    Calls Try.prog 22 #[bv W H a n c, .int .i64 x, .int .i64 y] w fun e w' => e = .returned (.bool (has W H n f x y)) ∧ Below w.heap.size w w' := by
  have C := Lib.hid (rCheck_any W H a n c)
  have hz := ck_zero W H n
  unfold has
  unfold bv at *
  rcases h1 : gd W H n with _ | _
  · rw [h1] at hz
    simp only [Bool.false_and]
    generalize ck W H n = z at *
    have hz2 : ¬ z = 0 := fun h => by rw [h] at hz; cases hz
    go_enter Try.func22, Try.ntmps22
    go_wp2_with fail
    refine (C.out _).mono ?_
    rintro e w1 ⟨rfl, hb1⟩
    obtain ⟨c0, c1, c2⟩ := box3 hb1 rfl
    have hB : Below w.heap.size w w1 := bt (ba (Below.refl _ _) _) hb1
    replace hD := da_below (da_below hD (ba (Below.refl _ _) _)) hb1
    clear hb1
    go_wp2
    go_ret
    exact ⟨rfl, hB⟩
  have hz3 : ck W H n = 0 := by rw [h1] at hz; exact eq_of_beq hz
  rw [hz3] at C
  rcases h2 : ins W H x y with _ | _
  · skip
    simp only [Bool.true_and, Bool.false_and]
    clear hz hz3 h1
    go_enter Try.func22, Try.ntmps22
    go_wp2_with fail
    refine (C.out _).mono ?_
    rintro e w1 ⟨rfl, hb1⟩
    obtain ⟨c0, c1, c2⟩ := box3 hb1 rfl
    have hB : Below w.heap.size w w1 := bt (ba (Below.refl _ _) _) hb1
    replace hD := da_below (da_below hD (ba (Below.refl _ _) _)) hb1
    clear hb1
    unfold ins at h2
    by_cases q1 : 0 ≤ x
    rotate_left
    · go_wp2
      go_ret
      exact ⟨rfl, hB⟩
    by_cases q2 : x < W
    rotate_left
    · go_wp2
      go_ret
      exact ⟨rfl, hB⟩
    by_cases q3 : 0 ≤ y
    rotate_left
    · go_wp2
      go_ret
      exact ⟨rfl, hB⟩
    by_cases q4 : y < H
    rotate_left
    · go_wp2
      go_ret
      exact ⟨rfl, hB⟩
    exact absurd h2 (by simp [q1, q2, q3, q4])
  · skip
    simp only [Bool.true_and]
    obtain ⟨q1, q2, q3, q4⟩ := (ins_iff W H x y).1 h2
    obtain ⟨hW, hH, hn⟩ := (gd_iff W H n).1 h1
    have hp := pos_in ⟨q1, q2⟩ ⟨q3, q4⟩
    have hm := mul_side hW hH
    obtain ⟨k, hk⟩ : ∃ k : Nat, y * W + x = k := ⟨(y * W + x).toNat, by omega⟩
    rw [hk, Int.toNat_natCast]
    have hkn : k < n := by omega
    have w1e : RowKit.wrap64 (y * W) = y * W := wrap_id ⟨by omega, by omega⟩
    have w2e : RowKit.wrap64 (y * W + x) = k := by rw [hk]; exact wrap_id ⟨by omega, by omega⟩
    clear hz hz3 h1 h2 hp hm hW hH hn hk
    go_enter Try.func22, Try.ntmps22
    go_wp2_with fail
    refine (C.out _).mono ?_
    rintro e w1 ⟨rfl, hb1⟩
    obtain ⟨c0, c1, c2⟩ := box3 hb1 rfl
    have hB : Below w.heap.size w w1 := bt (ba (Below.refl _ _) _) hb1
    replace hD := da_below (da_below hD (ba (Below.refl _ _) _)) hb1
    clear hb1
    obtain ⟨b, o, rfl, hc⟩ := hD k hkn
    go_wp2
    go_ret
    exact ⟨rfl, hB⟩
end Go.Proofs.Ytfkpodhkbcocmaa.Bm
