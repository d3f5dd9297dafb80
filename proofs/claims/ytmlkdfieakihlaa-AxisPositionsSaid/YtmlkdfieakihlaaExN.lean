/-
  The walks of layer 1 (exact): Sum and Mul, whole.
-/
import Derived.Test.YtmlkdfieakihlaaExM
namespace Go.Proofs.Ytmlkdfieakihlaa.Ex
open Go.RowKit

set_option maxHeartbeats 1000000 in
theorem mul_no (n d m e x1 x2 x3 x4 : Int)
    (B : Hid (∀ w, Calls Try.prog 54 #[ratV n d, ratV m e] w fun en w' => en = .returned (.tuple #[ratV x1 x2, ratV x3 x4, .bool false]) ∧ Below w.heap.size w w')) (w : World) :
    Calls Try.prog 37 #[ratV n d, ratV m e] w fun en w' => en = .returned (.tuple #[ratV 0 0, .bool false]) ∧ Below w.heap.size w w' := by
  unfold ratV at *
  go_enter Try.func37, Try.ntmps37
  go_wp2_with fail
  refine (B.out _).mono ?_
  rintro en w1 ⟨rfl, hb1⟩
  have a1 := kc hb1 (b := w.heap.size) (o := 0) (v := .int .i64 n) (by go_cell)
  have fa1 := kf hb1 (b := w.heap.size) (o := 0) (v := .int .i64 n) (t := false) (by go_cell) (by go_cell)
  have b1 := kc hb1 (b := w.heap.size) (o := 1) (v := .int .i64 d) (by go_cell)
  have fb1 := kf hb1 (b := w.heap.size) (o := 1) (v := .int .i64 d) (t := false) (by go_cell) (by go_cell)
  have c1 := kc hb1 (b := w.heap.size + 1) (o := 0) (v := .int .i64 m) (by go_cell)
  have fc1 := kf hb1 (b := w.heap.size + 1) (o := 0) (v := .int .i64 m) (t := false) (by go_cell) (by go_cell)
  have g1 := kc hb1 (b := w.heap.size + 1) (o := 1) (v := .int .i64 e) (by go_cell)
  have fg1 := kf hb1 (b := w.heap.size + 1) (o := 1) (v := .int .i64 e) (t := false) (by go_cell) (by go_cell)
  have r1 := kc hb1 (b := w.heap.size + 1 + 1) (o := 0) (v := .int .i64 0) (by go_cell)
  have fr1 := kf hb1 (b := w.heap.size + 1 + 1) (o := 0) (v := .int .i64 0) (t := false) (by go_cell) (by go_cell)
  have s1 := kc hb1 (b := w.heap.size + 1 + 1) (o := 1) (v := .int .i64 0) (by go_cell)
  have fs1 := kf hb1 (b := w.heap.size + 1 + 1) (o := 1) (v := .int .i64 0) (t := false) (by go_cell) (by go_cell)
  have hB : Below w.heap.size w w1 := bt (ba (ba (ba (Below.refl _ _) _) _) _) hb1
  clear hb1
  go_wp2
  refine bodyPost_ret (by simp [results, Try.results37, go_sem, r1, s1]; try rfl) rfl ⟨rfl, ?_⟩
  repeat (first | (with_reducible exact hB) | (with_reducible refine bs ?_ (by simp; try omega) _) | (with_reducible refine bd1 ?_))

theorem red_bd (n d : Int) (hn : -9223372036854775808 ≤ n ∧ n ≤ 9223372036854775807) (hd : 1 ≤ d ∧ d ≤ 9223372036854775807) :
    (-9223372036854775808 ≤ redN n d ∧ redN n d ≤ 9223372036854775807) ∧ 1 ≤ redD n d ∧ redD n d ≤ 9223372036854775807 := by
  have g := gcd_pos' n hd.1
  have h1 := redN_mul n d
  have h2 := redD_mul n d
  have h3 := redD_pos n hd.1
  generalize redN n d = x at *
  generalize redD n d = y at *
  generalize ((Int.gcd n d : Nat) : Int) = k at *
  have a1 : x.natAbs ≤ (k * x).natAbs := by rw [Int.natAbs_mul]; exact Nat.le_mul_of_pos_left _ (by omega)
  have a2 : y.natAbs ≤ (k * y).natAbs := by rw [Int.natAbs_mul]; exact Nat.le_mul_of_pos_left _ (by omega)
  refine ⟨⟨?_, ?_⟩, h3, by omega⟩
  · omega
  · by_cases h : x ≤ 0
    · omega
    · have : 0 ≤ k * x := Int.mul_nonneg (by omega) (by omega)
      omega

theorem both_yes (n d m e : Int) (hn : -9223372036854775808 ≤ n ∧ n ≤ 9223372036854775807) (hd : 1 ≤ d ∧ d ≤ 9223372036854775807) (hm : -9223372036854775808 ≤ m ∧ m ≤ 9223372036854775807) (he : 1 ≤ e ∧ e ≤ 9223372036854775807) (w : World) :
    Calls Try.prog 54 #[ratV n d, ratV m e] w fun en w' => en = .returned (.tuple #[ratV (redN n d) (redD n d), ratV (redN m e) (redD m e), .bool true]) ∧ Below w.heap.size w w' := by
  have h := both_any n d m e hn hd.2 hm he.2 w
  rw [show LoN n d = redN n d from if_neg (by omega), show LoD n d = redD n d from if_neg (by omega), show LoB d = true from decide_eq_true hd.1,
    show LoN m e = redN m e from if_neg (by omega), show LoD m e = redD m e from if_neg (by omega), show LoB e = true from decide_eq_true he.1] at h
  exact h

def MulSaid : Prop := ∀ n d m e : Int, -9223372036854775808 ≤ n ∧ n ≤ 9223372036854775807 → -9223372036854775808 ≤ d ∧ d ≤ 9223372036854775807 → -9223372036854775808 ≤ m ∧ m ≤ 9223372036854775807 → -9223372036854775808 ≤ e ∧ e ≤ 9223372036854775807 → ∀ w : World,
    Calls Try.prog 37 #[ratV n d, ratV m e] w fun en w' => en = .returned (.tuple #[ratV (MuN n d m e) (MuD n d m e), .bool (MuB n d m e)]) ∧ Below w.heap.size w w'

theorem mul_go : MulSaid := by
  intro n d m e hn hd hm he w
  by_cases hv : 1 ≤ d ∧ 1 ≤ e
  · obtain ⟨v1, v2⟩ := hv
    obtain ⟨bn, bd0, bd1⟩ := red_bd n d hn ⟨v1, hd.2⟩
    obtain ⟨bm, be0, be1⟩ := red_bd m e hm ⟨v2, he.2⟩
    have SR := mul_red n d m e v1 v2
    have B := both_yes n d m e hn ⟨v1, hd.2⟩ hm ⟨v2, he.2⟩
    have hS : MuB n d m e = okR (n * m) (d * e) := by unfold MuB; rw [decide_eq_true v1, decide_eq_true v2]; rfl
    unfold MuN MuD
    rw [hS]
    unfold okR
    rw [← SR.1, ← SR.2]
    clear SR hS
    generalize redN n d = n1 at *
    generalize redD n d = d1 at *
    generalize redN m e = m1 at *
    generalize redD m e = e1 at *
    obtain ⟨x1, x2, x3⟩ := red_bd n1 e1 bn ⟨be0, be1⟩
    obtain ⟨y1, y2, y3⟩ := red_bd m1 d1 bm ⟨bd0, bd1⟩
    have g0 := gcd_pos' n1 be0
    have h0 := gcd_pos' m1 bd0
    have fN : fits2 (redN n1 e1 * redN m1 d1) := fits2_mul x1 y1
    have fD : fits2 (redD m1 d1 * redD n1 e1) := fits2_mul (by omega) (by omega)
    have key := mul_core n d m e n1 d1 m1 e1 ((Int.gcd n1 e1 : Nat) : Int) ((Int.gcd m1 d1 : Nat) : Int) (redN n1 e1) (redN m1 d1) (redD m1 d1) (redD n1 e1)
      (Lib.hid B) (Lib.hid (divisor_i_any n1 e1 bn ⟨be0, be1⟩)) (Lib.hid (divisor_i_any m1 d1 bm ⟨bd0, bd1⟩)) (Lib.hid (product_any _ _ x1 y1)) (Lib.hid (product_any _ _ (by omega) (by omega)))
      (Lib.hid (ratio_any _ _ 1 fN fD (by omega) (by omega)))
      (quo_wrap' _ _ bn g0 (Int.gcd_dvd_left ..)) (quo_wrap' _ _ bm h0 (Int.gcd_dvd_left ..)) (quo_wrap' _ _ (by omega) h0 (Int.gcd_dvd_right ..)) (quo_wrap' _ _ (by omega) g0 (Int.gcd_dvd_right ..))
      rfl rfl g0 h0 w
    unfold rtN rtD rtB at key
    rw [Int.ediv_one, Int.ediv_one] at key
    exact key
  · have hS : MuB n d m e = false := by
      unfold MuB
      by_cases v1 : 1 ≤ d
      · rw [decide_eq_true v1, decide_eq_false (show ¬ 1 ≤ e by omega)]; rfl
      · rw [decide_eq_false v1]; rfl
    have hL : (LoB d && LoB e) = false := by
      unfold LoB
      by_cases v1 : 1 ≤ d
      · rw [decide_eq_true v1, decide_eq_false (show ¬ 1 ≤ e by omega)]; rfl
      · rw [decide_eq_false v1]; rfl
    have B := both_any n d m e hn hd.2 hm he.2
    rw [hL] at B
    unfold MuN MuD
    rw [hS]
    exact mul_no n d m e _ _ _ _ (Lib.hid B) w

end Go.Proofs.Ytmlkdfieakihlaa.Ex
