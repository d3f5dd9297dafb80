/-
  The document's own Sum and Mul of ratios that are not valid; Mul, whole.
-/
import Derived.Test.YtmlkdfieakihlaaExRl
import Derived.Test.YtmlkdfieakihlaaExN
namespace Go.Proofs.Ytmlkdfieakihlaa.Ex
open Go.RowKit

set_option maxRecDepth 100000 in
set_option maxHeartbeats 2000000 in
theorem mulr_no (n d m e n1 d1 m1 e1 : Int) (t1 t2 : Bool) (ht : (t1 && t2) = false)
    (A1 : Hid (∀ w, Calls Try.prog 57 #[ratV n d] w fun en w' => en = .returned (.tuple #[ratV n1 d1, .bool t1]) ∧ Below w.heap.size w w'))
    (A2 : Hid (∀ w, Calls Try.prog 57 #[ratV m e] w fun en w' => en = .returned (.tuple #[ratV m1 e1, .bool t2]) ∧ Below w.heap.size w w')) (w : World) :
    Calls Try.prog 40 #[ratV n d, ratV m e] w fun en w' => en = .returned (.tuple #[ratV 0 0, .bool false]) ∧ Below w.heap.size w w' := by
  unfold ratV at *
  go_enter Try.func40, Try.ntmps40
  go_wp2_with fail
  refine (A1.out _).mono ?_
  rintro en w1 ⟨rfl, hb⟩
  have fr0 := kf hb (b := w.heap.size + 1 + 1) (o := 0) (v := .int .i64 0) (t := false) (by go_cell) (by go_cell)
  have fr1 := kf hb (b := w.heap.size + 1 + 1) (o := 1) (v := .int .i64 0) (t := false) (by go_cell) (by go_cell)
  have ym := kc hb (b := w.heap.size + 1) (o := 0) (v := .int .i64 m) (by go_cell)
  have ye := kc hb (b := w.heap.size + 1) (o := 1) (v := .int .i64 e) (by go_cell)
  have r0 := kc hb (b := w.heap.size + 1 + 1) (o := 0) (v := .int .i64 0) (by go_cell)
  have r1 := kc hb (b := w.heap.size + 1 + 1) (o := 1) (v := .int .i64 0) (by go_cell)
  have hB : Below w.heap.size w w1 := bt (ba (ba (ba (Below.refl _ _) _) _) _) hb
  have hz1 : w.heap.size + 1 + 1 < w1.heap.size := by have := hb.size; simp at this; omega
  have hz0 : w.heap.size + 1 < w1.heap.size := by omega
  clear hb
  go_wp2_with fail
  refine (A2.out _).mono ?_
  rintro en w2 ⟨rfl, hb⟩
  have fr0' := kf hb (b := w.heap.size + 1 + 1) (o := 0) (v := .int .i64 0) (t := false) (by go_cell) (by go_cell)
  have fr1' := kf hb (b := w.heap.size + 1 + 1) (o := 1) (v := .int .i64 0) (t := false) (by go_cell) (by go_cell)
  have r0' := kc hb (b := w.heap.size + 1 + 1) (o := 0) (v := .int .i64 0) (by go_cell)
  have r1' := kc hb (b := w.heap.size + 1 + 1) (o := 1) (v := .int .i64 0) (by go_cell)
  have hB2 : Below w.heap.size w w2 := bt (ba hB _) hb
  have hz2 : w1.heap.size < w2.heap.size := by have := hb.size; simp at this; omega
  have hz3 : w.heap.size + 1 + 1 < w2.heap.size := by omega
  have hl : w.heap.size ≤ w.heap.size + 1 + 1 := by omega
  clear hb ym ye r0 r1 fr0 fr1 hB
  have W0 : ((w2.setCell ⟨w.heap.size + 1 + 1, 0, none⟩ (.int .i64 0)).setCell ⟨w.heap.size + 1 + 1, 1, none⟩ (.int .i64 0)).heap.size = w2.heap.size := by simp [World.setCell]
  have x0 : (((w2.setCell ⟨w.heap.size + 1 + 1, 0, none⟩ (.int .i64 0)).setCell ⟨w.heap.size + 1 + 1, 1, none⟩ (.int .i64 0)).alloc (.cells #[.int .i64 m1, .int .i64 e1] 44)).cell? ⟨w.heap.size + 1 + 1, 0, none⟩ = some (.int .i64 0) := by go_cell
  have x1 : (((w2.setCell ⟨w.heap.size + 1 + 1, 0, none⟩ (.int .i64 0)).setCell ⟨w.heap.size + 1 + 1, 1, none⟩ (.int .i64 0)).alloc (.cells #[.int .i64 m1, .int .i64 e1] 44)).cell? ⟨w.heap.size + 1 + 1, 1, none⟩ = some (.int .i64 0) := by go_cell
  cases t1 <;> cases t2
  case true.true => cases ht
  all_goals
    go_wp2
    refine bodyPost_ret (v := .tuple #[.agg #[.int .i64 0, .int .i64 0], .bool false]) (by simp [results, Try.results40, go_sem, x0, x1]; try rfl) rfl ⟨rfl, ?_⟩
    (first | exact bs (bs (ba hB2 _) hl _) hl _ | exact ba (bs (bs hB2 hl _) hl _) _ | exact bs (bs hB2 hl _) hl _)

theorem wh_out (neg : Bool) (q : Int) (hq : 0 ≤ q) (x : Int) (hx : x = if neg then -q else q) : WhI neg q = outI x ∧ WhB neg q = fits x := by rw [hx]; exact wh_is neg q hq
/-- A quotient by a divisor, with its sign. -/
theorem ab_quo (n g : Int) (hg : 0 < g) (hd : g ∣ n) : n / g = if decide (n < 0) then -(ab n / g) else ab n / g := by
  obtain ⟨k, rfl⟩ := hd
  rw [Int.mul_ediv_cancel_left _ (by omega)]
  rcases Int.lt_or_le k 0 with h | h
  · have h1 : g * k < 0 := Int.mul_neg_of_pos_of_neg hg h
    rw [decide_eq_true h1, ab_neg h1, if_pos rfl, show -(g * k) = g * -k by rw [Int.mul_neg], Int.mul_ediv_cancel_left _ (by omega)]; omega
  · have h1 : 0 ≤ g * k := Int.mul_nonneg (by omega) h
    rw [decide_eq_false (by omega), ab_pos h1, if_neg (by simp), Int.mul_ediv_cancel_left _ (by omega)]
theorem sign_mul (a b : Bool) (x y : Int) : (if a then -x else x) * (if b then -y else y) = if !(a == b) then -(x * y) else x * y := by
  cases a <;> cases b <;> simp [Int.neg_mul, Int.mul_neg]
theorem out_if (x y : Int) : (if (fits x && fits y) = true then outI x else 0) = (if (fits x && fits y) = true then x else 0) ∧ (if (fits x && fits y) = true then outI y else 0) = (if (fits x && fits y) = true then y else 0) := by
  unfold outI
  cases fits x <;> cases fits y <;> simp
theorem mul_ref (n d m e : Int) (hn : -9223372036854775808 ≤ n ∧ n ≤ 9223372036854775807) (hd : -9223372036854775808 ≤ d ∧ d ≤ 9223372036854775807) (hm : -9223372036854775808 ≤ m ∧ m ≤ 9223372036854775807) (he : -9223372036854775808 ≤ e ∧ e ≤ 9223372036854775807) (w : World) :
    Calls Try.prog 40 #[ratV n d, ratV m e] w fun en w' => en = .returned (.tuple #[ratV (MuN n d m e) (MuD n d m e), .bool (MuB n d m e)]) ∧ Below w.heap.size w w' := by
  have A1 := lowest_ref n d hn hd
  have A2 := lowest_ref m e hm he
  by_cases hv : 1 ≤ d ∧ 1 ≤ e
  · obtain ⟨v1, v2⟩ := hv
    obtain ⟨bn, bd0, bd1⟩ := red_bd n d hn ⟨v1, hd.2⟩
    obtain ⟨bm, be0, be1⟩ := red_bd m e hm ⟨v2, he.2⟩
    rw [show LoN n d = redN n d from if_neg (by omega), show LoD n d = redD n d from if_neg (by omega), show LoB d = true from decide_eq_true v1] at A1
    rw [show LoN m e = redN m e from if_neg (by omega), show LoD m e = redD m e from if_neg (by omega), show LoB e = true from decide_eq_true v2] at A2
    have SR := mul_red n d m e v1 v2
    have hS : MuB n d m e = okR (n * m) (d * e) := by unfold MuB; rw [decide_eq_true v1, decide_eq_true v2]; rfl
    unfold MuN MuD
    rw [hS]
    unfold okR
    rw [← SR.1, ← SR.2]
    clear SR hS
    unfold mulN mulD
    generalize redN n d = n1 at *
    generalize redD n d = d1 at *
    generalize redN m e = m1 at *
    generalize redD m e = e1 at *
    have bd' : -9223372036854775808 ≤ d1 ∧ d1 ≤ 9223372036854775807 := by omega
    have be' : -9223372036854775808 ≤ e1 ∧ e1 ≤ 9223372036854775807 := by omega
    have ad := ab_pos (n := d1) (by omega)
    have ae := ab_pos (n := e1) (by omega)
    have g0 := gcd_pos' n1 be0
    have h0 := gcd_pos' m1 bd0
    have dg1 := Int.gcd_dvd_left (a := n1) (b := e1)
    have dg2 := Int.gcd_dvd_right (a := n1) (b := e1)
    have dh1 := Int.gcd_dvd_left (a := m1) (b := d1)
    have dh2 := Int.gcd_dvd_right (a := m1) (b := d1)
    have G := gcd_ref (ab n1) (ab e1) (by have := ab_bd bn; omega) (by have := ab_bd be'; omega)
    have H := gcd_ref (ab m1) (ab d1) (by have := ab_bd bm; omega) (by have := ab_bd bd'; omega)
    rw [ab_gcd] at G H
    have qn := ab_quo n1 (Int.gcd n1 e1 : Int) (by omega) dg1
    have qm := ab_quo m1 (Int.gcd m1 d1 : Int) (by omega) dh1
    generalize ((Int.gcd n1 e1 : Nat) : Int) = g at *
    generalize ((Int.gcd m1 d1 : Nat) : Int) = h at *
    have k1 := ab_bd bn
    have k2 := ab_bd bm
    have u0 : 0 ≤ ab n1 / g := Int.ediv_nonneg k1.1 (by omega)
    have u1 := Int.ediv_le_self (a := ab n1) g k1.1
    have w0 : 0 ≤ ab m1 / h := Int.ediv_nonneg k2.1 (by omega)
    have w1 := Int.ediv_le_self (a := ab m1) h k2.1
    have s0 : 0 ≤ d1 / h := Int.ediv_nonneg (by omega) (by omega)
    have s1 := Int.ediv_le_self (a := d1) h (by omega)
    have t0 : 0 ≤ e1 / g := Int.ediv_nonneg (by omega) (by omega)
    have t1 := Int.ediv_le_self (a := e1) g (by omega)
    have P := product_ref (ab n1 / g) (ab m1 / h) (by omega) (by omega)
    have Q := product_ref (d1 / h) (e1 / g) (by omega) (by omega)
    have p0 : 0 ≤ ab n1 / g * (ab m1 / h) := Int.mul_nonneg u0 w0
    have p1 : ab n1 / g * (ab m1 / h) < 340282366920938463463374607431768211456 := by
      have : ab n1 / g * (ab m1 / h) ≤ 9223372036854775808 * (ab m1 / h) := Int.mul_le_mul_of_nonneg_right (by omega) w0
      omega
    have r0 : 0 ≤ d1 / h * (e1 / g) := Int.mul_nonneg s0 t0
    have r1 : d1 / h * (e1 / g) < 340282366920938463463374607431768211456 := by
      have : d1 / h * (e1 / g) ≤ 9223372036854775808 * (e1 / g) := Int.mul_le_mul_of_nonneg_right (by omega) t0
      omega
    have W1 := whole_ref (!(decide (n1 < 0) == decide (m1 < 0))) _ ⟨p0, p1⟩
    have W2 := whole_ref false _ ⟨r0, r1⟩
    have o1 := wh_out (!(decide (n1 < 0) == decide (m1 < 0))) _ p0 (n1 / g * (m1 / h)) (by rw [qn, qm, sign_mul])
    have o2 := wh_out false _ r0 (d1 / h * (e1 / g)) rfl
    rw [o1.1, o1.2] at W1
    rw [o2.1, o2.2] at W2
    have oi := out_if (n1 / g * (m1 / h)) (d1 / h * (e1 / g))
    have M := mulr_core n d m e n1 d1 m1 e1 (ab n1) (ab d1) (ab m1) (ab e1) g h _ _ _ _ _ _ _ _ _ _ _ _ _ _ rfl rfl (Lib.hid A1) (Lib.hid A2) (Lib.hid (size_b n1 bn)) (Lib.hid (size_b e1 be')) (Lib.hid (size_b m1 bm)) (Lib.hid (size_b d1 bd')) (Lib.hid G) (Lib.hid H)
      (Lib.hid P) (Lib.hid Q) (Lib.hid W1) (Lib.hid W2) (beq_eq_false_iff_ne.2 (by omega)) (beq_eq_false_iff_ne.2 (by omega)) rfl rfl (by rw [ad]) (by rw [ae]) k1.1 k2.1 (by omega) (by omega) (by omega) (by omega) (by omega) (by omega) (by omega) (by omega) w
    rw [oi.1, oi.2] at M
    exact M
  · have hS : MuB n d m e = false := by
      unfold MuB
      by_cases v1 : 1 ≤ d
      · rw [decide_eq_true v1, decide_eq_false (show ¬ 1 ≤ e by omega)]; rfl
      · rw [decide_eq_false v1]; rfl
    have hL : (LoB d && LoB e) = false := by
      unfold LoB
      by_cases v1 : 1 ≤ d
      · rw [decide_eq_true v1, decide_eq_false (show ¬ 1 ≤ e by omega)]; rfl
      · rw [decide_eq_false v1]; rfl
    unfold MuN MuD
    rw [hS]
    exact mulr_no n d m e _ _ _ _ _ _ hL (Lib.hid A1) (Lib.hid A2) w
end Go.Proofs.Ytmlkdfieakihlaa.Ex
