/-
  Fractions in lowest terms: what Sum and Mul compute is the sum and the product in lowest terms. No program in this text.
-/
import Derived.Test.YtmlkdfieakihlaaExMath
namespace Go.Proofs.Ytmlkdfieakihlaa.Ex

theorem mul4 (a b c d : Int) : a * b * (c * d) = a * c * (b * d) := by rw [Int.mul_assoc, Int.mul_assoc, Int.mul_left_comm b]
theorem gcd_pos' (p : Int) {q : Int} (hq : 1 ≤ q) : 1 ≤ ((Int.gcd p q : Nat) : Int) := by
  have := Int.gcd_pos_of_ne_zero_right p (show q ≠ 0 by omega)
  omega
theorem redN_mul (p q : Int) : ((Int.gcd p q : Nat) : Int) * redN p q = p := Int.mul_ediv_cancel' (Int.gcd_dvd_left ..)
theorem redD_mul (p q : Int) : ((Int.gcd p q : Nat) : Int) * redD p q = q := Int.mul_ediv_cancel' (Int.gcd_dvd_right ..)
theorem redD_pos (p : Int) {q : Int} (hq : 1 ≤ q) : 1 ≤ redD p q := by
  have h := redD_mul p q
  have g := gcd_pos' p hq
  refine Int.pos_of_mul_pos_right (a := ((Int.gcd p q : Nat) : Int)) ?_ (by omega)
  omega
theorem red_coprime (p : Int) {q : Int} (hq : 1 ≤ q) : Int.gcd (redN p q) (redD p q) = 1 := by
  have h1 := redN_mul p q
  have h2 := redD_mul p q
  have g := gcd_pos' p hq
  have e : Int.gcd (((Int.gcd p q : Nat) : Int) * redN p q) (((Int.gcd p q : Nat) : Int) * redD p q) = Int.gcd p q * Int.gcd (redN p q) (redD p q) := by
    rw [Int.gcd_mul_left]; rfl
  rw [h1, h2] at e
  have : Int.gcd p q * 1 = Int.gcd p q * Int.gcd (redN p q) (redD p q) := by omega
  exact (Nat.eq_of_mul_eq_mul_left (by omega) this).symm
theorem red_scale (c p q : Int) (hc : 1 ≤ c) (hq : 1 ≤ q) : redN (c * p) (c * q) = redN p q ∧ redD (c * p) (c * q) = redD p q := by
  have g := gcd_pos' p hq
  have e : ((Int.gcd (c * p) (c * q) : Nat) : Int) = c * ((Int.gcd p q : Nat) : Int) := by
    rw [Int.gcd_mul_left, Int.natCast_mul, Int.natAbs_of_nonneg (by omega)]
  unfold redN redD
  rw [e, Int.mul_ediv_mul_of_pos _ _ (by omega), Int.mul_ediv_mul_of_pos _ _ (by omega)]
  exact ⟨rfl, rfl⟩
theorem red_of_coprime (p q : Int) (h : Int.gcd p q = 1) : redN p q = p ∧ redD p q = q := by
  unfold redN redD
  rw [h]; simp

theorem gcd_self_mod (k N : Int) : Int.gcd k N = Int.gcd k (N % k) := by
  have h := Int.gcd_add_mul_right_right k (N % k) (N / k)
  rw [show N % k + N / k * k = N by have := Int.mul_ediv_add_emod N k; rw [Int.mul_comm]; omega] at h
  exact h

/-- Two factors that have nothing in common with N play no part in what N has in common with a product. -/
theorem gcd_drop (N g a b : Int) (ha : Int.gcd N a = 1) (hb : Int.gcd N b = 1) : Int.gcd N (g * a * b) = Int.gcd N g := by
  show Nat.gcd N.natAbs (g * a * b).natAbs = Nat.gcd N.natAbs g.natAbs
  rw [Int.natAbs_mul, Int.natAbs_mul, Nat.Coprime.gcd_mul_right_cancel_right _ (show Nat.Coprime b.natAbs N.natAbs from (Nat.gcd_comm ..).trans hb),
    Nat.Coprime.gcd_mul_right_cancel_right _ (show Nat.Coprime a.natAbs N.natAbs from (Nat.gcd_comm ..).trans ha)]

theorem coprime_sum (n m d e N : Int) (hN : N = n * e + m * d) (h1 : Int.gcd n d = 1) (h2 : Int.gcd d e = 1) : Int.gcd N d = 1 := by
  have a : Int.gcd (n * e) d = 1 := by
    show Nat.gcd (n * e).natAbs d.natAbs = 1
    rw [Int.natAbs_mul]
    exact Nat.Coprime.mul_left h1 ((Nat.gcd_comm ..).trans h2)
  rw [hN, Int.gcd_comm]
  rw [Int.gcd_add_mul_right_right]
  rw [Int.gcd_comm]; exact a

/-- What Sum computes of two ratios in lowest terms. -/
def sumN (n d m e : Int) : Int := n * (e / (Int.gcd d e : Int)) + m * (d / (Int.gcd d e : Int))
def sumD (d e : Int) : Int := d * (e / (Int.gcd d e : Int))
def sumH (n d m e : Int) : Int := (Int.gcd (sumN n d m e % (Int.gcd d e : Int)) (Int.gcd d e : Int) : Int)

theorem sum_low (n d m e : Int) (hd : 1 ≤ d) (he : 1 ≤ e) (c1 : Int.gcd n d = 1) (c2 : Int.gcd m e = 1) :
    sumN n d m e / sumH n d m e = redN (n * e + m * d) (d * e) ∧ sumD d e / sumH n d m e = redD (n * e + m * d) (d * e) := by
  have g := gcd_pos' d he
  have ed : ((Int.gcd d e : Nat) : Int) * redN d e = d := redN_mul d e
  have ee : ((Int.gcd d e : Nat) : Int) * redD d e = e := redD_mul d e
  have cc := red_coprime d he
  unfold sumH sumD sumN
  change (n * redD d e + m * redN d e) / _ = _ ∧ d * redD d e / _ = _
  have eN : n * (e / ((Int.gcd d e : Nat) : Int)) + m * (d / ((Int.gcd d e : Nat) : Int)) = n * redD d e + m * redN d e := rfl
  rw [eN]
  generalize redN d e = a at *
  generalize redD d e = b at *
  generalize ((Int.gcd d e : Nat) : Int) = k at *
  clear eN
  have ha : 1 ≤ a := Int.pos_of_mul_pos_right (a := k) (by omega) (by omega)
  have hb : 1 ≤ b := Int.pos_of_mul_pos_right (a := k) (by omega) (by omega)
  have c1' : Int.gcd n a = 1 := by
    have h : Int.gcd n a ∣ Int.gcd n d := by
      rw [← ed]; exact Nat.gcd_dvd_gcd_of_dvd_right _ (by rw [Int.natAbs_mul]; exact Nat.dvd_mul_left ..)
    rw [c1] at h; exact Nat.dvd_one.1 h
  have c2' : Int.gcd m b = 1 := by
    have h : Int.gcd m b ∣ Int.gcd m e := by
      rw [← ee]; exact Nat.gcd_dvd_gcd_of_dvd_right _ (by rw [Int.natAbs_mul]; exact Nat.dvd_mul_left ..)
    rw [c2] at h; exact Nat.dvd_one.1 h
  have hN : ∃ N, n * b + m * a = N := ⟨_, rfl⟩
  obtain ⟨N, hN⟩ := hN
  have n1 : Int.gcd N a = 1 := coprime_sum n m a b N hN.symm c1' cc
  have n2 : Int.gcd N b = 1 := coprime_sum m n b a N (by omega) c2' (by rw [Int.gcd_comm]; exact cc)
  have e1 : n * e + m * d = k * N := by
    have e2 : n * e = k * (n * b) := by rw [← ee, ← Int.mul_assoc, ← Int.mul_assoc, Int.mul_comm n k]
    have e3 : m * d = k * (m * a) := by rw [← ed, ← Int.mul_assoc, ← Int.mul_assoc, Int.mul_comm m k]
    rw [e2, e3, ← Int.mul_add, hN]
  have e2 : d * e = k * (d * b) := by rw [← ee, ← Int.mul_assoc, ← Int.mul_assoc, Int.mul_comm d k]
  have hdb : 1 ≤ d * b := Int.mul_pos (by omega) (by omega)
  obtain ⟨s1, s2⟩ := red_scale k N (d * b) (by omega) hdb
  rw [hN, e1, e2, s1, s2]
  have hg : Int.gcd N (d * b) = Int.gcd (N % k) k := by
    have := gcd_drop N k a b n1 n2
    rw [ed] at this
    rw [this, Int.gcd_comm, Int.gcd_comm (N % k), ← gcd_self_mod]
  unfold redN redD
  rw [hg]
  exact ⟨rfl, rfl⟩

theorem sum_lowest (n d m e : Int) (hd : 1 ≤ d) (he : 1 ≤ e) :
    redN (redN n d * redD m e + redN m e * redD n d) (redD n d * redD m e) = redN (n * e + m * d) (d * e) ∧
    redD (redN n d * redD m e + redN m e * redD n d) (redD n d * redD m e) = redD (n * e + m * d) (d * e) := by
  have g := gcd_pos' n hd
  have h := gcd_pos' m he
  have a1 := redN_mul n d
  have a2 := redD_mul n d
  have b1 := redN_mul m e
  have b2 := redD_mul m e
  have p1 := redD_pos n hd
  have p2 := redD_pos m he
  generalize redN n d = n1 at *
  generalize redD n d = d1 at *
  generalize redN m e = m1 at *
  generalize redD m e = e1 at *
  generalize ((Int.gcd n d : Nat) : Int) = k at *
  generalize ((Int.gcd m e : Nat) : Int) = l at *
  have s := red_scale (k * l) (n1 * e1 + m1 * d1) (d1 * e1) (Int.mul_pos (by omega) (by omega)) (Int.mul_pos (by omega) (by omega))
  have x1 : n * e + m * d = k * l * (n1 * e1 + m1 * d1) := by
    rw [← a1, ← a2, ← b1, ← b2, Int.mul_add, mul4 k n1, mul4 l m1, Int.mul_comm l k]
  have x2 : d * e = k * l * (d1 * e1) := by rw [← a2, ← b2, mul4]
  rw [x1, x2]
  exact ⟨s.1.symm, s.2.symm⟩

theorem sum_red (n d m e : Int) (hd : 1 ≤ d) (he : 1 ≤ e) :
    sumN (redN n d) (redD n d) (redN m e) (redD m e) / sumH (redN n d) (redD n d) (redN m e) (redD m e) = redN (n * e + m * d) (d * e) ∧
    sumD (redD n d) (redD m e) / sumH (redN n d) (redD n d) (redN m e) (redD m e) = redD (n * e + m * d) (d * e) := by
  have a := sum_low (redN n d) (redD n d) (redN m e) (redD m e) (redD_pos n hd) (redD_pos m he) (red_coprime n hd) (red_coprime m he)
  have b := sum_lowest n d m e hd he
  exact ⟨a.1.trans b.1, a.2.trans b.2⟩

/-- What Mul computes of two ratios in lowest terms. -/
def mulN (n d m e : Int) : Int := n / (Int.gcd n e : Int) * (m / (Int.gcd m d : Int))
def mulD (n d m e : Int) : Int := d / (Int.gcd m d : Int) * (e / (Int.gcd n e : Int))

theorem coprime_part {a b g h n d : Int} (hn : n = g * a) (hd : d = h * b) (c : Int.gcd n d = 1) : Int.gcd a b = 1 := by
  have h1 : Int.gcd a b ∣ Int.gcd n d := Nat.dvd_gcd
    (Nat.dvd_trans (Nat.gcd_dvd_left ..) (by rw [hn, Int.natAbs_mul]; exact Nat.dvd_mul_left ..))
    (Nat.dvd_trans (Nat.gcd_dvd_right ..) (by rw [hd, Int.natAbs_mul]; exact Nat.dvd_mul_left ..))
  rw [c] at h1
  exact Nat.dvd_one.1 h1
theorem coprime_mul {a b c : Int} (h1 : Int.gcd a c = 1) (h2 : Int.gcd b c = 1) : Int.gcd (a * b) c = 1 := by
  show Nat.gcd (a * b).natAbs c.natAbs = 1
  rw [Int.natAbs_mul]
  exact Nat.Coprime.mul_left h1 h2

theorem mul_low (n d m e : Int) (hd : 1 ≤ d) (he : 1 ≤ e) (c1 : Int.gcd n d = 1) (c2 : Int.gcd m e = 1) :
    mulN n d m e = redN (n * m) (d * e) ∧ mulD n d m e = redD (n * m) (d * e) := by
  have g := gcd_pos' n he
  have h := gcd_pos' m hd
  have a1 := redN_mul n e
  have a2 := redD_mul n e
  have b1 := redN_mul m d
  have b2 := redD_mul m d
  have k1 := red_coprime n he
  have k2 := red_coprime m hd
  change redN n e * redN m d = _ ∧ redD m d * redD n e = _
  have p1 := redD_pos n he
  have p2 := redD_pos m hd
  generalize redN n e = a at *
  generalize redD n e = b at *
  generalize redN m d = c at *
  generalize redD m d = f at *
  generalize ((Int.gcd n e : Nat) : Int) = k at *
  generalize ((Int.gcd m d : Nat) : Int) = l at *
  have q1 : Int.gcd a f = 1 := coprime_part a1.symm b2.symm c1
  have q2 : Int.gcd c b = 1 := coprime_part b1.symm a2.symm c2
  have q : Int.gcd (a * c) (f * b) = 1 := by
    rw [Int.gcd_comm]
    exact coprime_mul (by rw [Int.gcd_comm]; exact coprime_mul q1 k2) (by rw [Int.gcd_comm]; exact coprime_mul k1 q2)
  have x1 : n * m = k * l * (a * c) := by rw [← a1, ← b1, mul4]
  have x2 : d * e = k * l * (f * b) := by rw [← a2, ← b2, mul4, Int.mul_comm l k]
  have s := red_scale (k * l) (a * c) (f * b) (Int.mul_pos (by omega) (by omega)) (Int.mul_pos (by omega) (by omega))
  have r := red_of_coprime _ _ q
  rw [x1, x2, s.1, s.2, r.1, r.2]
  exact ⟨rfl, rfl⟩

theorem mul_red (n d m e : Int) (hd : 1 ≤ d) (he : 1 ≤ e) :
    mulN (redN n d) (redD n d) (redN m e) (redD m e) = redN (n * m) (d * e) ∧ mulD (redN n d) (redD n d) (redN m e) (redD m e) = redD (n * m) (d * e) := by
  have a := mul_low (redN n d) (redD n d) (redN m e) (redD m e) (redD_pos n hd) (redD_pos m he) (red_coprime n hd) (red_coprime m he)
  have g := gcd_pos' n hd
  have h := gcd_pos' m he
  have a1 := redN_mul n d
  have a2 := redD_mul n d
  have b1 := redN_mul m e
  have b2 := redD_mul m e
  have p1 := redD_pos n hd
  have p2 := redD_pos m he
  rw [a.1, a.2]
  clear a
  generalize redN n d = n1 at *
  generalize redD n d = d1 at *
  generalize redN m e = m1 at *
  generalize redD m e = e1 at *
  generalize ((Int.gcd n d : Nat) : Int) = k at *
  generalize ((Int.gcd m e : Nat) : Int) = l at *
  have s := red_scale (k * l) (n1 * m1) (d1 * e1) (Int.mul_pos (by omega) (by omega)) (Int.mul_pos (by omega) (by omega))
  have x1 : n * m = k * l * (n1 * m1) := by rw [← a1, ← b1, mul4]
  have x2 : d * e = k * l * (d1 * e1) := by rw [← a2, ← b2, mul4]
  rw [x1, x2, s.1, s.2]
  exact ⟨rfl, rfl⟩

end Go.Proofs.Ytmlkdfieakihlaa.Ex
