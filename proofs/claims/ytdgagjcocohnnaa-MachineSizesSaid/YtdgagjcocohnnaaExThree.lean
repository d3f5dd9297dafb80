/-
  The document's own small functions of layer 1: size, plus, minus, less, whole.
  The document's own product of two words, and its gcd.
  Arithmetic of the document's own long division, bit by bit.
  The document's own long division.
  The document's own long division: the walk.
  The document's own Floor.
  The document's own Round.
-/
import Derived.Test.YtdgagjcocohnnaaExOne
import Derived.Test.YtdgagjcocohnnaaExTwo
namespace Go.Proofs.Ytdgagjcocohnnaa.Ex
open Go.RowKit

def ab (n : Int) : Int := if n < 0 then -n else n
theorem size_ref (n : Int) (hn : -9223372036854775808 ≤ n ∧ n ≤ 9223372036854775807) (w : World) :
    Calls Try.prog 86 #[.int .i64 n] w fun e w' => e = .returned (.int .u64 (ab n)) ∧ w = w' := by
  have h1 : n < 0 → IntKind.u64.wrap (-(IntKind.u64.wrap n)) = ab n := fun h => by unfold ab; rw [IntKind.wrap_u64, IntKind.wrap_u64]; rw [if_pos h]; omega
  have h2 : ¬ n < 0 → IntKind.u64.wrap n = ab n := fun h => by unfold ab; rw [IntKind.wrap_u64]; rw [if_neg h]; omega
  go_enter Try.func86, Try.ntmps86
  rcases Int.lt_or_le n 0 with h | h
  · go_wp2; go_ret; exact ⟨rfl, rfl⟩
  · go_wp2; go_ret; exact ⟨rfl, rfl⟩

def WhB (neg : Bool) (x : Int) : Bool := if neg then decide (x ≤ 9223372036854775808) else decide (x ≤ 9223372036854775807)
def WhI (neg : Bool) (x : Int) : Int := if WhB neg x then (if neg then -x else x) else 0
theorem whole_ref (neg : Bool) (x : Int) (hx : 0 ≤ x ∧ x < 340282366920938463463374607431768211456) (w : World) :
    Calls Try.prog 87 #[.bool neg, wideV x] w fun e w' => e = .returned (.tuple #[.int .i64 (WhI neg x), .bool (WhB neg x)]) ∧ Below w.heap.size w w' := by
  have H := Lib.hid hx
  clear hx
  obtain ⟨hx0, hx1⟩ := hiW_bd x
  obtain ⟨lx0, lx1⟩ := loW_bd x
  unfold wideV
  generalize hx : hiW x = a at *
  generalize lx : loW x = f at *
  have K := Lib.hid (And.intro hx lx)
  clear hx lx
  have Z : a = 0 → f = x := fun h => by obtain ⟨k1, k2⟩ := K.out; have := H.out; rw [← k1] at h; rw [← k2]; unfold hiW at h; unfold loW; omega
  have B : 0 < a → 18446744073709551616 ≤ x := fun h => by obtain ⟨k1, k2⟩ := K.out; have := H.out; rw [← k1] at h; unfold hiW at h; omega
  rcases Int.lt_or_eq_of_le hx0 with h0 | h0
  · have nB : WhB neg x = false := by unfold WhB; have := B h0; split <;> exact decide_eq_false (by omega)
    have nI : WhI neg x = 0 := by unfold WhI; rw [nB]; rfl
    rw [nB, nI]
    have hne : (a == 0) = false := beq_eq_false_iff_ne.2 (by omega)
    clear Z B K H nB nI
    cases neg <;>
    (go_enter Try.func87, Try.ntmps87
     go_wp2
     go_ret2
     exact ⟨rfl, by go_grown⟩)
  · subst h0
    have e := Z rfl
    subst e
    clear Z B K H
    cases neg
    · rcases Int.lt_or_le 9223372036854775807 f with h1 | h1
      · have nB : WhB false f = false := by unfold WhB; exact decide_eq_false (by omega)
        have nI : WhI false f = 0 := by unfold WhI; rw [nB]; rfl
        rw [nB, nI]
        go_enter Try.func87, Try.ntmps87
        go_wp2
        go_ret2
        exact ⟨rfl, by go_grown⟩
      · have nB : WhB false f = true := by unfold WhB; exact decide_eq_true (by omega)
        have nI : WhI false f = f := by unfold WhI; rw [nB]; rfl
        rw [nB, nI]
        have hw : IntKind.i64.wrap f = f := by rw [IntKind.wrap_i64]; omega
        go_enter Try.func87, Try.ntmps87
        go_wp2
        go_ret2
        exact ⟨rfl, by go_grown⟩
    · rcases Int.lt_or_le 9223372036854775808 f with h1 | h1
      · have nB : WhB true f = false := by unfold WhB; exact decide_eq_false (by omega)
        have nI : WhI true f = 0 := by unfold WhI; rw [nB]; rfl
        rw [nB, nI]
        go_enter Try.func87, Try.ntmps87
        go_wp2
        go_ret2
        exact ⟨rfl, by go_grown⟩
      · have nB : WhB true f = true := by unfold WhB; exact decide_eq_true (by omega)
        have nI : WhI true f = -f := by unfold WhI; rw [nB]; rfl
        rw [nB, nI]
        have hw : IntKind.i64.wrap (IntKind.u64.wrap (-f)) = -f := by rw [IntKind.wrap_i64, IntKind.wrap_u64]; omega
        go_enter Try.func87, Try.ntmps87
        go_wp2
        go_ret2
        exact ⟨rfl, by go_grown⟩
end Go.Proofs.Ytdgagjcocohnnaa.Ex
namespace Go.Proofs.Ytdgagjcocohnnaa.Ex
open Go.RowKit

end Go.Proofs.Ytdgagjcocohnnaa.Ex
namespace Go.Proofs.Ytdgagjcocohnnaa.Ex

theorem nat_and_bit (W s : Nat) : W &&& 2 ^ s = W / 2 ^ s % 2 * 2 ^ s := by
  have hb := Nat.testBit_eq_decide_div_mod_eq (x := W) (i := s)
  have hr : W / 2 ^ s % 2 < 2 := Nat.mod_lt _ (by omega)
  by_cases h : W / 2 ^ s % 2 = 1
  · rw [h, Nat.one_mul]
    apply Nat.eq_of_testBit_eq
    intro j
    rw [Nat.testBit_and, Nat.testBit_two_pow]
    by_cases e : s = j
    · subst e; rw [hb]; simp [h]
    · simp [e]
  · have z : W / 2 ^ s % 2 = 0 := by omega
    rw [z, Nat.zero_mul]
    apply Nat.eq_of_testBit_eq
    intro j
    rw [Nat.testBit_and, Nat.testBit_two_pow]
    by_cases e : s = j
    · subst e; rw [hb]; simp [h]
    · simp [e]
theorem and_bit (W s : Nat) (hW : W < 18446744073709551616) (hs : s < 64) : bits .and .u64 (W : Int) ((2 ^ s : Nat) : Int) = ((W / 2 ^ s % 2 * 2 ^ s : Nat) : Int) := by
  have hp : 2 ^ s < 18446744073709551616 := Nat.pow_lt_pow_right (a := 2) (by omega) hs
  rw [bits_and_u64_nat W (2 ^ s) hW hp, nat_and_bit]

theorem or_bit (m s : Nat) (hm : m * 2 ^ (s + 1) + 2 ^ s < 18446744073709551616) : bits .or .u64 ((m * 2 ^ (s + 1) : Nat) : Int) ((2 ^ s : Nat) : Int) = ((m * 2 ^ (s + 1) + 2 ^ s : Nat) : Int) := by
  have hp : 2 ^ s < 2 ^ (s + 1) := Nat.pow_lt_pow_right (by omega) (by omega)
  rw [bits_or_u64_nat (m * 2 ^ (s + 1)) (2 ^ s) (by omega) (by omega), Nat.mul_comm m, Nat.two_pow_add_eq_or_of_lt hp]

/-- One round: the next bit of the dividend goes behind the rest. -/
theorem div_round (X Y i : Nat) (hY : 1 ≤ Y) :
    let r := X / 2 ^ (i + 1) % Y
    let t := 2 * r + X / 2 ^ i % 2
    t < 2 * Y ∧ (t < Y → X / 2 ^ i % Y = t ∧ X / 2 ^ i / Y * 2 ^ i = X / 2 ^ (i + 1) / Y * 2 ^ (i + 1)) ∧
      (Y ≤ t → X / 2 ^ i % Y = t - Y ∧ X / 2 ^ i / Y * 2 ^ i = X / 2 ^ (i + 1) / Y * 2 ^ (i + 1) + 2 ^ i) := by
  intro r t
  have hT : X / 2 ^ (i + 1) = X / 2 ^ i / 2 := by rw [Nat.pow_succ, Nat.div_div_eq_div_mul]
  have hr : r < Y := Nat.mod_lt _ hY
  have hd := Nat.div_add_mod (X / 2 ^ (i + 1)) Y
  have hb : X / 2 ^ i % 2 < 2 := Nat.mod_lt _ (by omega)
  have hx : X / 2 ^ i = Y * (2 * (X / 2 ^ (i + 1) / Y)) + t := by
    have e : X / 2 ^ i = 2 * (X / 2 ^ (i + 1)) + X / 2 ^ i % 2 := by rw [hT]; omega
    have f : Y * (2 * (X / 2 ^ (i + 1) / Y)) = 2 * (Y * (X / 2 ^ (i + 1) / Y)) := by rw [← Nat.mul_assoc, Nat.mul_comm Y 2, Nat.mul_assoc]
    rw [f]; show _ = _ + (2 * (X / 2 ^ (i + 1) % Y) + _); omega
  refine ⟨by show 2 * r + _ < _; omega, fun h => ?_, fun h => ?_⟩
  · constructor
    · rw [hx, Nat.mul_add_mod, Nat.mod_eq_of_lt h]
    · rw [hx, Nat.mul_add_div (by omega), Nat.div_eq_of_lt h, Nat.pow_succ, Nat.add_zero, Nat.mul_comm 2, Nat.mul_assoc, Nat.mul_comm 2]
  · have e : t = Y * 1 + (t - Y) := by omega
    have l : t - Y < Y := by have : t < 2 * Y := by { show 2 * r + _ < _; omega }; omega
    constructor
    · rw [hx, e, Nat.mul_add_mod, Nat.mul_add_mod, Nat.mod_eq_of_lt l]; omega
    · have g : X / 2 ^ i / Y = 2 * (X / 2 ^ (i + 1) / Y) + 1 := by
        rw [hx, Nat.mul_add_div (by omega)]; congr 1
        rw [e, Nat.mul_add_div (by omega), Nat.div_eq_of_lt l]
      rw [g, Nat.add_mul, Nat.pow_succ, Nat.one_mul, Nat.mul_comm 2, Nat.mul_assoc, Nat.mul_comm 2]

/-- The quotient's bits that are there behind the rounds down to k. -/
def qN (p y k : Nat) : Nat := p / 2 ^ k / y * 2 ^ k

theorem qN_le (p y k : Nat) : qN p y k ≤ p := by
  unfold qN
  have h1 : p / 2 ^ k / y * 2 ^ k ≤ p / 2 ^ k * 2 ^ k := Nat.mul_le_mul_right _ (Nat.div_le_self _ _)
  have h2 : p / 2 ^ k * 2 ^ k ≤ p := Nat.div_mul_le_self _ _
  omega

theorem low_word (T i : Nat) (hi : i < 64) :
    (T * 2 ^ (i + 1) + 2 ^ i) / 18446744073709551616 = T * 2 ^ (i + 1) / 18446744073709551616 ∧
    ∃ m, T * 2 ^ (i + 1) % 18446744073709551616 = m * 2 ^ (i + 1) ∧ m * 2 ^ (i + 1) + 2 ^ i < 18446744073709551616 ∧ (T * 2 ^ (i + 1) + 2 ^ i) % 18446744073709551616 = m * 2 ^ (i + 1) + 2 ^ i := by
  have hM : 18446744073709551616 = 2 ^ (63 - i) * 2 ^ (i + 1) := by rw [← Nat.pow_add, show 63 - i + (i + 1) = 64 by omega]
  have e : T * 2 ^ (i + 1) % 18446744073709551616 = T % 2 ^ (63 - i) * 2 ^ (i + 1) := by rw [hM, Nat.mul_mod_mul_right]
  have hT : T % 2 ^ (63 - i) < 2 ^ (63 - i) := Nat.mod_lt _ (Nat.pow_pos (by omega))
  have l : (T % 2 ^ (63 - i) + 1) * 2 ^ (i + 1) ≤ 2 ^ (63 - i) * 2 ^ (i + 1) := Nat.mul_le_mul_right _ hT
  rw [← hM, Nat.add_mul, Nat.one_mul] at l
  have s : 2 ^ i < 2 ^ (i + 1) := Nat.pow_lt_pow_right (by omega) (by omega)
  refine ⟨?_, T % 2 ^ (63 - i), e, by omega, ?_⟩ <;>
  · generalize T % 2 ^ (63 - i) * 2 ^ (i + 1) = m at *
    generalize T * 2 ^ (i + 1) = q at *
    generalize 2 ^ (i + 1) = u at *
    generalize 2 ^ i = v at *
    clear hM hT
    omega

theorem high_word (T s : Nat) :
    (T * 2 ^ (64 + s + 1) + 2 ^ (64 + s)) / 18446744073709551616 = T * 2 ^ (s + 1) + 2 ^ s ∧ (T * 2 ^ (64 + s + 1) + 2 ^ (64 + s)) % 18446744073709551616 = 0 ∧
    T * 2 ^ (64 + s + 1) / 18446744073709551616 = T * 2 ^ (s + 1) ∧ T * 2 ^ (64 + s + 1) % 18446744073709551616 = 0 := by
  have a : 2 ^ (64 + s) = 2 ^ s * 18446744073709551616 := by rw [Nat.pow_add, Nat.mul_comm]
  have b : T * 2 ^ (64 + s + 1) = T * 2 ^ (s + 1) * 18446744073709551616 := by rw [show 64 + s + 1 = (s + 1) + 64 by omega, Nat.pow_add, Nat.mul_assoc]
  rw [a, b]
  generalize T * 2 ^ (s + 1) = u
  generalize 2 ^ s = v
  refine ⟨by omega, by omega, by omega, by omega⟩

theorem low_bit (p i : Nat) (hi : i < 64) : p % 18446744073709551616 / 2 ^ i % 2 = p / 2 ^ i % 2 := by
  have hM : 18446744073709551616 = 2 ^ i * 2 ^ (64 - i) := by rw [← Nat.pow_add, show i + (64 - i) = 64 by omega]
  have h2 : (2 : Nat) ∣ 2 ^ (64 - i) := ⟨2 ^ (63 - i), by rw [Nat.mul_comm, ← Nat.pow_succ, show (63 - i).succ = 64 - i by omega]⟩
  rw [hM, Nat.mod_mul_right_div_self, Nat.mod_mod_of_dvd _ h2]
theorem high_bit (p s : Nat) : p / 18446744073709551616 / 2 ^ s % 2 = p / 2 ^ (64 + s) % 2 := by
  rw [Nat.pow_add, ← Nat.div_div_eq_div_mul]
end Go.Proofs.Ytdgagjcocohnnaa.Ex
namespace Go.Proofs.Ytdgagjcocohnnaa.Ex
open Go.RowKit

/-- What the loop holds ahead of the round for bit k - 1. -/
structure DivOk (p y k : Nat) (qh ql r : Int) : Prop where
  rest : r = ((p / 2 ^ k % y : Nat) : Int)
  high : qh = ((qN p y k / 18446744073709551616 : Nat) : Int)
  low : ql = ((qN p y k % 18446744073709551616 : Nat) : Int)

theorem step_bit (p y i : Nat) (hy : 1 ≤ y ∧ y ≤ 9223372036854775808) (W s : Nat) (hW : W < 18446744073709551616) (hs : s < 64) (hb : W / 2 ^ s % 2 = p / 2 ^ i % 2) (r : Int) (hr : r = ((p / 2 ^ (i + 1) % y : Nat) : Int)) :
    (bits .and .u64 (W : Int) ((2 ^ s : Nat) : Int) = 0 ∧ IntKind.u64.wrap (2 * r) = 2 * r ∧ 2 * r = ((2 * (p / 2 ^ (i + 1) % y) + p / 2 ^ i % 2 : Nat) : Int)) ∨ (bits .and .u64 (W : Int) ((2 ^ s : Nat) : Int) ≠ 0 ∧ IntKind.u64.wrap (2 * r) = 2 * r ∧ IntKind.u64.wrap (2 * r + 1) = 2 * r + 1 ∧ 2 * r + 1 = ((2 * (p / 2 ^ (i + 1) % y) + p / 2 ^ i % 2 : Nat) : Int)) := by
  have l : p / 2 ^ (i + 1) % y < y := Nat.mod_lt _ hy.1
  have p0 : 0 < 2 ^ s := Nat.pow_pos (by omega)
  rw [and_bit W s hW hs, hb]
  have c : p / 2 ^ i % 2 < 2 := Nat.mod_lt _ (by omega)
  generalize p / 2 ^ (i + 1) % y = t at *
  generalize p / 2 ^ i % 2 = b at *
  generalize 2 ^ s = u at *
  simp only [IntKind.wrap_u64]
  rcases Nat.lt_or_ge b 1 with h | h
  · have : b = 0 := by omega
    subst this
    exact .inl ⟨by simp, by omega, by omega⟩
  · have : b = 1 := by omega
    subst this
    exact .inr ⟨by simp; omega, by omega, by omega, by omega⟩

theorem step_low (p y i : Nat) (hi : i < 64) (hy : 1 ≤ y) (qh ql r : Int) (h : DivOk p y (i + 1) qh ql r) :
    let t : Int := ((2 * (p / 2 ^ (i + 1) % y) + p / 2 ^ i % 2 : Nat) : Int)
    (t < y → DivOk p y i qh ql t) ∧ ((y : Int) ≤ t → DivOk p y i qh (bits .or .u64 ql ((2 ^ i : Nat) : Int)) (t - y)) := by
  intro t
  obtain ⟨a0, a1, a2⟩ := div_round p y i hy
  obtain ⟨b0, m, b1, b2, b3⟩ := low_word (p / 2 ^ (i + 1) / y) i hi
  refine ⟨fun k => ?_, fun k => ?_⟩
  · obtain ⟨e1, e2⟩ := a1 (by show _ < y; omega)
    refine ⟨by rw [e1], ?_, ?_⟩
    · rw [h.high]; unfold qN; rw [e2]
    · rw [h.low]; unfold qN; rw [e2]
  · obtain ⟨e1, e2⟩ := a2 (by show y ≤ _; omega)
    refine ⟨by rw [e1]; show _ - _ = _; omega, ?_, ?_⟩
    · rw [h.high]; unfold qN; rw [e2, b0]
    · rw [h.low]; unfold qN; rw [e2, b3, b1, or_bit m i b2]

theorem step_high (p y s : Nat) (_hs : s < 64) (hp : p < 340282366920938463463374607431768211456) (hy : 1 ≤ y) (qh ql r : Int) (h : DivOk p y (64 + s + 1) qh ql r) :
    let t : Int := ((2 * (p / 2 ^ (64 + s + 1) % y) + p / 2 ^ (64 + s) % 2 : Nat) : Int)
    (t < y → DivOk p y (64 + s) qh ql t) ∧ ((y : Int) ≤ t → DivOk p y (64 + s) (bits .or .u64 qh ((2 ^ s : Nat) : Int)) ql (t - y)) := by
  intro t
  obtain ⟨a0, a1, a2⟩ := div_round p y (64 + s) hy
  obtain ⟨b0, b1, b2, b3⟩ := high_word (p / 2 ^ (64 + s + 1) / y) s
  refine ⟨fun k => ?_, fun k => ?_⟩
  · obtain ⟨e1, e2⟩ := a1 (by show _ < y; omega)
    refine ⟨by rw [e1], ?_, ?_⟩
    · rw [h.high]; unfold qN; rw [e2]
    · rw [h.low]; unfold qN; rw [e2]
  · obtain ⟨e1, e2⟩ := a2 (by show y ≤ _; omega)
    have le := qN_le p y (64 + s)
    unfold qN at le
    rw [e2] at le
    refine ⟨by rw [e1]; show _ - _ = _; omega, ?_, ?_⟩
    · rw [h.high]; unfold qN; rw [e2, b0, b2, or_bit _ s (by omega)]
    · rw [h.low]; unfold qN; rw [e2, b1, b3]
end Go.Proofs.Ytdgagjcocohnnaa.Ex
namespace Go.Proofs.Ytdgagjcocohnnaa.Ex
open Go.RowKit

end Go.Proofs.Ytdgagjcocohnnaa.Ex
namespace Go.Proofs.Ytdgagjcocohnnaa.Ex
open Go.RowKit

theorem wh_is (neg : Bool) (q : Int) (hq : 0 ≤ q) : WhI neg q = outI (if neg then -q else q) ∧ WhB neg q = fits (if neg then -q else q) := by
  have e : WhB neg q = fits (if neg then -q else q) := by
    unfold WhB fits
    cases neg
    · apply decide_eq_decide.2; simp; omega
    · apply decide_eq_decide.2; simp; omega
  refine ⟨?_, e⟩
  unfold WhI outI
  rw [e]

theorem neg_div (A D : Int) (hD : 0 < D) : (-A) / D = if A % D = 0 then -(A / D) else -(A / D + 1) := by
  have h1 := Int.mul_ediv_add_emod A D
  have h2 := Int.emod_nonneg A (show D ≠ 0 by omega)
  have h3 := Int.emod_lt_of_pos A hD
  split
  · rename_i h
    rw [h] at h1
    have : -A = -(A / D) * D := by rw [Int.neg_mul, Int.mul_comm]; omega
    rw [this, Int.mul_ediv_cancel _ (by omega)]
  · rename_i h
    have : -A = (D - A % D) + -(A / D + 1) * D := by rw [Int.neg_mul, Int.add_mul, Int.mul_comm (A / D)]; omega
    rw [this, Int.add_mul_ediv_right _ _ (by omega), Int.ediv_eq_zero_of_lt (by omega) (by omega), Int.zero_add]

theorem floor_ab (a b : Int) (h0 : b ≠ 0) :
    floorQ a b = if decide (a < 0) != decide (b < 0) then (if ab a % ab b = 0 then -(ab a / ab b) else -(ab a / ab b + 1)) else ab a / ab b := by
  unfold floorQ
  have P : ∀ x : Int, 0 ≤ x → ab x = x := fun x hx => if_neg (by omega)
  have N : ∀ x : Int, x < 0 → ab x = -x := fun x hx => if_pos hx
  rcases Int.lt_or_le b 0 with h | h
  · rw [sgn_neg h, show a * -1 = -a by omega, show b * -1 = -b by omega, N b h, decide_eq_true h]
    rcases Int.lt_or_le a 0 with k | k
    · rw [N a k, decide_eq_true k]; rfl
    · rw [P a k, decide_eq_false (show ¬ a < 0 by omega)]; exact neg_div a (-b) (by omega)
  · rw [sgn_pos (show 0 < b by omega), Int.mul_one, Int.mul_one, P b h, decide_eq_false (show ¬ b < 0 by omega)]
    rcases Int.lt_or_le a 0 with k | k
    · rw [N a k, decide_eq_true k]
      have := neg_div (-a) b (by omega)
      rw [Int.neg_neg] at this
      exact this
    · rw [P a k, decide_eq_false (show ¬ a < 0 by omega)]; rfl

set_option maxHeartbeats 1000000 in
theorem floor_ref (a b : Int) (ha : -9223372036854775808 ≤ a ∧ a ≤ 9223372036854775807) (hb : -9223372036854775808 ≤ b ∧ b ≤ 9223372036854775807) (w : World) :
    Calls Try.prog 83 #[.int .i64 a, .int .i64 b] w fun e w' => e = .returned (.tuple #[.int .i64 (FlI a b), .bool (FlB a b)]) ∧ Below w.heap.size w w' := by
  by_cases h0 : b = 0
  · subst h0
    go_enter Try.func83, Try.ntmps83
    go_wp2
    go_ret2
    exact ⟨rfl, Below.refl _ _⟩
  · have hne : (b == 0) = false := beq_eq_false_iff_ne.2 h0
    have K : Hid (FlI a b = outI (floorQ a b) ∧ FlB a b = fits (floorQ a b)) := Lib.hid ⟨if_neg h0, if_neg h0⟩
    have Q := floor_ab a b h0
    have bd1 : 1 ≤ ab b ∧ ab b ≤ 9223372036854775808 := by unfold ab; split <;> omega
    have ba1 : 0 ≤ ab a ∧ ab a ≤ 9223372036854775808 := by unfold ab; split <;> omega
    have sa : ∀ w, Calls Try.prog 86 #[.int .i64 a] w fun e w' => e = .returned (.int .u64 (ab a)) ∧ w = w' := fun w => size_ref a ha w
    have sb : ∀ w, Calls Try.prog 86 #[.int .i64 b] w fun e w' => e = .returned (.int .u64 (ab b)) ∧ w = w' := fun w => size_ref b hb w
    have q0 := Int.ediv_nonneg ba1.1 (show 0 ≤ ab b by omega)
    have q1 := Int.ediv_le_self (ab b) ba1.1
    have m0 := Int.emod_nonneg (ab a) (show ab b ≠ 0 by omega)
    have W0 : ∀ q : Int, 0 ≤ q → q ≤ 9223372036854775809 → (.agg #[.int .u64 0, .int .u64 q] : Value) = wideV q := fun q g1 g2 => by
      unfold wideV hiW loW; congr 4
      · congr 1; omega
      · congr 3; omega
    have W := Lib.hid W0
    clear W0
    have QQ := Lib.hid Q
    clear Q
    have V : ∀ (neg : Bool) (q : Int), 0 ≤ q → q ≤ 9223372036854775809 → floorQ a b = (if neg then -q else q) → ∀ w, Calls Try.prog 87 #[.bool neg, .agg #[.int .u64 0, .int .u64 q]] w fun e w' => e = .returned (.tuple #[.int .i64 (FlI a b), .bool (FlB a b)]) ∧ Below w.heap.size w w' := fun neg q g1 g2 g3 w => by
      rw [W.out q g1 g2, K.out.1, K.out.2, g3, ← (wh_is neg q g1).1, ← (wh_is neg q g1).2]
      exact whole_ref neg q (by omega) w
    have VV := Lib.hid V
    clear V
    rcases Int.lt_or_le a 0 with h | h <;> rcases Int.lt_or_le b 0 with k | k
    · have WR := Lib.hid (VV.out false (ab a / ab b) q0 (by omega) (by rw [QQ.out, decide_eq_true h, decide_eq_true k]; rfl))
      go_enter Try.func83, Try.ntmps83
      go_wp2_with fail
      refine (sa _).mono ?_
      rintro e w' ⟨rfl, rfl⟩
      go_wp2_with fail
      refine (sb _).mono ?_
      rintro e w' ⟨rfl, rfl⟩
      go_wp2_with fail
      with_reducible refine (WR.out _).mono ?_
      rintro e w' ⟨rfl, hB⟩
      go_wp2
      go_ret2
      exact ⟨rfl, hB⟩
    · by_cases m : ab a % ab b = 0
      · have WR := Lib.hid (VV.out true (ab a / ab b) q0 (by omega) (by rw [QQ.out, decide_eq_true h, decide_eq_false (show ¬ b < 0 by omega), m]; rfl))
        have da : decide (a < 0) = true := decide_eq_true h
        have db : decide (b < 0) = false := decide_eq_false (show ¬ b < 0 by omega)
        have mt : (ab a % ab b == 0) = true := beq_iff_eq.2 m
        go_enter Try.func83, Try.ntmps83
        go_wp2_with fail
        refine (sa _).mono ?_
        rintro e w' ⟨rfl, rfl⟩
        go_wp2_with fail
        refine (sb _).mono ?_
        rintro e w' ⟨rfl, rfl⟩
        go_wp2_with fail
        refine (sa _).mono ?_
        rintro e w' ⟨rfl, rfl⟩
        go_wp2_with fail
        refine (sb _).mono ?_
        rintro e w' ⟨rfl, rfl⟩
        go_wp2_with fail
        with_reducible refine (WR.out _).mono ?_
        rintro e w' ⟨rfl, hB⟩
        go_wp2
        go_ret2
        exact ⟨rfl, hB⟩
      · have WR := Lib.hid (VV.out true (ab a / ab b + 1) (by omega) (by omega) (by rw [QQ.out, decide_eq_true h, decide_eq_false (show ¬ b < 0 by omega), if_neg m]; rfl))
        have da : decide (a < 0) = true := decide_eq_true h
        have db : decide (b < 0) = false := decide_eq_false (show ¬ b < 0 by omega)
        have mt : (ab a % ab b == 0) = false := beq_eq_false_iff_ne.2 m
        go_enter Try.func83, Try.ntmps83
        go_wp2_with fail
        refine (sa _).mono ?_
        rintro e w' ⟨rfl, rfl⟩
        go_wp2_with fail
        refine (sb _).mono ?_
        rintro e w' ⟨rfl, rfl⟩
        go_wp2_with fail
        refine (sa _).mono ?_
        rintro e w' ⟨rfl, rfl⟩
        go_wp2_with fail
        refine (sb _).mono ?_
        rintro e w' ⟨rfl, rfl⟩
        go_wp2_with fail
        with_reducible refine (WR.out _).mono ?_
        rintro e w' ⟨rfl, hB⟩
        go_wp2
        go_ret2
        exact ⟨rfl, hB⟩
    · by_cases m : ab a % ab b = 0
      · have WR := Lib.hid (VV.out true (ab a / ab b) q0 (by omega) (by rw [QQ.out, decide_eq_false (show ¬ a < 0 by omega), decide_eq_true k, m]; rfl))
        have da : decide (a < 0) = false := decide_eq_false (show ¬ a < 0 by omega)
        have db : decide (b < 0) = true := decide_eq_true k
        have mt : (ab a % ab b == 0) = true := beq_iff_eq.2 m
        go_enter Try.func83, Try.ntmps83
        go_wp2_with fail
        refine (sa _).mono ?_
        rintro e w' ⟨rfl, rfl⟩
        go_wp2_with fail
        refine (sb _).mono ?_
        rintro e w' ⟨rfl, rfl⟩
        go_wp2_with fail
        refine (sa _).mono ?_
        rintro e w' ⟨rfl, rfl⟩
        go_wp2_with fail
        refine (sb _).mono ?_
        rintro e w' ⟨rfl, rfl⟩
        go_wp2_with fail
        with_reducible refine (WR.out _).mono ?_
        rintro e w' ⟨rfl, hB⟩
        go_wp2
        go_ret2
        exact ⟨rfl, hB⟩
      · have WR := Lib.hid (VV.out true (ab a / ab b + 1) (by omega) (by omega) (by rw [QQ.out, decide_eq_false (show ¬ a < 0 by omega), decide_eq_true k, if_neg m]; rfl))
        have da : decide (a < 0) = false := decide_eq_false (show ¬ a < 0 by omega)
        have db : decide (b < 0) = true := decide_eq_true k
        have mt : (ab a % ab b == 0) = false := beq_eq_false_iff_ne.2 m
        go_enter Try.func83, Try.ntmps83
        go_wp2_with fail
        refine (sa _).mono ?_
        rintro e w' ⟨rfl, rfl⟩
        go_wp2_with fail
        refine (sb _).mono ?_
        rintro e w' ⟨rfl, rfl⟩
        go_wp2_with fail
        refine (sa _).mono ?_
        rintro e w' ⟨rfl, rfl⟩
        go_wp2_with fail
        refine (sb _).mono ?_
        rintro e w' ⟨rfl, rfl⟩
        go_wp2_with fail
        with_reducible refine (WR.out _).mono ?_
        rintro e w' ⟨rfl, hB⟩
        go_wp2
        go_ret2
        exact ⟨rfl, hB⟩
    · have WR := Lib.hid (VV.out false (ab a / ab b) q0 (by omega) (by rw [QQ.out, decide_eq_false (show ¬ a < 0 by omega), decide_eq_false (show ¬ b < 0 by omega)]; rfl))
      go_enter Try.func83, Try.ntmps83
      go_wp2_with fail
      refine (sa _).mono ?_
      rintro e w' ⟨rfl, rfl⟩
      go_wp2_with fail
      refine (sb _).mono ?_
      rintro e w' ⟨rfl, rfl⟩
      go_wp2_with fail
      with_reducible refine (WR.out _).mono ?_
      rintro e w' ⟨rfl, hB⟩
      go_wp2
      go_ret2
      exact ⟨rfl, hB⟩
end Go.Proofs.Ytdgagjcocohnnaa.Ex
namespace Go.Proofs.Ytdgagjcocohnnaa.Ex
open Go.RowKit

theorem round_half (a b : Int) (hb : 0 < b) : (2 * a + b) / (2 * b) = if b - a % b ≤ a % b then a / b + 1 else a / b := by
  have h1 := Int.mul_ediv_add_emod a b
  have h2 := Int.emod_nonneg a (show b ≠ 0 by omega)
  have h3 := Int.emod_lt_of_pos a hb
  split
  · have e : 2 * a + b = (2 * (a % b) - b) + (a / b + 1) * (2 * b) := by
      have : (a / b + 1) * (2 * b) = 2 * (b * (a / b)) + 2 * b := by rw [Int.add_mul, Int.mul_left_comm, Int.mul_comm (a / b)]; omega
      omega
    rw [e, Int.add_mul_ediv_right _ _ (by omega), Int.ediv_eq_zero_of_lt (by omega) (by omega), Int.zero_add]
  · have e : 2 * a + b = (2 * (a % b) + b) + (a / b) * (2 * b) := by
      have : (a / b) * (2 * b) = 2 * (b * (a / b)) := by rw [Int.mul_left_comm, Int.mul_comm (a / b)]
      omega
    rw [e, Int.add_mul_ediv_right _ _ (by omega), Int.ediv_eq_zero_of_lt (by omega) (by omega), Int.zero_add]

set_option maxHeartbeats 1000000 in
theorem round_ref (a b : Int) (ha : -9223372036854775808 ≤ a ∧ a ≤ 9223372036854775807) (hb : -9223372036854775808 ≤ b ∧ b ≤ 9223372036854775807) (w : World) :
    Calls Try.prog 84 #[.int .i64 a, .int .i64 b] w fun e w' => e = .returned (.tuple #[.int .i64 (RoI a b), .bool (RoB a b)]) ∧ Below w.heap.size w w' := by
  rcases Int.lt_or_le b 1 with h | h
  · have r1 : RoI a b = 0 := if_pos h
    have r2 : RoB a b = false := if_pos h
    go_enter Try.func84, Try.ntmps84
    go_wp2
    go_ret2
    exact ⟨by (try rw [r1, r2]); rfl, Below.refl _ _⟩
  · have h1 := Int.mul_ediv_add_emod a b
    have h2 := Int.emod_nonneg a (show b ≠ 0 by omega)
    have h3 := Int.emod_lt_of_pos a (show 0 < b by omega)
    have f0 : floorQ a b = a / b := by unfold floorQ; rw [sgn_pos (by omega), Int.mul_one, Int.mul_one]
    have bq : -9223372036854775808 ≤ a / b ∧ a / b ≤ 9223372036854775807 := by
      constructor
      · have : -9223372036854775808 ≤ a / b := by
          apply Int.le_ediv_of_mul_le (by omega)
          have : -9223372036854775808 * b ≤ -9223372036854775808 * 1 := Int.mul_le_mul_of_nonpos_left (by omega) (by omega)
          omega
        exact this
      · apply Int.le_of_lt_add_one
        apply Int.ediv_lt_of_lt_mul (by omega)
        have : 9223372036854775808 * 1 ≤ 9223372036854775808 * b := Int.mul_le_mul_of_nonneg_left (by omega) (by omega)
        omega
    have fF : fits (a / b) = true := decide_eq_true bq
    have F : FlI a b = a / b ∧ FlB a b = true := by
      unfold FlI FlB outI; rw [if_neg (show ¬ b = 0 by omega), if_neg (show ¬ b = 0 by omega), f0, fF]; exact ⟨rfl, rfl⟩
    have FR : ∀ w, Calls Try.prog 83 #[.int .i64 a, .int .i64 b] w fun e w' => e = .returned (.tuple #[.int .i64 (a / b), .bool true]) ∧ Below w.heap.size w w' := fun w => by
      have := floor_ref a b ha hb w
      rw [F.1, F.2] at this; exact this
    have R0 : RoI a b = outI ((2 * a + b) / (2 * b)) ∧ RoB a b = fits ((2 * a + b) / (2 * b)) := ⟨if_neg (by omega), if_neg (by omega)⟩
    rw [round_half a b (by omega)] at R0
    have wm : wrap64 (a - wrap64 (a / b * b)) = a % b := by
      rw [Int.mul_comm b] at h1
      unfold wrap64; omega
    have wb : wrap64 (b - a % b) = b - a % b := by unfold wrap64; omega
    have FH := Lib.hid FR
    clear FR F fF f0
    generalize hm : a % b = m at *
    generalize hq : a / b = q at *
    have HQ := Lib.hid (And.intro h1 (And.intro hm hq))
    clear h1 hm hq
    rcases Int.lt_or_le m (b - m) with k | k
    · have R : RoI a b = q ∧ RoB a b = true := by
        rw [R0.1, R0.2, if_neg (by omega)]; unfold outI; rw [show fits q = true from decide_eq_true bq]; exact ⟨rfl, rfl⟩
      have RH := Lib.hid R
      clear R R0
      go_enter Try.func84, Try.ntmps84
      go_wp2_with fail
      with_reducible refine (FH.out _).mono ?_
      rintro e w' ⟨rfl, hB⟩
      go_wp2
      go_ret2
      exact ⟨by rw [RH.out.1, RH.out.2]; rfl, hB⟩
    · have bq1 : q + 1 ≤ 9223372036854775807 := by
        rcases Int.lt_or_le b 2 with c | c
        · omega
        · have := HQ.out.1
          rcases Int.lt_or_le q 1 with g | g
          · omega
          · have : 2 * q ≤ b * q := Int.mul_le_mul_of_nonneg_right c (by omega)
            omega
      have R : RoI a b = q + 1 ∧ RoB a b = true := by
        rw [R0.1, R0.2, if_pos k]; unfold outI; rw [show fits (q + 1) = true from decide_eq_true (by omega)]; exact ⟨rfl, rfl⟩
      have RH := Lib.hid R
      have wq : wrap64 (q + 1) = q + 1 := by unfold wrap64; omega
      clear R R0
      go_enter Try.func84, Try.ntmps84
      go_wp2_with fail
      with_reducible refine (FH.out _).mono ?_
      rintro e w' ⟨rfl, hB⟩
      go_wp2
      go_ret2
      exact ⟨by rw [RH.out.1, RH.out.2]; rfl, hB⟩
end Go.Proofs.Ytdgagjcocohnnaa.Ex
