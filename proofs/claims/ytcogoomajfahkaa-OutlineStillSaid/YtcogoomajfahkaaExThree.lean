/-
  The document's own small functions of layer 1: size, plus, minus, less, whole.
  The document's own product of two words, and its gcd.
  Arithmetic of the document's own long division, bit by bit.
  The document's own long division.
  The document's own long division: the walk.
  The document's own Floor.
  The document's own Round.
  The document's own MulDiv.
  The walks of layer 1 (exact): Cmp.
  The document's own Cmp and Lowest.
  The document's own Cmp and Lowest, whole.
  The document's own Mul, walked.
  The document's own Sum and Mul of ratios that are not valid; Mul, whole.
-/
import Derived.Test.YtcogoomajfahkaaExOne
import Derived.Test.YtcogoomajfahkaaExTwo
import Derived.Lib.QuietBelow
import Derived.Deep.QuietTactic
import Derived.BigQuiet
import Derived.Deep.RegionHeld3
namespace Go.Proofs.Ytcogoomajfahkaa.Ex
open Go.RowKit

def ab (n : Int) : Int := if n < 0 then -n else n
theorem size_ref (n : Int) (hn : -9223372036854775808 ≤ n ∧ n ≤ 9223372036854775807) (w : World) :
    Calls Try.prog 74 #[.int .i64 n] w fun e w' => e = .returned (.int .u64 (ab n)) ∧ w = w' := by
  have h1 : n < 0 → IntKind.u64.wrap (-(IntKind.u64.wrap n)) = ab n := fun h => by unfold ab; rw [IntKind.wrap_u64, IntKind.wrap_u64]; rw [if_pos h]; omega
  have h2 : ¬ n < 0 → IntKind.u64.wrap n = ab n := fun h => by unfold ab; rw [IntKind.wrap_u64]; rw [if_neg h]; omega
  go_enter Try.func74, Try.ntmps74
  rcases Int.lt_or_le n 0 with h | h
  · go_wp2; go_ret; exact ⟨rfl, rfl⟩
  · go_wp2; go_ret; exact ⟨rfl, rfl⟩

def WhB (neg : Bool) (x : Int) : Bool := if neg then decide (x ≤ 9223372036854775808) else decide (x ≤ 9223372036854775807)
def WhI (neg : Bool) (x : Int) : Int := if WhB neg x then (if neg then -x else x) else 0
theorem whole_ref (neg : Bool) (x : Int) (hx : 0 ≤ x ∧ x < 340282366920938463463374607431768211456) (w : World) :
    Calls Try.prog 75 #[.bool neg, wideV x] w fun e w' => e = .returned (.tuple #[.int .i64 (WhI neg x), .bool (WhB neg x)]) ∧ Below w.heap.size w w' := by
  have H := Lib.hid hx
  clear hx
  obtain ⟨hx0, hx1⟩ := hiW_bd x
  obtain ⟨lx0, lx1⟩ := loW_bd x
  unfold wideV
  generalize hx : hiW x = a at *
  generalize lx : loW x = f at *
  have K := Lib.hid (And.intro hx lx)
  clear hx lx
  have Z : a = 0 → f = x := fun h => by obtain ⟨k1, k2⟩ := K.out; have := H.out; rw [← k1] at h; rw [← k2]; unfold hiW at h; unfold loW; omega
  have B : 0 < a → 18446744073709551616 ≤ x := fun h => by obtain ⟨k1, k2⟩ := K.out; have := H.out; rw [← k1] at h; unfold hiW at h; omega
  rcases Int.lt_or_eq_of_le hx0 with h0 | h0
  · have nB : WhB neg x = false := by unfold WhB; have := B h0; split <;> exact decide_eq_false (by omega)
    have nI : WhI neg x = 0 := by unfold WhI; rw [nB]; rfl
    rw [nB, nI]
    have hne : (a == 0) = false := beq_eq_false_iff_ne.2 (by omega)
    clear Z B K H nB nI
    cases neg <;>
    (go_enter Try.func75, Try.ntmps75
     go_wp2
     go_ret2
     exact ⟨rfl, by go_grown⟩)
  · subst h0
    have e := Z rfl
    subst e
    clear Z B K H
    cases neg
    · rcases Int.lt_or_le 9223372036854775807 f with h1 | h1
      · have nB : WhB false f = false := by unfold WhB; exact decide_eq_false (by omega)
        have nI : WhI false f = 0 := by unfold WhI; rw [nB]; rfl
        rw [nB, nI]
        go_enter Try.func75, Try.ntmps75
        go_wp2
        go_ret2
        exact ⟨rfl, by go_grown⟩
      · have nB : WhB false f = true := by unfold WhB; exact decide_eq_true (by omega)
        have nI : WhI false f = f := by unfold WhI; rw [nB]; rfl
        rw [nB, nI]
        have hw : IntKind.i64.wrap f = f := by rw [IntKind.wrap_i64]; omega
        go_enter Try.func75, Try.ntmps75
        go_wp2
        go_ret2
        exact ⟨rfl, by go_grown⟩
    · rcases Int.lt_or_le 9223372036854775808 f with h1 | h1
      · have nB : WhB true f = false := by unfold WhB; exact decide_eq_false (by omega)
        have nI : WhI true f = 0 := by unfold WhI; rw [nB]; rfl
        rw [nB, nI]
        go_enter Try.func75, Try.ntmps75
        go_wp2
        go_ret2
        exact ⟨rfl, by go_grown⟩
      · have nB : WhB true f = true := by unfold WhB; exact decide_eq_true (by omega)
        have nI : WhI true f = -f := by unfold WhI; rw [nB]; rfl
        rw [nB, nI]
        have hw : IntKind.i64.wrap (IntKind.u64.wrap (-f)) = -f := by rw [IntKind.wrap_i64, IntKind.wrap_u64]; omega
        go_enter Try.func75, Try.ntmps75
        go_wp2
        go_ret2
        exact ⟨rfl, by go_grown⟩
end Go.Proofs.Ytcogoomajfahkaa.Ex
namespace Go.Proofs.Ytcogoomajfahkaa.Ex
open Go.RowKit

theorem product_nat (x y : Nat) (hx : x < 18446744073709551616) (hy : y < 18446744073709551616) (w : World) :
    Calls Try.prog 76 #[.int .u64 x, .int .u64 y] w fun e w' => e = .returned (.agg #[.int .u64 ((x * y / 18446744073709551616 : Nat) : Int), .int .u64 ((x * y % 18446744073709551616 : Nat) : Int)]) ∧ Below w.heap.size w w' := by
  obtain ⟨bd, bt, bw, hhi⟩ := Lib.mul64_hi x y hx hy
  rw [Nat.add_comm _ (x % 4294967296 * (y / 4294967296))] at bw hhi
  have ba := Lib.half_mul_le (a := x / 4294967296) (b := y / 4294967296) (by omega) (by omega)
  have bb := Lib.half_mul_le (a := x / 4294967296) (b := y % 4294967296) (by omega) (by omega)
  have bc := Lib.half_mul_le (a := x % 4294967296) (b := y / 4294967296) (by omega) (by omega)
  have ba' : x / 4294967296 * (y / 4294967296) < 18446744073709551616 := by omega
  have bb' : x / 4294967296 * (y % 4294967296) < 18446744073709551616 := by omega
  have bc' : x % 4294967296 * (y / 4294967296) < 18446744073709551616 := by omega
  have bh1 : x / 4294967296 * (y / 4294967296) + (x / 4294967296 * (y % 4294967296) + x % 4294967296 * (y % 4294967296) / 4294967296) / 4294967296 < 18446744073709551616 := by omega
  have bh : x / 4294967296 * (y / 4294967296) + (x / 4294967296 * (y % 4294967296) + x % 4294967296 * (y % 4294967296) / 4294967296) / 4294967296 + (x % 4294967296 * (y / 4294967296) + (x / 4294967296 * (y % 4294967296) + x % 4294967296 * (y % 4294967296) / 4294967296) % 4294967296) / 4294967296 < 18446744073709551616 := by omega
  have H := Lib.hid hhi
  clear hhi
  go_enter Try.func76, Try.ntmps76
  go_wp2
  simp only [maskN x hx, maskN y hy, divN, ← Int.natCast_mul, ← Int.natCast_add, wrapN _ bd, wrapN _ bb', wrapN _ bt, maskN _ bt, wrapN _ bc', wrapN _ bw, wrapN _ ba', wrapN _ bh1, wrapN _ bh, wrapM (x * y)]
  rw [H.out]
  go_returns
  exact ⟨rfl, by go_grown⟩

theorem product_ref (x y : Int) (hx : 0 ≤ x ∧ x < 18446744073709551616) (hy : 0 ≤ y ∧ y < 18446744073709551616) (w : World) :
    Calls Try.prog 76 #[.int .u64 x, .int .u64 y] w fun e w' => e = .returned (wideV (x * y)) ∧ Below w.heap.size w w' := by
  obtain ⟨a, rfl⟩ := Int.eq_ofNat_of_zero_le hx.1
  obtain ⟨b, rfl⟩ := Int.eq_ofNat_of_zero_le hy.1
  have h := product_nat a b (by omega) (by omega) w
  have e : wideV ((a : Int) * b) = .agg #[.int .u64 ((a * b / 18446744073709551616 : Nat) : Int), .int .u64 ((a * b % 18446744073709551616 : Nat) : Int)] := by
    have k : a * b ≤ 18446744073709551615 * 18446744073709551615 := Nat.mul_le_mul (by omega) (by omega)
    have c : ((a : Int) * b) = ((a * b : Nat) : Int) := by simp
    rw [c]
    unfold wideV hiW loW
    generalize a * b = p at *
    congr 3
    · congr 1; omega
  rw [e]; exact h

theorem gcd_ref (a b : Int) (ha : 0 ≤ a ∧ a ≤ 18446744073709551615) (hb : 0 ≤ b ∧ b ≤ 18446744073709551615) (w : World) :
    Calls Try.prog 73 #[.int .u64 a, .int .u64 b] w fun e w' => e = .returned (.int .u64 (Int.gcd a b)) ∧ Below w.heap.size w w' := by
  obtain ⟨ha0, ha1⟩ := ha
  obtain ⟨hb0, hb1⟩ := hb
  go_enter Try.func73, Try.ntmps73
  go_wp2
  go_loopw [0, 1] (fun s0 s1 wr => ∃ x y : Int, s0 = .int .u64 x ∧ s1 = .int .u64 y ∧ 0 ≤ x ∧ x ≤ 18446744073709551615 ∧ 0 ≤ y ∧ y ≤ 18446744073709551615 ∧ Hid (Int.gcd x y = Int.gcd a b) ∧ Below w.heap.size w wr) (fun _ s1 _ => (intOf s1).natAbs)
  case atStart => exact ⟨a, b, rfl, rfl, by omega, by omega, by omega, by omega, Lib.hid rfl, Below.refl _ _⟩
  case round =>
    obtain ⟨x, y, rfl, rfl, x0, x1, y0, y1, hG, hB⟩ := hrel
    by_cases h : y = 0
    · subst h
      have hx : Hid (x.natAbs = Int.gcd a b) := Lib.hid (by rw [← hG.out, Int.gcd_zero_right])
      go_wp2
      go_ret
      exact ⟨congrArg (fun n : Int => Ending.returned (Value.int .u64 n)) (show x = _ by have := hx.out; omega), hB⟩
    · have hne : (y == 0) = false := beq_eq_false_iff_ne.2 h
      have hne' : (y != 0) = true := bne_iff_ne.2 h
      have hG2 := Lib.hid ((gcd_emod x y x0).trans hG.out)
      have e0 := Int.emod_nonneg x h
      have e1 := Int.emod_lt_of_pos x (show 0 < y by omega)
      have t0 : (x % y).natAbs < y.natAbs := by have := Int.emod_lt_of_pos x (show 0 < y by omega); have := Int.emod_nonneg x h; omega
      go_wp2_with fail
      go_quiet (fail)
      go_wp2
      go_roundw
      case rel => exact ⟨y, x % y, rfl, rfl, by omega, by omega, by omega, by omega, hG2, bd hB _⟩
      case measure => simpa [intOf] using t0

end Go.Proofs.Ytcogoomajfahkaa.Ex
namespace Go.Proofs.Ytcogoomajfahkaa.Ex

theorem nat_and_bit (W s : Nat) : W &&& 2 ^ s = W / 2 ^ s % 2 * 2 ^ s := by
  have hb := Nat.testBit_eq_decide_div_mod_eq (x := W) (i := s)
  have hr : W / 2 ^ s % 2 < 2 := Nat.mod_lt _ (by omega)
  by_cases h : W / 2 ^ s % 2 = 1
  · rw [h, Nat.one_mul]
    apply Nat.eq_of_testBit_eq
    intro j
    rw [Nat.testBit_and, Nat.testBit_two_pow]
    by_cases e : s = j
    · subst e; rw [hb]; simp [h]
    · simp [e]
  · have z : W / 2 ^ s % 2 = 0 := by omega
    rw [z, Nat.zero_mul]
    apply Nat.eq_of_testBit_eq
    intro j
    rw [Nat.testBit_and, Nat.testBit_two_pow]
    by_cases e : s = j
    · subst e; rw [hb]; simp [h]
    · simp [e]
theorem and_bit (W s : Nat) (hW : W < 18446744073709551616) (hs : s < 64) : bits .and .u64 (W : Int) ((2 ^ s : Nat) : Int) = ((W / 2 ^ s % 2 * 2 ^ s : Nat) : Int) := by
  have hp : 2 ^ s < 18446744073709551616 := Nat.pow_lt_pow_right (a := 2) (by omega) hs
  rw [bits_and_u64_nat W (2 ^ s) hW hp, nat_and_bit]

theorem or_bit (m s : Nat) (hm : m * 2 ^ (s + 1) + 2 ^ s < 18446744073709551616) : bits .or .u64 ((m * 2 ^ (s + 1) : Nat) : Int) ((2 ^ s : Nat) : Int) = ((m * 2 ^ (s + 1) + 2 ^ s : Nat) : Int) := by
  have hp : 2 ^ s < 2 ^ (s + 1) := Nat.pow_lt_pow_right (by omega) (by omega)
  rw [bits_or_u64_nat (m * 2 ^ (s + 1)) (2 ^ s) (by omega) (by omega), Nat.mul_comm m, Nat.two_pow_add_eq_or_of_lt hp]

/-- One round: the next bit of the dividend goes behind the rest. -/
theorem div_round (X Y i : Nat) (hY : 1 ≤ Y) :
    let r := X / 2 ^ (i + 1) % Y
    let t := 2 * r + X / 2 ^ i % 2
    t < 2 * Y ∧ (t < Y → X / 2 ^ i % Y = t ∧ X / 2 ^ i / Y * 2 ^ i = X / 2 ^ (i + 1) / Y * 2 ^ (i + 1)) ∧
      (Y ≤ t → X / 2 ^ i % Y = t - Y ∧ X / 2 ^ i / Y * 2 ^ i = X / 2 ^ (i + 1) / Y * 2 ^ (i + 1) + 2 ^ i) := by
  intro r t
  have hT : X / 2 ^ (i + 1) = X / 2 ^ i / 2 := by rw [Nat.pow_succ, Nat.div_div_eq_div_mul]
  have hr : r < Y := Nat.mod_lt _ hY
  have hd := Nat.div_add_mod (X / 2 ^ (i + 1)) Y
  have hb : X / 2 ^ i % 2 < 2 := Nat.mod_lt _ (by omega)
  have hx : X / 2 ^ i = Y * (2 * (X / 2 ^ (i + 1) / Y)) + t := by
    have e : X / 2 ^ i = 2 * (X / 2 ^ (i + 1)) + X / 2 ^ i % 2 := by rw [hT]; omega
    have f : Y * (2 * (X / 2 ^ (i + 1) / Y)) = 2 * (Y * (X / 2 ^ (i + 1) / Y)) := by rw [← Nat.mul_assoc, Nat.mul_comm Y 2, Nat.mul_assoc]
    rw [f]; show _ = _ + (2 * (X / 2 ^ (i + 1) % Y) + _); omega
  refine ⟨by show 2 * r + _ < _; omega, fun h => ?_, fun h => ?_⟩
  · constructor
    · rw [hx, Nat.mul_add_mod, Nat.mod_eq_of_lt h]
    · rw [hx, Nat.mul_add_div (by omega), Nat.div_eq_of_lt h, Nat.pow_succ, Nat.add_zero, Nat.mul_comm 2, Nat.mul_assoc, Nat.mul_comm 2]
  · have e : t = Y * 1 + (t - Y) := by omega
    have l : t - Y < Y := by have : t < 2 * Y := by { show 2 * r + _ < _; omega }; omega
    constructor
    · rw [hx, e, Nat.mul_add_mod, Nat.mul_add_mod, Nat.mod_eq_of_lt l]; omega
    · have g : X / 2 ^ i / Y = 2 * (X / 2 ^ (i + 1) / Y) + 1 := by
        rw [hx, Nat.mul_add_div (by omega)]; congr 1
        rw [e, Nat.mul_add_div (by omega), Nat.div_eq_of_lt l]
      rw [g, Nat.add_mul, Nat.pow_succ, Nat.one_mul, Nat.mul_comm 2, Nat.mul_assoc, Nat.mul_comm 2]

/-- The quotient's bits that are there behind the rounds down to k. -/
def qN (p y k : Nat) : Nat := p / 2 ^ k / y * 2 ^ k

theorem qN_le (p y k : Nat) : qN p y k ≤ p := by
  unfold qN
  have h1 : p / 2 ^ k / y * 2 ^ k ≤ p / 2 ^ k * 2 ^ k := Nat.mul_le_mul_right _ (Nat.div_le_self _ _)
  have h2 : p / 2 ^ k * 2 ^ k ≤ p := Nat.div_mul_le_self _ _
  omega

theorem low_word (T i : Nat) (hi : i < 64) :
    (T * 2 ^ (i + 1) + 2 ^ i) / 18446744073709551616 = T * 2 ^ (i + 1) / 18446744073709551616 ∧
    ∃ m, T * 2 ^ (i + 1) % 18446744073709551616 = m * 2 ^ (i + 1) ∧ m * 2 ^ (i + 1) + 2 ^ i < 18446744073709551616 ∧ (T * 2 ^ (i + 1) + 2 ^ i) % 18446744073709551616 = m * 2 ^ (i + 1) + 2 ^ i := by
  have hM : 18446744073709551616 = 2 ^ (63 - i) * 2 ^ (i + 1) := by rw [← Nat.pow_add, show 63 - i + (i + 1) = 64 by omega]
  have e : T * 2 ^ (i + 1) % 18446744073709551616 = T % 2 ^ (63 - i) * 2 ^ (i + 1) := by rw [hM, Nat.mul_mod_mul_right]
  have hT : T % 2 ^ (63 - i) < 2 ^ (63 - i) := Nat.mod_lt _ (Nat.pow_pos (by omega))
  have l : (T % 2 ^ (63 - i) + 1) * 2 ^ (i + 1) ≤ 2 ^ (63 - i) * 2 ^ (i + 1) := Nat.mul_le_mul_right _ hT
  rw [← hM, Nat.add_mul, Nat.one_mul] at l
  have s : 2 ^ i < 2 ^ (i + 1) := Nat.pow_lt_pow_right (by omega) (by omega)
  refine ⟨?_, T % 2 ^ (63 - i), e, by omega, ?_⟩ <;>
  · generalize T % 2 ^ (63 - i) * 2 ^ (i + 1) = m at *
    generalize T * 2 ^ (i + 1) = q at *
    generalize 2 ^ (i + 1) = u at *
    generalize 2 ^ i = v at *
    clear hM hT
    omega

theorem high_word (T s : Nat) :
    (T * 2 ^ (64 + s + 1) + 2 ^ (64 + s)) / 18446744073709551616 = T * 2 ^ (s + 1) + 2 ^ s ∧ (T * 2 ^ (64 + s + 1) + 2 ^ (64 + s)) % 18446744073709551616 = 0 ∧
    T * 2 ^ (64 + s + 1) / 18446744073709551616 = T * 2 ^ (s + 1) ∧ T * 2 ^ (64 + s + 1) % 18446744073709551616 = 0 := by
  have a : 2 ^ (64 + s) = 2 ^ s * 18446744073709551616 := by rw [Nat.pow_add, Nat.mul_comm]
  have b : T * 2 ^ (64 + s + 1) = T * 2 ^ (s + 1) * 18446744073709551616 := by rw [show 64 + s + 1 = (s + 1) + 64 by omega, Nat.pow_add, Nat.mul_assoc]
  rw [a, b]
  generalize T * 2 ^ (s + 1) = u
  generalize 2 ^ s = v
  refine ⟨by omega, by omega, by omega, by omega⟩

theorem low_bit (p i : Nat) (hi : i < 64) : p % 18446744073709551616 / 2 ^ i % 2 = p / 2 ^ i % 2 := by
  have hM : 18446744073709551616 = 2 ^ i * 2 ^ (64 - i) := by rw [← Nat.pow_add, show i + (64 - i) = 64 by omega]
  have h2 : (2 : Nat) ∣ 2 ^ (64 - i) := ⟨2 ^ (63 - i), by rw [Nat.mul_comm, ← Nat.pow_succ, show (63 - i).succ = 64 - i by omega]⟩
  rw [hM, Nat.mod_mul_right_div_self, Nat.mod_mod_of_dvd _ h2]
theorem high_bit (p s : Nat) : p / 18446744073709551616 / 2 ^ s % 2 = p / 2 ^ (64 + s) % 2 := by
  rw [Nat.pow_add, ← Nat.div_div_eq_div_mul]
end Go.Proofs.Ytcogoomajfahkaa.Ex
namespace Go.Proofs.Ytcogoomajfahkaa.Ex
open Go.RowKit

/-- What the loop holds ahead of the round for bit k - 1. -/
structure DivOk (p y k : Nat) (qh ql r : Int) : Prop where
  rest : r = ((p / 2 ^ k % y : Nat) : Int)
  high : qh = ((qN p y k / 18446744073709551616 : Nat) : Int)
  low : ql = ((qN p y k % 18446744073709551616 : Nat) : Int)

theorem step_bit (p y i : Nat) (hy : 1 ≤ y ∧ y ≤ 9223372036854775808) (W s : Nat) (hW : W < 18446744073709551616) (hs : s < 64) (hb : W / 2 ^ s % 2 = p / 2 ^ i % 2) (r : Int) (hr : r = ((p / 2 ^ (i + 1) % y : Nat) : Int)) :
    (bits .and .u64 (W : Int) ((2 ^ s : Nat) : Int) = 0 ∧ IntKind.u64.wrap (2 * r) = 2 * r ∧ 2 * r = ((2 * (p / 2 ^ (i + 1) % y) + p / 2 ^ i % 2 : Nat) : Int)) ∨ (bits .and .u64 (W : Int) ((2 ^ s : Nat) : Int) ≠ 0 ∧ IntKind.u64.wrap (2 * r) = 2 * r ∧ IntKind.u64.wrap (2 * r + 1) = 2 * r + 1 ∧ 2 * r + 1 = ((2 * (p / 2 ^ (i + 1) % y) + p / 2 ^ i % 2 : Nat) : Int)) := by
  have l : p / 2 ^ (i + 1) % y < y := Nat.mod_lt _ hy.1
  have p0 : 0 < 2 ^ s := Nat.pow_pos (by omega)
  rw [and_bit W s hW hs, hb]
  have c : p / 2 ^ i % 2 < 2 := Nat.mod_lt _ (by omega)
  generalize p / 2 ^ (i + 1) % y = t at *
  generalize p / 2 ^ i % 2 = b at *
  generalize 2 ^ s = u at *
  simp only [IntKind.wrap_u64]
  rcases Nat.lt_or_ge b 1 with h | h
  · have : b = 0 := by omega
    subst this
    exact .inl ⟨by simp, by omega, by omega⟩
  · have : b = 1 := by omega
    subst this
    exact .inr ⟨by simp; omega, by omega, by omega, by omega⟩

theorem step_low (p y i : Nat) (hi : i < 64) (hy : 1 ≤ y) (qh ql r : Int) (h : DivOk p y (i + 1) qh ql r) :
    let t : Int := ((2 * (p / 2 ^ (i + 1) % y) + p / 2 ^ i % 2 : Nat) : Int)
    (t < y → DivOk p y i qh ql t) ∧ ((y : Int) ≤ t → DivOk p y i qh (bits .or .u64 ql ((2 ^ i : Nat) : Int)) (t - y)) := by
  intro t
  obtain ⟨a0, a1, a2⟩ := div_round p y i hy
  obtain ⟨b0, m, b1, b2, b3⟩ := low_word (p / 2 ^ (i + 1) / y) i hi
  refine ⟨fun k => ?_, fun k => ?_⟩
  · obtain ⟨e1, e2⟩ := a1 (by show _ < y; omega)
    refine ⟨by rw [e1], ?_, ?_⟩
    · rw [h.high]; unfold qN; rw [e2]
    · rw [h.low]; unfold qN; rw [e2]
  · obtain ⟨e1, e2⟩ := a2 (by show y ≤ _; omega)
    refine ⟨by rw [e1]; show _ - _ = _; omega, ?_, ?_⟩
    · rw [h.high]; unfold qN; rw [e2, b0]
    · rw [h.low]; unfold qN; rw [e2, b3, b1, or_bit m i b2]

theorem step_high (p y s : Nat) (_hs : s < 64) (hp : p < 340282366920938463463374607431768211456) (hy : 1 ≤ y) (qh ql r : Int) (h : DivOk p y (64 + s + 1) qh ql r) :
    let t : Int := ((2 * (p / 2 ^ (64 + s + 1) % y) + p / 2 ^ (64 + s) % 2 : Nat) : Int)
    (t < y → DivOk p y (64 + s) qh ql t) ∧ ((y : Int) ≤ t → DivOk p y (64 + s) (bits .or .u64 qh ((2 ^ s : Nat) : Int)) ql (t - y)) := by
  intro t
  obtain ⟨a0, a1, a2⟩ := div_round p y (64 + s) hy
  obtain ⟨b0, b1, b2, b3⟩ := high_word (p / 2 ^ (64 + s + 1) / y) s
  refine ⟨fun k => ?_, fun k => ?_⟩
  · obtain ⟨e1, e2⟩ := a1 (by show _ < y; omega)
    refine ⟨by rw [e1], ?_, ?_⟩
    · rw [h.high]; unfold qN; rw [e2]
    · rw [h.low]; unfold qN; rw [e2]
  · obtain ⟨e1, e2⟩ := a2 (by show y ≤ _; omega)
    have le := qN_le p y (64 + s)
    unfold qN at le
    rw [e2] at le
    refine ⟨by rw [e1]; show _ - _ = _; omega, ?_, ?_⟩
    · rw [h.high]; unfold qN; rw [e2, b0, b2, or_bit _ s (by omega)]
    · rw [h.low]; unfold qN; rw [e2, b1, b3]
end Go.Proofs.Ytcogoomajfahkaa.Ex
namespace Go.Proofs.Ytcogoomajfahkaa.Ex
open Go.RowKit

end Go.Proofs.Ytcogoomajfahkaa.Ex
namespace Go.Proofs.Ytcogoomajfahkaa.Ex
open Go.RowKit

theorem wh_is (neg : Bool) (q : Int) (hq : 0 ≤ q) : WhI neg q = outI (if neg then -q else q) ∧ WhB neg q = fits (if neg then -q else q) := by
  have e : WhB neg q = fits (if neg then -q else q) := by
    unfold WhB fits
    cases neg
    · apply decide_eq_decide.2; simp; omega
    · apply decide_eq_decide.2; simp; omega
  refine ⟨?_, e⟩
  unfold WhI outI
  rw [e]

theorem neg_div (A D : Int) (hD : 0 < D) : (-A) / D = if A % D = 0 then -(A / D) else -(A / D + 1) := by
  have h1 := Int.mul_ediv_add_emod A D
  have h2 := Int.emod_nonneg A (show D ≠ 0 by omega)
  have h3 := Int.emod_lt_of_pos A hD
  split
  · rename_i h
    rw [h] at h1
    have : -A = -(A / D) * D := by rw [Int.neg_mul, Int.mul_comm]; omega
    rw [this, Int.mul_ediv_cancel _ (by omega)]
  · rename_i h
    have : -A = (D - A % D) + -(A / D + 1) * D := by rw [Int.neg_mul, Int.add_mul, Int.mul_comm (A / D)]; omega
    rw [this, Int.add_mul_ediv_right _ _ (by omega), Int.ediv_eq_zero_of_lt (by omega) (by omega), Int.zero_add]

theorem floor_ab (a b : Int) (h0 : b ≠ 0) :
    floorQ a b = if decide (a < 0) != decide (b < 0) then (if ab a % ab b = 0 then -(ab a / ab b) else -(ab a / ab b + 1)) else ab a / ab b := by
  unfold floorQ
  have P : ∀ x : Int, 0 ≤ x → ab x = x := fun x hx => if_neg (by omega)
  have N : ∀ x : Int, x < 0 → ab x = -x := fun x hx => if_pos hx
  rcases Int.lt_or_le b 0 with h | h
  · rw [sgn_neg h, show a * -1 = -a by omega, show b * -1 = -b by omega, N b h, decide_eq_true h]
    rcases Int.lt_or_le a 0 with k | k
    · rw [N a k, decide_eq_true k]; rfl
    · rw [P a k, decide_eq_false (show ¬ a < 0 by omega)]; exact neg_div a (-b) (by omega)
  · rw [sgn_pos (show 0 < b by omega), Int.mul_one, Int.mul_one, P b h, decide_eq_false (show ¬ b < 0 by omega)]
    rcases Int.lt_or_le a 0 with k | k
    · rw [N a k, decide_eq_true k]
      have := neg_div (-a) b (by omega)
      rw [Int.neg_neg] at this
      exact this
    · rw [P a k, decide_eq_false (show ¬ a < 0 by omega)]; rfl

set_option maxHeartbeats 1000000 in
theorem floor_ref (a b : Int) (ha : -9223372036854775808 ≤ a ∧ a ≤ 9223372036854775807) (hb : -9223372036854775808 ≤ b ∧ b ≤ 9223372036854775807) (w : World) :
    Calls Try.prog 71 #[.int .i64 a, .int .i64 b] w fun e w' => e = .returned (.tuple #[.int .i64 (FlI a b), .bool (FlB a b)]) ∧ Below w.heap.size w w' := by
  by_cases h0 : b = 0
  · subst h0
    go_enter Try.func71, Try.ntmps71
    go_wp2
    go_ret2
    exact ⟨rfl, Below.refl _ _⟩
  · have hne : (b == 0) = false := beq_eq_false_iff_ne.2 h0
    have K : Hid (FlI a b = outI (floorQ a b) ∧ FlB a b = fits (floorQ a b)) := Lib.hid ⟨if_neg h0, if_neg h0⟩
    have Q := floor_ab a b h0
    have bd1 : 1 ≤ ab b ∧ ab b ≤ 9223372036854775808 := by unfold ab; split <;> omega
    have ba1 : 0 ≤ ab a ∧ ab a ≤ 9223372036854775808 := by unfold ab; split <;> omega
    have sa : ∀ w, Calls Try.prog 74 #[.int .i64 a] w fun e w' => e = .returned (.int .u64 (ab a)) ∧ w = w' := fun w => size_ref a ha w
    have sb : ∀ w, Calls Try.prog 74 #[.int .i64 b] w fun e w' => e = .returned (.int .u64 (ab b)) ∧ w = w' := fun w => size_ref b hb w
    have q0 := Int.ediv_nonneg ba1.1 (show 0 ≤ ab b by omega)
    have q1 := Int.ediv_le_self (ab b) ba1.1
    have m0 := Int.emod_nonneg (ab a) (show ab b ≠ 0 by omega)
    have W0 : ∀ q : Int, 0 ≤ q → q ≤ 9223372036854775809 → (.agg #[.int .u64 0, .int .u64 q] : Value) = wideV q := fun q g1 g2 => by
      unfold wideV hiW loW; congr 4
      · congr 1; omega
      · congr 3; omega
    have W := Lib.hid W0
    clear W0
    have QQ := Lib.hid Q
    clear Q
    have V : ∀ (neg : Bool) (q : Int), 0 ≤ q → q ≤ 9223372036854775809 → floorQ a b = (if neg then -q else q) → ∀ w, Calls Try.prog 75 #[.bool neg, .agg #[.int .u64 0, .int .u64 q]] w fun e w' => e = .returned (.tuple #[.int .i64 (FlI a b), .bool (FlB a b)]) ∧ Below w.heap.size w w' := fun neg q g1 g2 g3 w => by
      rw [W.out q g1 g2, K.out.1, K.out.2, g3, ← (wh_is neg q g1).1, ← (wh_is neg q g1).2]
      exact whole_ref neg q (by omega) w
    have VV := Lib.hid V
    clear V
    rcases Int.lt_or_le a 0 with h | h <;> rcases Int.lt_or_le b 0 with k | k
    · have WR := Lib.hid (VV.out false (ab a / ab b) q0 (by omega) (by rw [QQ.out, decide_eq_true h, decide_eq_true k]; rfl))
      go_enter Try.func71, Try.ntmps71
      go_wp2_with fail
      refine (sa _).mono ?_
      rintro e w' ⟨rfl, rfl⟩
      go_wp2_with fail
      refine (sb _).mono ?_
      rintro e w' ⟨rfl, rfl⟩
      go_wp2_with fail
      with_reducible refine (WR.out _).mono ?_
      rintro e w' ⟨rfl, hB⟩
      go_wp2
      go_ret2
      exact ⟨rfl, hB⟩
    · by_cases m : ab a % ab b = 0
      · have WR := Lib.hid (VV.out true (ab a / ab b) q0 (by omega) (by rw [QQ.out, decide_eq_true h, decide_eq_false (show ¬ b < 0 by omega), m]; rfl))
        have da : decide (a < 0) = true := decide_eq_true h
        have db : decide (b < 0) = false := decide_eq_false (show ¬ b < 0 by omega)
        have mt : (ab a % ab b == 0) = true := beq_iff_eq.2 m
        go_enter Try.func71, Try.ntmps71
        go_wp2_with fail
        refine (sa _).mono ?_
        rintro e w' ⟨rfl, rfl⟩
        go_wp2_with fail
        refine (sb _).mono ?_
        rintro e w' ⟨rfl, rfl⟩
        go_wp2_with fail
        refine (sa _).mono ?_
        rintro e w' ⟨rfl, rfl⟩
        go_wp2_with fail
        refine (sb _).mono ?_
        rintro e w' ⟨rfl, rfl⟩
        go_wp2_with fail
        with_reducible refine (WR.out _).mono ?_
        rintro e w' ⟨rfl, hB⟩
        go_wp2
        go_ret2
        exact ⟨rfl, hB⟩
      · have WR := Lib.hid (VV.out true (ab a / ab b + 1) (by omega) (by omega) (by rw [QQ.out, decide_eq_true h, decide_eq_false (show ¬ b < 0 by omega), if_neg m]; rfl))
        have da : decide (a < 0) = true := decide_eq_true h
        have db : decide (b < 0) = false := decide_eq_false (show ¬ b < 0 by omega)
        have mt : (ab a % ab b == 0) = false := beq_eq_false_iff_ne.2 m
        go_enter Try.func71, Try.ntmps71
        go_wp2_with fail
        refine (sa _).mono ?_
        rintro e w' ⟨rfl, rfl⟩
        go_wp2_with fail
        refine (sb _).mono ?_
        rintro e w' ⟨rfl, rfl⟩
        go_wp2_with fail
        refine (sa _).mono ?_
        rintro e w' ⟨rfl, rfl⟩
        go_wp2_with fail
        refine (sb _).mono ?_
        rintro e w' ⟨rfl, rfl⟩
        go_wp2_with fail
        with_reducible refine (WR.out _).mono ?_
        rintro e w' ⟨rfl, hB⟩
        go_wp2
        go_ret2
        exact ⟨rfl, hB⟩
    · by_cases m : ab a % ab b = 0
      · have WR := Lib.hid (VV.out true (ab a / ab b) q0 (by omega) (by rw [QQ.out, decide_eq_false (show ¬ a < 0 by omega), decide_eq_true k, m]; rfl))
        have da : decide (a < 0) = false := decide_eq_false (show ¬ a < 0 by omega)
        have db : decide (b < 0) = true := decide_eq_true k
        have mt : (ab a % ab b == 0) = true := beq_iff_eq.2 m
        go_enter Try.func71, Try.ntmps71
        go_wp2_with fail
        refine (sa _).mono ?_
        rintro e w' ⟨rfl, rfl⟩
        go_wp2_with fail
        refine (sb _).mono ?_
        rintro e w' ⟨rfl, rfl⟩
        go_wp2_with fail
        refine (sa _).mono ?_
        rintro e w' ⟨rfl, rfl⟩
        go_wp2_with fail
        refine (sb _).mono ?_
        rintro e w' ⟨rfl, rfl⟩
        go_wp2_with fail
        with_reducible refine (WR.out _).mono ?_
        rintro e w' ⟨rfl, hB⟩
        go_wp2
        go_ret2
        exact ⟨rfl, hB⟩
      · have WR := Lib.hid (VV.out true (ab a / ab b + 1) (by omega) (by omega) (by rw [QQ.out, decide_eq_false (show ¬ a < 0 by omega), decide_eq_true k, if_neg m]; rfl))
        have da : decide (a < 0) = false := decide_eq_false (show ¬ a < 0 by omega)
        have db : decide (b < 0) = true := decide_eq_true k
        have mt : (ab a % ab b == 0) = false := beq_eq_false_iff_ne.2 m
        go_enter Try.func71, Try.ntmps71
        go_wp2_with fail
        refine (sa _).mono ?_
        rintro e w' ⟨rfl, rfl⟩
        go_wp2_with fail
        refine (sb _).mono ?_
        rintro e w' ⟨rfl, rfl⟩
        go_wp2_with fail
        refine (sa _).mono ?_
        rintro e w' ⟨rfl, rfl⟩
        go_wp2_with fail
        refine (sb _).mono ?_
        rintro e w' ⟨rfl, rfl⟩
        go_wp2_with fail
        with_reducible refine (WR.out _).mono ?_
        rintro e w' ⟨rfl, hB⟩
        go_wp2
        go_ret2
        exact ⟨rfl, hB⟩
    · have WR := Lib.hid (VV.out false (ab a / ab b) q0 (by omega) (by rw [QQ.out, decide_eq_false (show ¬ a < 0 by omega), decide_eq_false (show ¬ b < 0 by omega)]; rfl))
      go_enter Try.func71, Try.ntmps71
      go_wp2_with fail
      refine (sa _).mono ?_
      rintro e w' ⟨rfl, rfl⟩
      go_wp2_with fail
      refine (sb _).mono ?_
      rintro e w' ⟨rfl, rfl⟩
      go_wp2_with fail
      with_reducible refine (WR.out _).mono ?_
      rintro e w' ⟨rfl, hB⟩
      go_wp2
      go_ret2
      exact ⟨rfl, hB⟩
end Go.Proofs.Ytcogoomajfahkaa.Ex
namespace Go.Proofs.Ytcogoomajfahkaa.Ex
open Go.RowKit

theorem round_half (a b : Int) (hb : 0 < b) : (2 * a + b) / (2 * b) = if b - a % b ≤ a % b then a / b + 1 else a / b := by
  have h1 := Int.mul_ediv_add_emod a b
  have h2 := Int.emod_nonneg a (show b ≠ 0 by omega)
  have h3 := Int.emod_lt_of_pos a hb
  split
  · have e : 2 * a + b = (2 * (a % b) - b) + (a / b + 1) * (2 * b) := by
      have : (a / b + 1) * (2 * b) = 2 * (b * (a / b)) + 2 * b := by rw [Int.add_mul, Int.mul_left_comm, Int.mul_comm (a / b)]; omega
      omega
    rw [e, Int.add_mul_ediv_right _ _ (by omega), Int.ediv_eq_zero_of_lt (by omega) (by omega), Int.zero_add]
  · have e : 2 * a + b = (2 * (a % b) + b) + (a / b) * (2 * b) := by
      have : (a / b) * (2 * b) = 2 * (b * (a / b)) := by rw [Int.mul_left_comm, Int.mul_comm (a / b)]
      omega
    rw [e, Int.add_mul_ediv_right _ _ (by omega), Int.ediv_eq_zero_of_lt (by omega) (by omega), Int.zero_add]

set_option maxHeartbeats 1000000 in
theorem round_ref (a b : Int) (ha : -9223372036854775808 ≤ a ∧ a ≤ 9223372036854775807) (hb : -9223372036854775808 ≤ b ∧ b ≤ 9223372036854775807) (w : World) :
    Calls Try.prog 53 #[.int .i64 a, .int .i64 b] w fun e w' => e = .returned (.tuple #[.int .i64 (RoI a b), .bool (RoB a b)]) ∧ Below w.heap.size w w' := by
  rcases Int.lt_or_le b 1 with h | h
  · have r1 : RoI a b = 0 := if_pos h
    have r2 : RoB a b = false := if_pos h
    go_enter Try.func53, Try.ntmps53
    go_wp2
    go_ret2
    exact ⟨by (try rw [r1, r2]); rfl, Below.refl _ _⟩
  · have h1 := Int.mul_ediv_add_emod a b
    have h2 := Int.emod_nonneg a (show b ≠ 0 by omega)
    have h3 := Int.emod_lt_of_pos a (show 0 < b by omega)
    have f0 : floorQ a b = a / b := by unfold floorQ; rw [sgn_pos (by omega), Int.mul_one, Int.mul_one]
    have bq : -9223372036854775808 ≤ a / b ∧ a / b ≤ 9223372036854775807 := by
      constructor
      · have : -9223372036854775808 ≤ a / b := by
          apply Int.le_ediv_of_mul_le (by omega)
          have : -9223372036854775808 * b ≤ -9223372036854775808 * 1 := Int.mul_le_mul_of_nonpos_left (by omega) (by omega)
          omega
        exact this
      · apply Int.le_of_lt_add_one
        apply Int.ediv_lt_of_lt_mul (by omega)
        have : 9223372036854775808 * 1 ≤ 9223372036854775808 * b := Int.mul_le_mul_of_nonneg_left (by omega) (by omega)
        omega
    have fF : fits (a / b) = true := decide_eq_true bq
    have F : FlI a b = a / b ∧ FlB a b = true := by
      unfold FlI FlB outI; rw [if_neg (show ¬ b = 0 by omega), if_neg (show ¬ b = 0 by omega), f0, fF]; exact ⟨rfl, rfl⟩
    have FR : ∀ w, Calls Try.prog 71 #[.int .i64 a, .int .i64 b] w fun e w' => e = .returned (.tuple #[.int .i64 (a / b), .bool true]) ∧ Below w.heap.size w w' := fun w => by
      have := floor_ref a b ha hb w
      rw [F.1, F.2] at this; exact this
    have R0 : RoI a b = outI ((2 * a + b) / (2 * b)) ∧ RoB a b = fits ((2 * a + b) / (2 * b)) := ⟨if_neg (by omega), if_neg (by omega)⟩
    rw [round_half a b (by omega)] at R0
    have wm : wrap64 (a - wrap64 (a / b * b)) = a % b := by
      rw [Int.mul_comm b] at h1
      unfold wrap64; omega
    have wb : wrap64 (b - a % b) = b - a % b := by unfold wrap64; omega
    have FH := Lib.hid FR
    clear FR F fF f0
    generalize hm : a % b = m at *
    generalize hq : a / b = q at *
    have HQ := Lib.hid (And.intro h1 (And.intro hm hq))
    clear h1 hm hq
    rcases Int.lt_or_le m (b - m) with k | k
    · have R : RoI a b = q ∧ RoB a b = true := by
        rw [R0.1, R0.2, if_neg (by omega)]; unfold outI; rw [show fits q = true from decide_eq_true bq]; exact ⟨rfl, rfl⟩
      have RH := Lib.hid R
      clear R R0
      go_enter Try.func53, Try.ntmps53
      go_wp2_with fail
      with_reducible refine (FH.out _).mono ?_
      rintro e w' ⟨rfl, hB⟩
      go_wp2
      go_ret2
      exact ⟨by rw [RH.out.1, RH.out.2]; rfl, hB⟩
    · have bq1 : q + 1 ≤ 9223372036854775807 := by
        rcases Int.lt_or_le b 2 with c | c
        · omega
        · have := HQ.out.1
          rcases Int.lt_or_le q 1 with g | g
          · omega
          · have : 2 * q ≤ b * q := Int.mul_le_mul_of_nonneg_right c (by omega)
            omega
      have R : RoI a b = q + 1 ∧ RoB a b = true := by
        rw [R0.1, R0.2, if_pos k]; unfold outI; rw [show fits (q + 1) = true from decide_eq_true (by omega)]; exact ⟨rfl, rfl⟩
      have RH := Lib.hid R
      have wq : wrap64 (q + 1) = q + 1 := by unfold wrap64; omega
      clear R R0
      go_enter Try.func53, Try.ntmps53
      go_wp2_with fail
      with_reducible refine (FH.out _).mono ?_
      rintro e w' ⟨rfl, hB⟩
      go_wp2
      go_ret2
      exact ⟨by rw [RH.out.1, RH.out.2]; rfl, hB⟩
end Go.Proofs.Ytcogoomajfahkaa.Ex
namespace Go.Proofs.Ytcogoomajfahkaa.Ex
open Go.RowKit

theorem ab_mul (a b : Int) : a * b = if decide (a < 0) != decide (b < 0) then -(ab a * ab b) else ab a * ab b := by
  have P : ∀ x : Int, 0 ≤ x → ab x = x := fun x hx => if_neg (by omega)
  have N : ∀ x : Int, x < 0 → ab x = -x := fun x hx => if_pos hx
  rcases Int.lt_or_le a 0 with h | h <;> rcases Int.lt_or_le b 0 with k | k
  · rw [N a h, N b k, decide_eq_true h, decide_eq_true k, Int.neg_mul_neg]; rfl
  · rw [N a h, P b k, decide_eq_true h, decide_eq_false (show ¬ b < 0 by omega), Int.neg_mul, Int.neg_neg]; rfl
  · rw [P a h, N b k, decide_eq_true k, decide_eq_false (show ¬ a < 0 by omega), Int.mul_neg, Int.neg_neg]; rfl
  · rw [P a h, P b k, decide_eq_false (show ¬ b < 0 by omega), decide_eq_false (show ¬ a < 0 by omega)]; rfl

/-- The answer by the quotient and the rest of the sizes. -/
theorem md_is (a b c : Int) (hc : 1 ≤ c) (neg : Bool) (hn : (decide (a < 0) != decide (b < 0)) = neg) (q : Int) (hq : 0 ≤ q)
    (h : q = if neg then (if ab a * ab b % c = 0 then ab a * ab b / c else ab a * ab b / c + 1) else ab a * ab b / c) :
    MdI a b c = WhI neg q ∧ MdB a b c = WhB neg q := by
  have e : a * b / c = if neg then -q else q := by
    rw [ab_mul, hn, h]
    cases neg
    · rfl
    · show -(ab a * ab b) / c = -(if ab a * ab b % c = 0 then _ else _)
      rw [neg_div _ c (by omega)]
      split <;> rfl
  obtain ⟨w1, w2⟩ := wh_is neg q hq
  rw [w1, w2, ← e]
  exact ⟨if_neg (by omega), if_neg (by omega)⟩

end Go.Proofs.Ytcogoomajfahkaa.Ex
namespace Go.Proofs.Ytcogoomajfahkaa.Ex
open Go.RowKit Go.Sort

theorem valid_is (n d : Int) (b : Bool) (h : decide (1 ≤ d) = b) (w : World) :
    Calls Try.prog 101 #[ratV n d] w fun e w' => e = .returned (.bool b) ∧ Below w.heap.size w w' := by
  have := valid_any n d w
  rw [h] at this
  exact this

end Go.Proofs.Ytcogoomajfahkaa.Ex
namespace Go.Proofs.Ytcogoomajfahkaa.Ex
open Go.RowKit

theorem ab_bd {n : Int} (h : -9223372036854775808 ≤ n ∧ n ≤ 9223372036854775807) : 0 ≤ ab n ∧ ab n < 18446744073709551616 ∧ ab n ≤ 9223372036854775808 := by
  unfold ab; split <;> omega
theorem ab_prod {n m : Int} (h : -9223372036854775808 ≤ n ∧ n ≤ 9223372036854775807) (k : -9223372036854775808 ≤ m ∧ m ≤ 9223372036854775807) : 0 ≤ ab n * ab m ∧ ab n * ab m < 340282366920938463463374607431768211456 := by
  obtain ⟨a0, a1, a2⟩ := ab_bd h
  obtain ⟨b0, b1, b2⟩ := ab_bd k
  refine ⟨Int.mul_nonneg a0 b0, ?_⟩
  have h1 : ab n * ab m ≤ 9223372036854775808 * ab m := Int.mul_le_mul_of_nonneg_right a2 b0
  omega
theorem size_b (n : Int) (hn : -9223372036854775808 ≤ n ∧ n ≤ 9223372036854775807) (w : World) :
    Calls Try.prog 74 #[.int .i64 n] w fun e w' => e = .returned (.int .u64 (ab n)) ∧ Below w.heap.size w w' :=
  (size_ref n hn w).mono fun _ _ ⟨h1, h2⟩ => ⟨h1, by rw [← h2]; exact Below.refl _ _⟩
theorem ab_pos {n : Int} (h : 0 ≤ n) : ab n = n := if_neg (by omega)
theorem ab_neg {n : Int} (h : n < 0) : ab n = -n := if_pos h


end Go.Proofs.Ytcogoomajfahkaa.Ex
namespace Go.Proofs.Ytcogoomajfahkaa.Ex
open Go.RowKit

theorem ab_nat (n : Int) : (ab n).natAbs = n.natAbs := by unfold ab; split <;> omega
theorem ab_gcd (n d : Int) : Int.gcd (ab n) (ab d) = Int.gcd n d := by unfold Int.gcd; rw [ab_nat, ab_nat]

set_option maxRecDepth 100000 in
set_option maxHeartbeats 2000000 in
theorem lowest_ref (n d : Int) (hn : -9223372036854775808 ≤ n ∧ n ≤ 9223372036854775807) (hd : -9223372036854775808 ≤ d ∧ d ≤ 9223372036854775807) (w : World) :
    Calls Try.prog 72 #[ratV n d] w fun e w' => e = .returned (.tuple #[ratV (LoN n d) (LoD n d), .bool (LoB d)]) ∧ Below w.heap.size w w' := by
  rcases Int.lt_or_le d 1 with h | h
  · have K : Hid (LoN n d = 0 ∧ LoD n d = 0 ∧ LoB d = false) := Lib.hid ⟨if_pos h, if_pos h, decide_eq_false (by omega)⟩
    unfold ratV at *
    go_enter Try.func72, Try.ntmps72
    go_wp2_with fail
    refine bodyPost_ret (v := .tuple #[.agg #[.int .i64 0, .int .i64 0], .bool false]) (by simp [results, Try.results72, go_sem]) rfl ⟨?_, ?_⟩
    · rw [K.out.1, K.out.2.1, K.out.2.2]
    · go_grown
  · have q1 : decide (d < 1) = false := decide_eq_false (by omega)
    have K : Hid (LoN n d = redN n d ∧ LoD n d = redD n d ∧ LoB d = true) := Lib.hid ⟨if_neg (by omega), if_neg (by omega), decide_eq_true h⟩
    have S1 := Lib.hid (size_b n hn)
    have S2 := Lib.hid (size_b d hd)
    have G0 := gcd_ref (ab n) (ab d) (by have := ab_bd hn; omega) (by have := ab_bd hd; omega)
    rw [show Int.gcd (ab n) (ab d) = Int.gcd n d from ab_gcd n d] at G0
    have G := Lib.hid G0
    have g1 := gcd_le_right n d h
    have g0 := gcd_pos' n h
    have en : Hid (n.tdiv (Int.gcd n d : Int) = redN n d ∧ d.tdiv (Int.gcd n d : Int) = redD n d) := Lib.hid ⟨Int.tdiv_eq_ediv_of_dvd (Int.gcd_dvd_left ..), Int.tdiv_eq_ediv_of_dvd (Int.gcd_dvd_right ..)⟩
    generalize ((Int.gcd n d : Nat) : Int) = g at *
    clear G0
    obtain ⟨hn0, hn1⟩ := hn
    obtain ⟨hd0, hd1⟩ := hd
    unfold ratV at *
    have hA : Below w.heap.size w ((w.alloc (.cells #[.int .i64 n, .int .i64 d] 67)).alloc (.cells #[.int .i64 0, .int .i64 0] 67)) := by go_grown
    have cn : ((w.alloc (.cells #[.int .i64 n, .int .i64 d] 67)).alloc (.cells #[.int .i64 0, .int .i64 0] 67)).cell? ⟨w.heap.size, 0, none⟩ = some (.int .i64 n) := by go_cell
    have cd : ((w.alloc (.cells #[.int .i64 n, .int .i64 d] 67)).alloc (.cells #[.int .i64 0, .int .i64 0] 67)).cell? ⟨w.heap.size, 1, none⟩ = some (.int .i64 d) := by go_cell
    have r0 : ((w.alloc (.cells #[.int .i64 n, .int .i64 d] 67)).alloc (.cells #[.int .i64 0, .int .i64 0] 67)).cell? ⟨w.heap.size + 1, 0, none⟩ = some (.int .i64 0) := by go_cell
    have r1 : ((w.alloc (.cells #[.int .i64 n, .int .i64 d] 67)).alloc (.cells #[.int .i64 0, .int .i64 0] 67)).cell? ⟨w.heap.size + 1, 1, none⟩ = some (.int .i64 0) := by go_cell
    have f0 : ((w.alloc (.cells #[.int .i64 n, .int .i64 d] 67)).alloc (.cells #[.int .i64 0, .int .i64 0] 67)).frozen? ⟨w.heap.size + 1, 0, none⟩ = false := by go_cell
    have f1 : ((w.alloc (.cells #[.int .i64 n, .int .i64 d] 67)).alloc (.cells #[.int .i64 0, .int .i64 0] 67)).frozen? ⟨w.heap.size + 1, 1, none⟩ = false := by go_cell
    have gne : (g == 0) = false := beq_eq_false_iff_ne.2 (by omega)
    have wg := IntWalk.wrap64_in g ⟨by omega, by omega⟩
    go_enter Try.func72, Try.ntmps72
    go_wp2_with fail
    generalize ((w.alloc (.cells #[.int .i64 n, .int .i64 d] 67)).alloc (.cells #[.int .i64 0, .int .i64 0] 67)) = V at *
    have zcn := cell_regrown cn
    have zcd := cell_regrown cd
    refine wp_region_quiet_below (by kernel_rfl) (by kernel_rfl) ?_
    repeat (go_big_quiet_step ((first | (with_reducible exact Calls.regrown_of (S1.out _)) | (with_reducible exact Calls.regrown_of (S2.out _)) | (with_reducible exact Calls.regrown_of (G.out _)))))
    refine wpQuiet_nil ?_
    intro _ hw'
    obtain ⟨⟨dq, osq⟩, hw''⟩ := hw'
    subst hw''
    have hN1 := below_regrown V dq osq
    clear zcn zcd
    generalize Go.«Sort».grow (redrawn V dq) osq = V2 at *
    replace cn := kc hN1 cn
    replace cd := kc hN1 cd
    replace f0 := kf hN1 r0 f0
    replace f1 := kf hN1 r1 f1
    replace r0 := kc hN1 r0
    replace r1 := kc hN1 r1
    have hB := bt hA hN1
    clear hA hN1
    go_wp2_with fail
    go_region
    go_wp2
    refine bodyPost_ret (v := .tuple #[.agg #[.int .i64 (n.tdiv g), .int .i64 (d / g)], .bool true]) (by simp [results, Try.results72, go_sem, r0, r1]) rfl ⟨?_, ?_⟩
    · have e := en.out
      rw [Int.tdiv_eq_ediv_of_nonneg (show 0 ≤ d by omega)] at e
      rw [K.out.1, K.out.2.1, K.out.2.2, e.1, e.2]
    · exact bd1 (bs (bs hB (by simp) _) (by simp) _)
end Go.Proofs.Ytcogoomajfahkaa.Ex
namespace Go.Proofs.Ytcogoomajfahkaa.Ex
open Go.RowKit

theorem uquo (a b u : Int) (h : a / b = u) (a0 : 0 ≤ a) (a1 : a ≤ 18446744073709551615) (b0 : 0 < b) : IntKind.u64.wrap (a.tdiv b) = u := by
  rw [Int.tdiv_eq_ediv_of_nonneg a0, h]
  have h1 : 0 ≤ a / b := Int.ediv_nonneg a0 (by omega)
  have h2 := Int.ediv_le_self (a := a) b a0
  exact IntWalk.u64_in _ (by omega)

set_option maxRecDepth 100000 in
set_option maxHeartbeats 4000000 in
theorem mulr_core (n d m e n1 d1 m1 e1 N D M E g h u v s t x0 x1 y0 y1 rn rd : Int) (sn sm b3 b4 : Bool) (q3 : decide (n1 < 0) = sn) (q4 : decide (m1 < 0) = sm)
    (A1 : (Hid (∀ w, Calls Try.prog 72 #[ratV n d] w fun en w' => en = .returned (.tuple #[ratV n1 d1, .bool true]) ∧ Below w.heap.size w w')))
    (A2 : (Hid (∀ w, Calls Try.prog 72 #[ratV m e] w fun en w' => en = .returned (.tuple #[ratV m1 e1, .bool true]) ∧ Below w.heap.size w w')))
    (S1 : (Hid (∀ w, Calls Try.prog 74 #[.int .i64 n1] w fun en w' => en = .returned (.int .u64 N) ∧ Below w.heap.size w w')))
    (S2 : (Hid (∀ w, Calls Try.prog 74 #[.int .i64 e1] w fun en w' => en = .returned (.int .u64 E) ∧ Below w.heap.size w w')))
    (S3 : (Hid (∀ w, Calls Try.prog 74 #[.int .i64 m1] w fun en w' => en = .returned (.int .u64 M) ∧ Below w.heap.size w w')))
    (S4 : (Hid (∀ w, Calls Try.prog 74 #[.int .i64 d1] w fun en w' => en = .returned (.int .u64 D) ∧ Below w.heap.size w w')))
    (G : (Hid (∀ w, Calls Try.prog 73 #[.int .u64 N, .int .u64 E] w fun en w' => en = .returned (.int .u64 g) ∧ Below w.heap.size w w')))
    (H : (Hid (∀ w, Calls Try.prog 73 #[.int .u64 M, .int .u64 D] w fun en w' => en = .returned (.int .u64 h) ∧ Below w.heap.size w w')))
    (P : (Hid (∀ w, Calls Try.prog 76 #[.int .u64 u, .int .u64 v] w fun en w' => en = .returned (.agg #[.int .u64 x0, .int .u64 x1]) ∧ Below w.heap.size w w')))
    (Q : (Hid (∀ w, Calls Try.prog 76 #[.int .u64 s, .int .u64 t] w fun en w' => en = .returned (.agg #[.int .u64 y0, .int .u64 y1]) ∧ Below w.heap.size w w')))
    (W1 : (Hid (∀ w, Calls Try.prog 75 #[.bool (!(sn == sm)), .agg #[.int .u64 x0, .int .u64 x1]] w fun en w' => en = .returned (.tuple #[.int .i64 rn, .bool b3]) ∧ Below w.heap.size w w')))
    (W2 : (Hid (∀ w, Calls Try.prog 75 #[.bool false, .agg #[.int .u64 y0, .int .u64 y1]] w fun en w' => en = .returned (.tuple #[.int .i64 rd, .bool b4]) ∧ Below w.heap.size w w')))
    (_gne : (g == 0) = false) (_hne : (h == 0) = false) (hu : N / g = u) (hv : M / h = v) (hs : D / h = s) (ht : E / g = t) (N0 : 0 ≤ N) (M0 : 0 ≤ M) (D0 : 0 ≤ D) (E0 : 0 ≤ E) (N1 : N ≤ 18446744073709551615) (M1 : M ≤ 18446744073709551615) (D1 : D ≤ 18446744073709551615) (E1 : E ≤ 18446744073709551615) (g0 : 0 < g) (h0 : 0 < h) (w : World) :
    Calls Try.prog 55 #[ratV n d, ratV m e] w fun en w' => en = .returned (.tuple #[ratV (if b3 && b4 then rn else 0) (if b3 && b4 then rd else 0), .bool (b3 && b4)]) ∧ Below w.heap.size w w' := by
  replace hu := uquo _ _ _ hu N0 N1 g0
  replace hv := uquo _ _ _ hv M0 M1 h0
  replace hs := uquo _ _ _ hs D0 D1 h0
  replace ht := uquo _ _ _ ht E0 E1 g0
  unfold ratV at *
  go_enter Try.func55, Try.ntmps55
  go_wp2_with fail
  refine (A1.out _).mono ?_
  rintro en w1 ⟨rfl, hb⟩
  have fr0 := kf hb (b := w.heap.size + 1 + 1) (o := 0) (v := .int .i64 0) (t := false) (by go_cell) (by go_cell)
  have fr1 := kf hb (b := w.heap.size + 1 + 1) (o := 1) (v := .int .i64 0) (t := false) (by go_cell) (by go_cell)
  have ym := kc hb (b := w.heap.size + 1) (o := 0) (v := .int .i64 m) (by go_cell)
  have ye := kc hb (b := w.heap.size + 1) (o := 1) (v := .int .i64 e) (by go_cell)
  have r0 := kc hb (b := w.heap.size + 1 + 1) (o := 0) (v := .int .i64 0) (by go_cell)
  have r1 := kc hb (b := w.heap.size + 1 + 1) (o := 1) (v := .int .i64 0) (by go_cell)
  have hB : Below w.heap.size w w1 := bt (ba (ba (ba (Below.refl _ _) _) _) _) hb
  have hz1 : w.heap.size + 1 + 1 < w1.heap.size := by have := hb.size; simp at this; omega
  have hz0 : w.heap.size + 1 < w1.heap.size := by omega
  clear hb
  go_wp2_with fail
  refine (A2.out _).mono ?_
  rintro en w2 ⟨rfl, hb⟩
  have an := kc hb (b := w1.heap.size) (o := 0) (v := .int .i64 n1) (by go_cell)
  have ad := kc hb (b := w1.heap.size) (o := 1) (v := .int .i64 d1) (by go_cell)
  have fr0' := kf hb (b := w.heap.size + 1 + 1) (o := 0) (v := .int .i64 0) (t := false) (by go_cell) (by go_cell)
  have fr1' := kf hb (b := w.heap.size + 1 + 1) (o := 1) (v := .int .i64 0) (t := false) (by go_cell) (by go_cell)
  have r0' := kc hb (b := w.heap.size + 1 + 1) (o := 0) (v := .int .i64 0) (by go_cell)
  have r1' := kc hb (b := w.heap.size + 1 + 1) (o := 1) (v := .int .i64 0) (by go_cell)
  have hB2 : Below w.heap.size w w2 := bt (ba hB _) hb
  have hz2 : w1.heap.size < w2.heap.size := by have := hb.size; simp at this; omega
  clear hb ym ye r0 r1 fr0 fr1 hB
  have hz3 : w.heap.size + 1 + 1 < w2.heap.size := by omega
  have an2 : (w2.alloc (.cells #[.int .i64 m1, .int .i64 e1] 67)).cell? ⟨w1.heap.size, 0, none⟩ = some (.int .i64 n1) := by go_cell
  have ad2 : (w2.alloc (.cells #[.int .i64 m1, .int .i64 e1] 67)).cell? ⟨w1.heap.size, 1, none⟩ = some (.int .i64 d1) := by go_cell
  have bn2 : (w2.alloc (.cells #[.int .i64 m1, .int .i64 e1] 67)).cell? ⟨w2.heap.size, 0, none⟩ = some (.int .i64 m1) := by go_cell
  have bd2 : (w2.alloc (.cells #[.int .i64 m1, .int .i64 e1] 67)).cell? ⟨w2.heap.size, 1, none⟩ = some (.int .i64 e1) := by go_cell
  have r0 : (w2.alloc (.cells #[.int .i64 m1, .int .i64 e1] 67)).cell? ⟨w.heap.size + 1 + 1, 0, none⟩ = some (.int .i64 0) := by go_cell
  have r1 : (w2.alloc (.cells #[.int .i64 m1, .int .i64 e1] 67)).cell? ⟨w.heap.size + 1 + 1, 1, none⟩ = some (.int .i64 0) := by go_cell
  have fr0 : (w2.alloc (.cells #[.int .i64 m1, .int .i64 e1] 67)).frozen? ⟨w.heap.size + 1 + 1, 0, none⟩ = false := by go_cell
  have fr1 : (w2.alloc (.cells #[.int .i64 m1, .int .i64 e1] 67)).frozen? ⟨w.heap.size + 1 + 1, 1, none⟩ = false := by go_cell
  have hA : Below w.heap.size w (w2.alloc (.cells #[.int .i64 m1, .int .i64 e1] 67)) := ba hB2 _
  clear an ad r0' r1' fr0' fr1' hB2
  go_wp2_with fail
  generalize (w2.alloc (.cells #[.int .i64 m1, .int .i64 e1] 67)) = V at *
  generalize w2.heap.size = bb at *
  generalize w1.heap.size = ba1 at *
  have zan2 := cell_regrown an2
  have zad2 := cell_regrown ad2
  have zbn2 := cell_regrown bn2
  have zbd2 := cell_regrown bd2
  refine wp_region_quiet_below (by kernel_rfl) (by kernel_rfl) ?_
  repeat (go_big_quiet_step ((first | (with_reducible exact Calls.regrown_of (S1.out _)) | (with_reducible exact Calls.regrown_of (S2.out _)) | (with_reducible exact Calls.regrown_of (G.out _)))))
  refine wpQuiet_nil ?_
  intro _ hw'
  obtain ⟨⟨dq, osq⟩, hw''⟩ := hw'
  subst hw''
  have hN1 := below_regrown V dq osq
  clear zan2 zad2 zbn2 zbd2
  generalize Go.«Sort».grow (redrawn V dq) osq = V2 at *
  replace fr0 := kf hN1 r0 fr0
  replace fr1 := kf hN1 r1 fr1
  replace r0 := kc hN1 r0
  replace r1 := kc hN1 r1
  replace an2 := kc hN1 an2
  replace ad2 := kc hN1 ad2
  replace bn2 := kc hN1 bn2
  replace bd2 := kc hN1 bd2
  replace hA := bt hA hN1
  clear hN1
  go_wp2_with fail
  have zan2 := cell_regrown an2
  have zad2 := cell_regrown ad2
  have zbn2 := cell_regrown bn2
  have zbd2 := cell_regrown bd2
  refine wp_region_quiet_below (by kernel_rfl) (by kernel_rfl) ?_
  repeat (go_big_quiet_step ((first | (with_reducible exact Calls.regrown_of (S3.out _)) | (with_reducible exact Calls.regrown_of (S4.out _)) | (with_reducible exact Calls.regrown_of (H.out _)))))
  refine wpQuiet_nil ?_
  intro _ hw'
  obtain ⟨⟨dq, osq⟩, hw''⟩ := hw'
  subst hw''
  have hN2 := below_regrown V2 dq osq
  clear zan2 zad2 zbn2 zbd2
  generalize Go.«Sort».grow (redrawn V2 dq) osq = V3 at *
  replace fr0 := kf hN2 r0 fr0
  replace fr1 := kf hN2 r1 fr1
  replace r0 := kc hN2 r0
  replace r1 := kc hN2 r1
  replace an2 := kc hN2 an2
  replace ad2 := kc hN2 ad2
  replace bn2 := kc hN2 bn2
  replace bd2 := kc hN2 bd2
  replace hA := bt hA hN2
  clear hN2
  go_wp2_with fail
  have zan2 := cell_regrown an2
  have zad2 := cell_regrown ad2
  have zbn2 := cell_regrown bn2
  have zbd2 := cell_regrown bd2
  refine wp_region_quiet_below (by kernel_rfl) (by kernel_rfl) ?_
  repeat (go_big_quiet_step ((first | (with_reducible exact Calls.regrown_of (S1.out _)) | (with_reducible exact Calls.regrown_of (S3.out _)) | (with_reducible exact Calls.regrown_of (P.out _)) | (with_reducible exact Calls.regrown_of (W1.out _)))))
  refine wpQuiet_nil ?_
  intro _ hw'
  obtain ⟨⟨dq, osq⟩, hw''⟩ := hw'
  subst hw''
  have hN3 := below_regrown V3 dq osq
  clear zan2 zad2 zbn2 zbd2
  generalize Go.«Sort».grow (redrawn V3 dq) osq = V4 at *
  replace fr0 := kf hN3 r0 fr0
  replace fr1 := kf hN3 r1 fr1
  replace r0 := kc hN3 r0
  replace r1 := kc hN3 r1
  replace an2 := kc hN3 an2
  replace ad2 := kc hN3 ad2
  replace bn2 := kc hN3 bn2
  replace bd2 := kc hN3 bd2
  replace hA := bt hA hN3
  clear hN3
  go_wp2_with fail
  have zan2 := cell_regrown an2
  have zad2 := cell_regrown ad2
  have zbn2 := cell_regrown bn2
  have zbd2 := cell_regrown bd2
  refine wp_region_quiet_below (by kernel_rfl) (by kernel_rfl) ?_
  repeat (go_big_quiet_step ((first | (with_reducible exact Calls.regrown_of (S4.out _)) | (with_reducible exact Calls.regrown_of (S2.out _)) | (with_reducible exact Calls.regrown_of (Q.out _)) | (with_reducible exact Calls.regrown_of (W2.out _)))))
  refine wpQuiet_nil ?_
  intro _ hw'
  obtain ⟨⟨dq, osq⟩, hw''⟩ := hw'
  subst hw''
  have hN4 := below_regrown V4 dq osq
  clear zan2 zad2 zbn2 zbd2
  generalize Go.«Sort».grow (redrawn V4 dq) osq = V5 at *
  replace fr0 := kf hN4 r0 fr0
  replace fr1 := kf hN4 r1 fr1
  replace r0 := kc hN4 r0
  replace r1 := kc hN4 r1
  replace an2 := kc hN4 an2
  replace ad2 := kc hN4 ad2
  replace bn2 := kc hN4 bn2
  replace bd2 := kc hN4 bd2
  replace hA := bt hA hN4
  clear hN4
  have hl : w.heap.size ≤ w.heap.size + 1 + 1 := by omega
  clear hz1 hz0 hz2 hz3 hu hv hs ht N0 M0 D0 E0 N1 M1 D1 E1 g0 h0 _gne _hne q3 q4
  clear an2 ad2 bn2 bd2 S1 S2 S3 S4 G H P Q W1 W2 A1 A2
  cases b3 <;> cases b4
  · go_wp2
    all_goals
      refine bodyPost_ret (v := .tuple #[.agg #[.int .i64 0, .int .i64 0], .bool false]) (by simp [results, Try.results55, go_sem, r0, r1]; try rfl) rfl ⟨rfl, ?_⟩
      (first | exact bs (bs hA hl _) hl _ | exact bd1 (bs (bs hA hl _) hl _) | exact bs (bs (bs (bs hA hl _) hl _) hl _) hl _ | exact bd1 (bs (bs (bs (bs hA hl _) hl _) hl _) hl _) | exact bs (bs (bd1 hA) hl _) hl _)
  · go_wp2
    all_goals
      refine bodyPost_ret (v := .tuple #[.agg #[.int .i64 0, .int .i64 0], .bool false]) (by simp [results, Try.results55, go_sem, r0, r1]; try rfl) rfl ⟨rfl, ?_⟩
      (first | exact bs (bs hA hl _) hl _ | exact bd1 (bs (bs hA hl _) hl _) | exact bs (bs (bs (bs hA hl _) hl _) hl _) hl _ | exact bd1 (bs (bs (bs (bs hA hl _) hl _) hl _) hl _) | exact bs (bs (bd1 hA) hl _) hl _)
  · go_wp2
    all_goals
      refine bodyPost_ret (v := .tuple #[.agg #[.int .i64 0, .int .i64 0], .bool false]) (by simp [results, Try.results55, go_sem, r0, r1]; try rfl) rfl ⟨rfl, ?_⟩
      (first | exact bs (bs hA hl _) hl _ | exact bd1 (bs (bs hA hl _) hl _) | exact bs (bs (bs (bs hA hl _) hl _) hl _) hl _ | exact bd1 (bs (bs (bs (bs hA hl _) hl _) hl _) hl _) | exact bs (bs (bd1 hA) hl _) hl _)
  · go_wp2
    all_goals
      refine bodyPost_ret (v := .tuple #[.agg #[.int .i64 rn, .int .i64 rd], .bool true]) (by simp [results, Try.results55, go_sem, r0, r1]; try rfl) rfl ⟨rfl, ?_⟩
      (first | exact bs (bs hA hl _) hl _ | exact bd1 (bs (bs hA hl _) hl _) | exact bs (bs (bs (bs hA hl _) hl _) hl _) hl _ | exact bd1 (bs (bs (bs (bs hA hl _) hl _) hl _) hl _) | exact bs (bs (bd1 hA) hl _) hl _)
end Go.Proofs.Ytcogoomajfahkaa.Ex
namespace Go.Proofs.Ytcogoomajfahkaa.Ex
open Go.RowKit

set_option maxRecDepth 100000 in
set_option maxHeartbeats 2000000 in
theorem mulr_no (n d m e n1 d1 m1 e1 : Int) (t1 t2 : Bool) (ht : (t1 && t2) = false)
    (A1 : Hid (∀ w, Calls Try.prog 72 #[ratV n d] w fun en w' => en = .returned (.tuple #[ratV n1 d1, .bool t1]) ∧ Below w.heap.size w w'))
    (A2 : Hid (∀ w, Calls Try.prog 72 #[ratV m e] w fun en w' => en = .returned (.tuple #[ratV m1 e1, .bool t2]) ∧ Below w.heap.size w w')) (w : World) :
    Calls Try.prog 55 #[ratV n d, ratV m e] w fun en w' => en = .returned (.tuple #[ratV 0 0, .bool false]) ∧ Below w.heap.size w w' := by
  unfold ratV at *
  go_enter Try.func55, Try.ntmps55
  go_wp2_with fail
  refine (A1.out _).mono ?_
  rintro en w1 ⟨rfl, hb⟩
  have fr0 := kf hb (b := w.heap.size + 1 + 1) (o := 0) (v := .int .i64 0) (t := false) (by go_cell) (by go_cell)
  have fr1 := kf hb (b := w.heap.size + 1 + 1) (o := 1) (v := .int .i64 0) (t := false) (by go_cell) (by go_cell)
  have ym := kc hb (b := w.heap.size + 1) (o := 0) (v := .int .i64 m) (by go_cell)
  have ye := kc hb (b := w.heap.size + 1) (o := 1) (v := .int .i64 e) (by go_cell)
  have r0 := kc hb (b := w.heap.size + 1 + 1) (o := 0) (v := .int .i64 0) (by go_cell)
  have r1 := kc hb (b := w.heap.size + 1 + 1) (o := 1) (v := .int .i64 0) (by go_cell)
  have hB : Below w.heap.size w w1 := bt (ba (ba (ba (Below.refl _ _) _) _) _) hb
  have hz1 : w.heap.size + 1 + 1 < w1.heap.size := by have := hb.size; simp at this; omega
  have hz0 : w.heap.size + 1 < w1.heap.size := by omega
  clear hb
  go_wp2_with fail
  refine (A2.out _).mono ?_
  rintro en w2 ⟨rfl, hb⟩
  have fr0' := kf hb (b := w.heap.size + 1 + 1) (o := 0) (v := .int .i64 0) (t := false) (by go_cell) (by go_cell)
  have fr1' := kf hb (b := w.heap.size + 1 + 1) (o := 1) (v := .int .i64 0) (t := false) (by go_cell) (by go_cell)
  have r0' := kc hb (b := w.heap.size + 1 + 1) (o := 0) (v := .int .i64 0) (by go_cell)
  have r1' := kc hb (b := w.heap.size + 1 + 1) (o := 1) (v := .int .i64 0) (by go_cell)
  have hB2 : Below w.heap.size w w2 := bt (ba hB _) hb
  have hz2 : w1.heap.size < w2.heap.size := by have := hb.size; simp at this; omega
  have hz3 : w.heap.size + 1 + 1 < w2.heap.size := by omega
  have hl : w.heap.size ≤ w.heap.size + 1 + 1 := by omega
  clear hb ym ye r0 r1 fr0 fr1 hB
  have W0 : ((w2.setCell ⟨w.heap.size + 1 + 1, 0, none⟩ (.int .i64 0)).setCell ⟨w.heap.size + 1 + 1, 1, none⟩ (.int .i64 0)).heap.size = w2.heap.size := by simp [World.setCell]
  have x0 : (((w2.setCell ⟨w.heap.size + 1 + 1, 0, none⟩ (.int .i64 0)).setCell ⟨w.heap.size + 1 + 1, 1, none⟩ (.int .i64 0)).alloc (.cells #[.int .i64 m1, .int .i64 e1] 67)).cell? ⟨w.heap.size + 1 + 1, 0, none⟩ = some (.int .i64 0) := by go_cell
  have x1 : (((w2.setCell ⟨w.heap.size + 1 + 1, 0, none⟩ (.int .i64 0)).setCell ⟨w.heap.size + 1 + 1, 1, none⟩ (.int .i64 0)).alloc (.cells #[.int .i64 m1, .int .i64 e1] 67)).cell? ⟨w.heap.size + 1 + 1, 1, none⟩ = some (.int .i64 0) := by go_cell
  cases t1 <;> cases t2
  case true.true => cases ht
  all_goals
    go_wp2
    refine bodyPost_ret (v := .tuple #[.agg #[.int .i64 0, .int .i64 0], .bool false]) (by simp [results, Try.results55, go_sem, x0, x1]; try rfl) rfl ⟨rfl, ?_⟩
    (first | exact bs (bs (ba hB2 _) hl _) hl _ | exact ba (bs (bs hB2 hl _) hl _) _ | exact bs (bs hB2 hl _) hl _)

theorem wh_out (neg : Bool) (q : Int) (hq : 0 ≤ q) (x : Int) (hx : x = if neg then -q else q) : WhI neg q = outI x ∧ WhB neg q = fits x := by rw [hx]; exact wh_is neg q hq
/-- A quotient by a divisor, with its sign. -/
theorem ab_quo (n g : Int) (hg : 0 < g) (hd : g ∣ n) : n / g = if decide (n < 0) then -(ab n / g) else ab n / g := by
  obtain ⟨k, rfl⟩ := hd
  rw [Int.mul_ediv_cancel_left _ (by omega)]
  rcases Int.lt_or_le k 0 with h | h
  · have h1 : g * k < 0 := Int.mul_neg_of_pos_of_neg hg h
    rw [decide_eq_true h1, ab_neg h1, if_pos rfl, show -(g * k) = g * -k by rw [Int.mul_neg], Int.mul_ediv_cancel_left _ (by omega)]; omega
  · have h1 : 0 ≤ g * k := Int.mul_nonneg (by omega) h
    rw [decide_eq_false (by omega), ab_pos h1, if_neg (by simp), Int.mul_ediv_cancel_left _ (by omega)]
theorem sign_mul (a b : Bool) (x y : Int) : (if a then -x else x) * (if b then -y else y) = if !(a == b) then -(x * y) else x * y := by
  cases a <;> cases b <;> simp [Int.neg_mul, Int.mul_neg]
theorem out_if (x y : Int) : (if (fits x && fits y) = true then outI x else 0) = (if (fits x && fits y) = true then x else 0) ∧ (if (fits x && fits y) = true then outI y else 0) = (if (fits x && fits y) = true then y else 0) := by
  unfold outI
  cases fits x <;> cases fits y <;> simp
theorem mul_ref (n d m e : Int) (hn : -9223372036854775808 ≤ n ∧ n ≤ 9223372036854775807) (hd : -9223372036854775808 ≤ d ∧ d ≤ 9223372036854775807) (hm : -9223372036854775808 ≤ m ∧ m ≤ 9223372036854775807) (he : -9223372036854775808 ≤ e ∧ e ≤ 9223372036854775807) (w : World) :
    Calls Try.prog 55 #[ratV n d, ratV m e] w fun en w' => en = .returned (.tuple #[ratV (MuN n d m e) (MuD n d m e), .bool (MuB n d m e)]) ∧ Below w.heap.size w w' := by
  have A1 := lowest_ref n d hn hd
  have A2 := lowest_ref m e hm he
  by_cases hv : 1 ≤ d ∧ 1 ≤ e
  · obtain ⟨v1, v2⟩ := hv
    obtain ⟨bn, bd0, bd1⟩ := red_bd n d hn ⟨v1, hd.2⟩
    obtain ⟨bm, be0, be1⟩ := red_bd m e hm ⟨v2, he.2⟩
    rw [show LoN n d = redN n d from if_neg (by omega), show LoD n d = redD n d from if_neg (by omega), show LoB d = true from decide_eq_true v1] at A1
    rw [show LoN m e = redN m e from if_neg (by omega), show LoD m e = redD m e from if_neg (by omega), show LoB e = true from decide_eq_true v2] at A2
    have SR := mul_red n d m e v1 v2
    have hS : MuB n d m e = okR (n * m) (d * e) := by unfold MuB; rw [decide_eq_true v1, decide_eq_true v2]; rfl
    unfold MuN MuD
    rw [hS]
    unfold okR
    rw [← SR.1, ← SR.2]
    clear SR hS
    unfold mulN mulD
    generalize redN n d = n1 at *
    generalize redD n d = d1 at *
    generalize redN m e = m1 at *
    generalize redD m e = e1 at *
    have bd' : -9223372036854775808 ≤ d1 ∧ d1 ≤ 9223372036854775807 := by omega
    have be' : -9223372036854775808 ≤ e1 ∧ e1 ≤ 9223372036854775807 := by omega
    have ad := ab_pos (n := d1) (by omega)
    have ae := ab_pos (n := e1) (by omega)
    have g0 := gcd_pos' n1 be0
    have h0 := gcd_pos' m1 bd0
    have dg1 := Int.gcd_dvd_left (a := n1) (b := e1)
    have dg2 := Int.gcd_dvd_right (a := n1) (b := e1)
    have dh1 := Int.gcd_dvd_left (a := m1) (b := d1)
    have dh2 := Int.gcd_dvd_right (a := m1) (b := d1)
    have G := gcd_ref (ab n1) (ab e1) (by have := ab_bd bn; omega) (by have := ab_bd be'; omega)
    have H := gcd_ref (ab m1) (ab d1) (by have := ab_bd bm; omega) (by have := ab_bd bd'; omega)
    rw [ab_gcd] at G H
    have qn := ab_quo n1 (Int.gcd n1 e1 : Int) (by omega) dg1
    have qm := ab_quo m1 (Int.gcd m1 d1 : Int) (by omega) dh1
    generalize ((Int.gcd n1 e1 : Nat) : Int) = g at *
    generalize ((Int.gcd m1 d1 : Nat) : Int) = h at *
    have k1 := ab_bd bn
    have k2 := ab_bd bm
    have u0 : 0 ≤ ab n1 / g := Int.ediv_nonneg k1.1 (by omega)
    have u1 := Int.ediv_le_self (a := ab n1) g k1.1
    have w0 : 0 ≤ ab m1 / h := Int.ediv_nonneg k2.1 (by omega)
    have w1 := Int.ediv_le_self (a := ab m1) h k2.1
    have s0 : 0 ≤ d1 / h := Int.ediv_nonneg (by omega) (by omega)
    have s1 := Int.ediv_le_self (a := d1) h (by omega)
    have t0 : 0 ≤ e1 / g := Int.ediv_nonneg (by omega) (by omega)
    have t1 := Int.ediv_le_self (a := e1) g (by omega)
    have P := product_ref (ab n1 / g) (ab m1 / h) (by omega) (by omega)
    have Q := product_ref (d1 / h) (e1 / g) (by omega) (by omega)
    have p0 : 0 ≤ ab n1 / g * (ab m1 / h) := Int.mul_nonneg u0 w0
    have p1 : ab n1 / g * (ab m1 / h) < 340282366920938463463374607431768211456 := by
      have : ab n1 / g * (ab m1 / h) ≤ 9223372036854775808 * (ab m1 / h) := Int.mul_le_mul_of_nonneg_right (by omega) w0
      omega
    have r0 : 0 ≤ d1 / h * (e1 / g) := Int.mul_nonneg s0 t0
    have r1 : d1 / h * (e1 / g) < 340282366920938463463374607431768211456 := by
      have : d1 / h * (e1 / g) ≤ 9223372036854775808 * (e1 / g) := Int.mul_le_mul_of_nonneg_right (by omega) t0
      omega
    have W1 := whole_ref (!(decide (n1 < 0) == decide (m1 < 0))) _ ⟨p0, p1⟩
    have W2 := whole_ref false _ ⟨r0, r1⟩
    have o1 := wh_out (!(decide (n1 < 0) == decide (m1 < 0))) _ p0 (n1 / g * (m1 / h)) (by rw [qn, qm, sign_mul])
    have o2 := wh_out false _ r0 (d1 / h * (e1 / g)) rfl
    rw [o1.1, o1.2] at W1
    rw [o2.1, o2.2] at W2
    have oi := out_if (n1 / g * (m1 / h)) (d1 / h * (e1 / g))
    have M := mulr_core n d m e n1 d1 m1 e1 (ab n1) (ab d1) (ab m1) (ab e1) g h _ _ _ _ _ _ _ _ _ _ _ _ _ _ rfl rfl (Lib.hid A1) (Lib.hid A2) (Lib.hid (size_b n1 bn)) (Lib.hid (size_b e1 be')) (Lib.hid (size_b m1 bm)) (Lib.hid (size_b d1 bd')) (Lib.hid G) (Lib.hid H)
      (Lib.hid P) (Lib.hid Q) (Lib.hid W1) (Lib.hid W2) (beq_eq_false_iff_ne.2 (by omega)) (beq_eq_false_iff_ne.2 (by omega)) rfl rfl (by rw [ad]) (by rw [ae]) k1.1 k2.1 (by omega) (by omega) (by omega) (by omega) (by omega) (by omega) (by omega) (by omega) w
    rw [oi.1, oi.2] at M
    exact M
  · have hS : MuB n d m e = false := by
      unfold MuB
      by_cases v1 : 1 ≤ d
      · rw [decide_eq_true v1, decide_eq_false (show ¬ 1 ≤ e by omega)]; rfl
      · rw [decide_eq_false v1]; rfl
    have hL : (LoB d && LoB e) = false := by
      unfold LoB
      by_cases v1 : 1 ≤ d
      · rw [decide_eq_true v1, decide_eq_false (show ¬ 1 ≤ e by omega)]; rfl
      · rw [decide_eq_false v1]; rfl
    unfold MuN MuD
    rw [hS]
    exact mulr_no n d m e _ _ _ _ _ _ hL (Lib.hid A1) (Lib.hid A2) w
end Go.Proofs.Ytcogoomajfahkaa.Ex
