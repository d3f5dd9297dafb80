/-
  The walks of layer 1 (exact): math/bits' Div64, Rem64.
  The walks of layer 1 (exact): floor and rest of two words.
  The walks of layer 1 (exact): both in lowest terms; a ratio out of two numbers of two words.
  The walks of layer 1 (exact): Sum.
  The walks of layer 1 (exact): Mul.
  The walks of layer 1 (exact): Sum and Mul, whole.
  The walks of layer 1 (exact): Floor, Round, MulDiv.
-/
import Derived.Test.YtcogoomajfahkaaExOne
import Derived.Test.YtcogoomajfahkaaShelf
import Derived.Lib.ItoaNum
import Derived.Deep.QuietTactic
import Derived.Deep.DeepCutAuto
import Derived.BigQuiet
import Derived.Deep.CutBlock
import Derived.Deep.RegionHeld3
namespace Go.Proofs.Ytcogoomajfahkaa.Ex
open Go.RowKit

theorem lz_any (y : Int) (h : 1 ≤ y ∧ y < 18446744073709551616) (w : World) :
    Calls Try.prog 100 #[.int .u64 y] w fun e w' => ∃ s : Nat, e = .returned (.int .i64 s) ∧ s ≤ 63 ∧ 9223372036854775808 ≤ y * 2 ^ s ∧ y * 2 ^ s < 18446744073709551616 ∧ w = w' := by
  obtain ⟨n, rfl⟩ := Int.eq_ofNat_of_zero_le (show 0 ≤ y by omega)
  obtain ⟨b1, b2, b3⟩ := Lib.bitLenAux_bounds 64 n (by omega) (by omega)
  have b4 : Lib.bitLenAux 64 n ≤ 64 := Lib.bitLenAux_le 64 n 64 (by omega)
  refine (Try.bits_LeadingZeros64 (n : Int) w (by omega) (by omega)).mono ?_
  rintro e w' ⟨rfl, rfl⟩
  have e : Lib.bitLen ((n : Int)).toNat = Lib.bitLenAux 64 n := by simp [Lib.bitLen]
  rw [e]
  generalize Lib.bitLenAux 64 n = b at *
  have hp : 2 ^ (b - 1) * 2 ^ (64 - b) = 9223372036854775808 := by rw [← Nat.pow_add, show b - 1 + (64 - b) = 63 by omega]
  have hq : 2 ^ b * 2 ^ (64 - b) = 18446744073709551616 := by rw [← Nat.pow_add, show b + (64 - b) = 64 by omega]
  have p0 : 0 < 2 ^ (64 - b) := Nat.pow_pos (by omega)
  have l1 : 2 ^ (b - 1) * 2 ^ (64 - b) ≤ n * 2 ^ (64 - b) := Nat.mul_le_mul_right _ b2
  have l2 : n * 2 ^ (64 - b) < 2 ^ b * 2 ^ (64 - b) := Nat.mul_lt_mul_of_pos_right b3 p0
  have c : (n : Int) * 2 ^ (64 - b) = ((n * 2 ^ (64 - b) : Nat) : Int) := by simp
  refine ⟨64 - b, by rw [show ((64 - b : Nat) : Int) = 64 - (b : Int) by omega], by omega, ?_, ?_, rfl⟩ <;> rw [c] <;> omega

theorem or_sum (hi a : Int) (s : Nat) (h0 : 0 ≤ hi) (h1 : hi * 2 ^ s < 18446744073709551616) (a0 : 0 ≤ a) (a1 : a < 2 ^ s) (a2 : a < 18446744073709551616) :
    bits .or .u64 (hi * 2 ^ s) a = hi * 2 ^ s + a := by
  obtain ⟨n, rfl⟩ := Int.eq_ofNat_of_zero_le h0
  obtain ⟨m, rfl⟩ := Int.eq_ofNat_of_zero_le a0
  have e : (n : Int) * 2 ^ s = ((n * 2 ^ s : Nat) : Int) := by simp
  have e2 : m < 2 ^ s := by
    have : ((2 ^ s : Nat) : Int) = 2 ^ s := by simp
    omega
  rw [e] at h1 ⊢
  have h := bits_or_u64_nat (n * 2 ^ s) m (by omega) (by omega)
  rw [h, Nat.mul_comm n, ← Nat.two_pow_add_eq_or_of_lt e2]
  omega

theorem wrap_rem (u v Y : Int) (h0 : 0 < Y) (h1 : Y < 18446744073709551616) :
    IntKind.u64.wrap (IntKind.u64.wrap (IntKind.u64.wrap (u * 4294967296) + v) - IntKind.u64.wrap ((u * 4294967296 + v) / Y * Y)) = (u * 4294967296 + v) % Y := by
  have e := Int.mul_ediv_add_emod (u * 4294967296 + v) Y
  have r0 := Int.emod_nonneg (u * 4294967296 + v) (show Y ≠ 0 by omega)
  have r1 := Int.emod_lt_of_pos (u * 4294967296 + v) h0
  rw [Int.mul_comm Y] at e
  generalize (u * 4294967296 + v) / Y * Y = p at *
  generalize (u * 4294967296 + v) % Y = r at *
  simp only [IntKind.wrap_u64]
  omega

theorem and_low (a : Int) (h0 : 0 ≤ a) (h1 : a < 18446744073709551616) : bits .and .u64 a 4294967295 = a % 4294967296 := by
  obtain ⟨n, rfl⟩ := Int.eq_ofNat_of_zero_le h0
  rw [maskN n (by omega)]; omega

theorem div64_small (lo y : Int) (hl : 0 ≤ lo ∧ lo < 18446744073709551616) (hy : 1 ≤ y ∧ y < 18446744073709551616) (w : World) :
    Calls Try.prog 95 #[.int .u64 0, .int .u64 lo, .int .u64 y] w fun e w' => e = .returned (.tuple #[.int .u64 (lo / y), .int .u64 (lo % y)]) ∧ Below w.heap.size w w' := by
  obtain ⟨hl0, hl1⟩ := hl
  obtain ⟨hy0, hy1⟩ := hy
  have hne : (y == 0) = false := beq_eq_false_iff_ne.2 (by omega)
  have hle : decide (y ≤ 0) = false := by simp; omega
  go_enter Try.func95, Try.ntmps95
  go_wp2_with fail
  go_quiet (fail)
  go_wp2
  go_ret2
  exact ⟨rfl, ⟨rfl, rfl, rfl, Nat.le_refl _, fun _ _ => rfl⟩⟩

set_option maxHeartbeats 2000000 in
theorem div64_big (hi lo y : Int) (hh : 0 < hi ∧ hi < y) (hl : 0 ≤ lo ∧ lo < 18446744073709551616) (hy : y < 18446744073709551616) (w : World) :
    Calls Try.prog 95 #[.int .u64 hi, .int .u64 lo, .int .u64 y] w fun e w' => e = .returned (.tuple #[.int .u64 ((hi * 18446744073709551616 + lo) / y), .int .u64 ((hi * 18446744073709551616 + lo) % y)]) ∧ Below w.heap.size w w' := by
  obtain ⟨hl0, hl1⟩ := hl
  obtain ⟨hh0, hh1⟩ := hh
  have hne : (y == 0) = false := beq_eq_false_iff_ne.2 (by omega)
  have hle : decide (y ≤ hi) = false := by simp; omega
  have hhe : (hi == 0) = false := beq_eq_false_iff_ne.2 (by omega)
  go_enter Try.func95, Try.ntmps95
  go_wp2_with fail
  refine (lz_any y ⟨by omega, hy⟩ _).mono ?_
  rintro e w' ⟨s, rfl, hs, hs1, hs2, rfl⟩
  obtain ⟨p1, p2, p3, p4, p5, p6⟩ := shl_parts hi lo y s hs hh0 hh1 hl0 hl1 hs2
  have p4' : lo / 2 ^ (64 - s) < 18446744073709551616 := by omega
  have hor : bits .or .u64 (IntKind.u64.wrap (hi * 2 ^ s)) (lo / 2 ^ (64 - s)) = hi * 2 ^ s + lo / 2 ^ (64 - s) := by
    rw [IntWalk.u64_in (hi * 2 ^ s) ⟨by omega, by omega⟩]; exact or_sum hi _ s (by omega) p2 p3 p4 p4'
  obtain ⟨Y, hY⟩ : ∃ Y, y * 2 ^ s = Y := ⟨_, rfl⟩
  rw [hY] at hs1 hs2 p5
  obtain ⟨u, hu⟩ : ∃ u, hi * 2 ^ s + lo / 2 ^ (64 - s) = u := ⟨_, rfl⟩
  rw [hu] at p5 p6 hor
  have hu0 : 0 ≤ u := by omega
  obtain ⟨v, hv⟩ : ∃ v, IntKind.u64.wrap (lo * 2 ^ s) = v := ⟨_, rfl⟩
  have hvv : lo * 2 ^ s % 18446744073709551616 = v := by rw [← hv, IntKind.wrap_u64]
  rw [hvv] at p6
  have hv0 : 0 ≤ v := by omega
  have hv1 : v < 18446744073709551616 := by omega
  obtain ⟨y1, hy1⟩ : ∃ y1, Y / 4294967296 = y1 := ⟨_, rfl⟩
  obtain ⟨y0, hy0⟩ : ∃ y0, Y % 4294967296 = y0 := ⟨_, rfl⟩
  have hyb := and_low Y (by omega) (by omega)
  rw [hy0] at hyb
  obtain ⟨v1, hv1e⟩ : ∃ v1, v / 4294967296 = v1 := ⟨_, rfl⟩
  obtain ⟨v0, hv0e⟩ : ∃ v0, v % 4294967296 = v0 := ⟨_, rfl⟩
  have hvb := and_low v hv0 hv1
  rw [hv0e] at hvb
  have bY1 : 2147483648 ≤ y1 := by omega
  have bY1' : y1 < 4294967296 := by omega
  have bY0 : 0 ≤ y0 := by omega
  have bY0' : y0 < 4294967296 := by omega
  have bv1 : 0 ≤ v1 := by omega
  have bv1' : v1 < 4294967296 := by omega
  have bv0 : 0 ≤ v0 := by omega
  have bv0' : v0 < 4294967296 := by omega
  have hYs : Y = y1 * 4294967296 + y0 := by omega
  have HN := Lib.hid (two_digits (hi * 18446744073709551616 + lo) y Y s u v1 v0 (by omega) hY (by rw [show v1 * 4294967296 + v0 = v by omega]; exact p6))
  obtain ⟨k1, k2⟩ := kn_digit y1 y0 u v1 bY1 bY0 hu0 (by omega) bv1 bv1'
  obtain ⟨f1, f2, f3, f4, f5, f6⟩ := kn_first y1 y0 u v1 bY1 bY0 bY0' hu0 (by omega) bv1 bv1'
  obtain ⟨Q, hQ⟩ : ∃ Q, (u * 4294967296 + v1) / (y1 * 4294967296 + y0) = Q := ⟨_, rfl⟩
  have HL : Hid (∀ q r, q * y1 + r = u → (Q < q ↔ 4294967296 * r + v1 < q * y0)) := Lib.hid (fun q r e => by rw [← hQ]; exact kn_lt y1 y0 u v1 q r (by omega) e)
  have HE : Hid (∀ q r, q * y1 + r = u → 0 ≤ q → q ≤ 4294967296 → 4294967296 ≤ r → q ≤ Q) := Lib.hid (fun q r e a b c => by rw [← hQ]; exact kn_last y1 y0 u v1 q r bY1 bY0 bY0' bv1 e a b c)
  rw [hQ] at k1 k2 f1
  have HW : Hid (IntKind.u64.wrap (IntKind.u64.wrap (IntKind.u64.wrap (u * 4294967296) + v1) - IntKind.u64.wrap (Q * Y)) = (u * 4294967296 + v1) % Y) := Lib.hid (by
    rw [← hQ, hYs]; exact wrap_rem u v1 _ (by omega) (by omega))
  obtain ⟨m, hm⟩ : ∃ m, u / y1 * y1 = m := ⟨_, rfl⟩
  rw [hm] at f4 f5 f6
  have hul : u < 18446744073709551616 := by omega
  have Hm := Lib.hid hm
  have HQ := Lib.hid hQ
  have HYs := Lib.hid hYs
  have HYe := Lib.hid hY
  clear hQ hYs p6 hvv hy0 hv0e p1 p2 p3 p4 p4'
  go_upto_block 0 with (fail)
  go_cut [15, 16] (fun a b w' => a = .int .u64 Q ∧ (∃ r : Int, b = .int .u64 r) ∧ w = w')
  case first =>
    go_wp2_with fail
    go_loop [15, 16] (fun a b => ∃ x r : Int, a = .int .u64 x ∧ b = .int .u64 r ∧ Q ≤ x ∧ x ≤ 4294967297 ∧ 0 ≤ r ∧ r < 4294967296 ∧ Hid (x * y1 + r = u)) (fun a _ => (intOf a).toNat)
    case atStart => exact ⟨u / y1, _, rfl, rfl, by omega, by omega, by omega, by omega, Lib.hid (by rw [Hm.out]; omega)⟩
    case round =>
      obtain ⟨x, r, rfl, rfl, r1, r2, r3, r4, r5⟩ := hrel
      have hlt := HL.out x r r5.out
      obtain ⟨n, hn⟩ : ∃ n, x * y0 = n := ⟨_, rfl⟩
      have hn0 : 0 ≤ n := by rw [← hn]; exact Int.mul_nonneg (by omega) (by omega)
      rw [hn] at hlt
      rcases Int.lt_or_le Q x with c | c
      · have hc := hlt.1 c
        clear hlt
        have r6 := Lib.hid (show (x - 1) * y1 + (r + y1) = u by rw [Int.sub_mul]; have := r5.out; omega)
        have l1 := HE.out (x - 1) (r + y1) r6.out (by omega) (by omega)
        have hn1 : x < 4294967296 → n < 18446744073709551616 := fun d => by
          have : x * y0 ≤ 4294967296 * 4294967295 := Int.mul_le_mul (by omega) (by omega) (by omega) (by omega)
          omega
        rcases Int.lt_or_le (r + y1) 4294967296 with g | g
        · clear l1
          rcases Int.lt_or_le x 4294967296 with d | d
          · have hn2 := hn1 d
            clear hn1
            go_wp2
            go_round
            case rel => exact ⟨x - 1, r + y1, rfl, rfl, by omega, by omega, by omega, by omega, r6⟩
            case measure => simp [intOf]; omega
          · clear hn1
            go_wp2
            go_round
            case rel => exact ⟨x - 1, r + y1, rfl, rfl, by omega, by omega, by omega, by omega, r6⟩
            case measure => simp [intOf]; omega
        · have l2 := Lib.hid (show x - 1 = Q by have := l1 g; omega)
          clear l1
          rcases Int.lt_or_le x 4294967296 with d | d
          · have hn2 := hn1 d
            clear hn1
            go_wp2
            go_meet
            exact ⟨by rw [l2.out], ⟨_, rfl⟩, rfl⟩
          · clear hn1
            go_wp2
            go_meet
            exact ⟨by rw [l2.out], ⟨_, rfl⟩, rfl⟩
      · have hc : n ≤ 4294967296 * r + v1 := Int.not_lt.1 fun h => by have := hlt.2 h; omega
        have hx : x < 4294967296 := by omega
        have l2 := Lib.hid (show x = Q by omega)
        clear hlt c
        go_wp2
        go_meet
        exact ⟨by rw [l2.out], ⟨_, rfl⟩, rfl⟩
  case rest =>
    obtain ⟨rfl, ⟨rr, rfl⟩, rfl⟩ := hcut
    have hW := HW.out
    have R0 : 0 ≤ (u * 4294967296 + v1) % Y := Int.emod_nonneg _ (by omega)
    have R1 : (u * 4294967296 + v1) % Y < Y := Int.emod_lt_of_pos _ (by omega)
    obtain ⟨t, ht⟩ : ∃ t, (u * 4294967296 + v1) % Y = t := ⟨_, rfl⟩
    have HN' := HN
    rw [ht] at hW R0 R1 HN
    have hYs := HYs.out
    obtain ⟨k1', k2'⟩ := kn_digit y1 y0 t v0 bY1 bY0 R0 (by omega) bv0 bv0'
    obtain ⟨f1', f2', f3', f4', f5', f6'⟩ := kn_first y1 y0 t v0 bY1 bY0 bY0' R0 (by omega) bv0 bv0'
    obtain ⟨P, hP⟩ : ∃ P, (t * 4294967296 + v0) / (y1 * 4294967296 + y0) = P := ⟨_, rfl⟩
    have GL : Hid (∀ q r, q * y1 + r = t → (P < q ↔ 4294967296 * r + v0 < q * y0)) := Lib.hid (fun q r e => by rw [← hP]; exact kn_lt y1 y0 t v0 q r (by omega) e)
    have GE : Hid (∀ q r, q * y1 + r = t → 0 ≤ q → q ≤ 4294967296 → 4294967296 ≤ r → q ≤ P) := Lib.hid (fun q r e a b c => by rw [← hP]; exact kn_last y1 y0 t v0 q r bY1 bY0 bY0' bv0 e a b c)
    rw [hP] at k1' k2' f1'
    have GW := Lib.hid (wrap_rem t v0 Y (by omega) (by omega))
    obtain ⟨m2, hm2⟩ : ∃ m, t / y1 * y1 = m := ⟨_, rfl⟩
    rw [hm2] at f4' f5' f6'
    have htl : t < 18446744073709551616 := by omega
    have Gm := Lib.hid hm2
    have GP := Lib.hid hP
    clear hP ht hYs
    go_upto_block 2 with (fail)
    go_cut [18, 16] (fun a b w' => a = .int .u64 P ∧ (∃ r : Int, b = .int .u64 r) ∧ w = w')
    case first =>
      go_wp2_with fail
      go_loop [18, 16] (fun a b => ∃ x r : Int, a = .int .u64 x ∧ b = .int .u64 r ∧ P ≤ x ∧ x ≤ 4294967297 ∧ 0 ≤ r ∧ r < 4294967296 ∧ Hid (x * y1 + r = t)) (fun a _ => (intOf a).toNat)
      case atStart => exact ⟨t / y1, _, rfl, rfl, by omega, by omega, by omega, by omega, Lib.hid (by rw [Gm.out]; omega)⟩
      case round =>
        obtain ⟨x, r, rfl, rfl, r1, r2, r3, r4, r5⟩ := hrel
        have hlt := GL.out x r r5.out
        obtain ⟨n, hn⟩ : ∃ n, x * y0 = n := ⟨_, rfl⟩
        have hn0 : 0 ≤ n := by rw [← hn]; exact Int.mul_nonneg (by omega) (by omega)
        rw [hn] at hlt
        rcases Int.lt_or_le P x with c | c
        · have hc := hlt.1 c
          clear hlt
          have r6 := Lib.hid (show (x - 1) * y1 + (r + y1) = t by rw [Int.sub_mul]; have := r5.out; omega)
          have l1 := GE.out (x - 1) (r + y1) r6.out (by omega) (by omega)
          have hn1 : x < 4294967296 → n < 18446744073709551616 := fun d => by
            have : x * y0 ≤ 4294967296 * 4294967295 := Int.mul_le_mul (by omega) (by omega) (by omega) (by omega)
            omega
          rcases Int.lt_or_le (r + y1) 4294967296 with g | g
          · clear l1
            rcases Int.lt_or_le x 4294967296 with d | d
            · have hn2 := hn1 d
              clear hn1
              go_wp2
              go_round
              case rel => exact ⟨x - 1, r + y1, rfl, rfl, by omega, by omega, by omega, by omega, r6⟩
              case measure => simp [intOf]; omega
            · clear hn1
              go_wp2
              go_round
              case rel => exact ⟨x - 1, r + y1, rfl, rfl, by omega, by omega, by omega, by omega, r6⟩
              case measure => simp [intOf]; omega
          · have l2 := Lib.hid (show x - 1 = P by have := l1 g; omega)
            clear l1
            rcases Int.lt_or_le x 4294967296 with d | d
            · have hn2 := hn1 d
              clear hn1
              go_wp2
              go_meet
              exact ⟨by rw [l2.out], ⟨_, rfl⟩, rfl⟩
            · clear hn1
              go_wp2
              go_meet
              exact ⟨by rw [l2.out], ⟨_, rfl⟩, rfl⟩
        · have hc : n ≤ 4294967296 * r + v0 := Int.not_lt.1 fun h => by have := hlt.2 h; omega
          have hx : x < 4294967296 := by omega
          have l2 := Lib.hid (show x = P by omega)
          clear hlt c
          go_wp2
          go_meet
          exact ⟨by rw [l2.out], ⟨_, rfl⟩, rfl⟩
    case rest =>
      obtain ⟨rfl, ⟨rr, rfl⟩, rfl⟩ := hcut
      go_wp2
      go_ret2
      refine ⟨?_, Below.refl _ _⟩
      have p0 : (0 : Int) < 2 ^ s := Int.pow_pos (by omega)
      have hn := HN.out
      have hg := GW.out
      have hp := GP.out
      have hq := HQ.out
      rw [← HYs.out] at hp hq
      rw [hp] at hg hn
      rw [hq] at hn
      show Ending.returned (.tuple #[.int .u64 (Q * 4294967296 + P), .int .u64 (IntKind.u64.wrap (IntKind.u64.wrap (IntKind.u64.wrap (t * 4294967296) + v0) - IntKind.u64.wrap (P * Y)) / 2 ^ s)]) = _
      rw [hg, hn.1, hn.2, Int.mul_ediv_cancel _ (by omega)]

theorem div64_any (hi lo y : Int) (hh : 0 ≤ hi ∧ hi < y) (hl : 0 ≤ lo ∧ lo < 18446744073709551616) (hy : y < 18446744073709551616) (w : World) :
    Calls Try.prog 95 #[.int .u64 hi, .int .u64 lo, .int .u64 y] w fun e w' => e = .returned (.tuple #[.int .u64 ((hi * 18446744073709551616 + lo) / y), .int .u64 ((hi * 18446744073709551616 + lo) % y)]) ∧ Below w.heap.size w w' := by
  rcases Int.lt_or_eq_of_le hh.1 with h | h
  · exact div64_big hi lo y ⟨h, hh.2⟩ hl hy w
  · subst h
    have := div64_small lo y hl (by omega) w
    simpa using this

end Go.Proofs.Ytcogoomajfahkaa.Ex
namespace Go.Proofs.Ytcogoomajfahkaa.Ex
open Go.RowKit

theorem ret_ib {a b : Int} {c : Bool} (h : a = b) : Ending.returned (.tuple #[.int .i64 a, .bool c]) = .returned (.tuple #[.int .i64 b, .bool c]) := by rw [h]

set_option maxHeartbeats 1000000 in
theorem floor_any (x c : Int) (hx : fits2 x) (hc0 : 1 ≤ c) (hc1 : c < 18446744073709551616) (w : World) :
    Calls Try.prog 84 #[wideV x, .int .u64 c] w fun e w' => e = .returned (.tuple #[.int .i64 (outI (x / c)), .bool (fits (x / c))]) ∧ Below w.heap.size w w' := by
  obtain ⟨q1, q2, q3, q4, q5, q6, q7⟩ := floor_words x c hx hc0
  have hl := loW_bd (foldI x)
  have F := Lib.hid (fold_any x hx)
  unfold wideV at F ⊢
  generalize hiW (foldI x) = a at *
  generalize loW (foldI x) = f at *
  obtain ⟨hl0, hl1⟩ := hl
  obtain ⟨hm0, hm1⟩ : 0 ≤ maskV x ∧ maskV x < 18446744073709551616 := by unfold maskV; split <;> omega
  rcases Int.lt_or_le a c with h | h
  · obtain ⟨d0, d1⟩ := q5 h
    have K := Lib.hid (And.intro q6 q7)
    have D : ∀ w, Calls Try.prog 95 #[.int .u64 a, .int .u64 f, .int .u64 c] w fun e w' => e = .returned (.tuple #[.int .u64 (foldI x / c), .int .u64 (foldI x % c)]) ∧ Below w.heap.size w w' := fun w => by
      have := div64_any a f c ⟨q2, h⟩ ⟨hl0, hl1⟩ hc1 w
      rw [q1] at this
      exact this
    have D' := Lib.hid D
    clear q1 q4 q5 q6 q7 D
    generalize hq : foldI x / c = q at *
    have X0 := Lib.hid (xor_zero q d0 d1)
    have X1 := Lib.hid (xor_ones q d0 d1)
    generalize hm : maskV x = m at *
    have M := Lib.hid hm
    clear hq hm
    rcases Int.lt_or_le 9223372036854775807 q with g | g
    all_goals
      go_enter Try.func84, Try.ntmps84
      go_wp2_with fail
      refine (F.out _).mono ?_
      rintro e w' ⟨rfl, hb⟩
      obtain ⟨hcc, hff⟩ := bcell hb
      go_wp2_with fail
      refine (D'.out _).mono ?_
      rintro e w2 ⟨rfl, hb2⟩
      go_wp2
      go_ret2
    · obtain ⟨e1, e2⟩ := K.out.1 g
      exact ⟨by rw [e1, e2]; rfl, bt (ba (bt (ba (Below.refl _ _) _) hb) _) hb2⟩
    · obtain ⟨e1, e2⟩ := K.out.2 d0 g
      refine ⟨?_, bt (ba (bt (ba (Below.refl _ _) _) hb) _) hb2⟩
      rw [e1, e2, ← M.out]
      refine ret_ib (?_ : wrap64 (bits .xor .u64 q (maskV x)) = if x < 0 then -1 - q else q)
      unfold maskV
      split
      · rw [X1.out]; unfold wrap64; omega
      · rw [X0.out]; unfold wrap64; omega
  · obtain ⟨e1, e2⟩ := q4 h
    have K := Lib.hid (And.intro e1 e2)
    clear q1 q4 q5 q6 q7 e1 e2
    go_enter Try.func84, Try.ntmps84
    go_wp2_with fail
    refine (F.out _).mono ?_
    rintro e w' ⟨rfl, hb⟩
    obtain ⟨hcc, hff⟩ := bcell hb
    go_wp2
    go_ret2
    exact ⟨by rw [K.out.1, K.out.2]; rfl, ba (bt (ba (Below.refl _ _) _) hb) _⟩

end Go.Proofs.Ytcogoomajfahkaa.Ex
namespace Go.Proofs.Ytcogoomajfahkaa.Ex
open Go.RowKit

set_option maxHeartbeats 4000000 in
theorem both_any (n d m e : Int) (hn : -9223372036854775808 ≤ n ∧ n ≤ 9223372036854775807) (hd : d ≤ 9223372036854775807) (hm : -9223372036854775808 ≤ m ∧ m ≤ 9223372036854775807) (he : e ≤ 9223372036854775807) (w : World) :
    Calls Try.prog 88 #[ratV n d, ratV m e] w fun en w' => en = .returned (.tuple #[ratV (LoN n d) (LoD n d), ratV (LoN m e) (LoD m e), .bool (LoB d && LoB e)]) ∧ Below w.heap.size w w' := by
  have A := Lib.hid (lowest_any n d hn hd)
  have B := Lib.hid (lowest_any m e hm he)
  unfold ratV at *
  generalize LoN n d = n1 at *
  generalize LoD n d = d1 at *
  generalize LoB d = p at *
  generalize LoN m e = m1 at *
  generalize LoD m e = e1 at *
  generalize LoB e = q at *
  clear hn hd hm he
  cases p <;> cases q
  all_goals
    go_enter Try.func88, Try.ntmps88
    go_wp2_with fail
    refine (A.out _).mono ?_
    rintro en w1 ⟨rfl, hb1⟩
    have a1 := kc hb1 (b := w.heap.size) (o := 0) (v := .int .i64 n) (by go_cell)
    have fa1 := kf hb1 (b := w.heap.size) (o := 0) (v := .int .i64 n) (t := false) (by go_cell) (by go_cell)
    have b1 := kc hb1 (b := w.heap.size) (o := 1) (v := .int .i64 d) (by go_cell)
    have fb1 := kf hb1 (b := w.heap.size) (o := 1) (v := .int .i64 d) (t := false) (by go_cell) (by go_cell)
    have c1 := kc hb1 (b := w.heap.size + 1) (o := 0) (v := .int .i64 m) (by go_cell)
    have fc1 := kf hb1 (b := w.heap.size + 1) (o := 0) (v := .int .i64 m) (t := false) (by go_cell) (by go_cell)
    have g1 := kc hb1 (b := w.heap.size + 1) (o := 1) (v := .int .i64 e) (by go_cell)
    have fg1 := kf hb1 (b := w.heap.size + 1) (o := 1) (v := .int .i64 e) (t := false) (by go_cell) (by go_cell)
    have r1 := kc hb1 (b := w.heap.size + 1 + 1) (o := 0) (v := .int .i64 0) (by go_cell)
    have fr1 := kf hb1 (b := w.heap.size + 1 + 1) (o := 0) (v := .int .i64 0) (t := false) (by go_cell) (by go_cell)
    have s1 := kc hb1 (b := w.heap.size + 1 + 1) (o := 1) (v := .int .i64 0) (by go_cell)
    have fs1 := kf hb1 (b := w.heap.size + 1 + 1) (o := 1) (v := .int .i64 0) (t := false) (by go_cell) (by go_cell)
    have t1 := kc hb1 (b := w.heap.size + 1 + 1 + 1) (o := 0) (v := .int .i64 0) (by go_cell)
    have ft1 := kf hb1 (b := w.heap.size + 1 + 1 + 1) (o := 0) (v := .int .i64 0) (t := false) (by go_cell) (by go_cell)
    have u1 := kc hb1 (b := w.heap.size + 1 + 1 + 1) (o := 1) (v := .int .i64 0) (by go_cell)
    have fu1 := kf hb1 (b := w.heap.size + 1 + 1 + 1) (o := 1) (v := .int .i64 0) (t := false) (by go_cell) (by go_cell)
    have hB : Below w.heap.size w w1 := bt (ba (ba (ba (ba (Below.refl _ _) _) _) _) _) hb1
    clear hb1
    go_wp2_with fail
    refine (B.out _).mono ?_
    rintro en w2 ⟨rfl, hb2⟩
    have a2 := kc hb2 (b := w.heap.size) (o := 0) (v := .int .i64 n1) (by go_cell)
    have fa2 := kf hb2 (b := w.heap.size) (o := 0) (v := .int .i64 n1) (t := false) (by go_cell) (by go_cell)
    have b2 := kc hb2 (b := w.heap.size) (o := 1) (v := .int .i64 d1) (by go_cell)
    have fb2 := kf hb2 (b := w.heap.size) (o := 1) (v := .int .i64 d1) (t := false) (by go_cell) (by go_cell)
    have c2 := kc hb2 (b := w.heap.size + 1) (o := 0) (v := .int .i64 m) (by go_cell)
    have fc2 := kf hb2 (b := w.heap.size + 1) (o := 0) (v := .int .i64 m) (t := false) (by go_cell) (by go_cell)
    have g2 := kc hb2 (b := w.heap.size + 1) (o := 1) (v := .int .i64 e) (by go_cell)
    have fg2 := kf hb2 (b := w.heap.size + 1) (o := 1) (v := .int .i64 e) (t := false) (by go_cell) (by go_cell)
    have r2 := kc hb2 (b := w.heap.size + 1 + 1) (o := 0) (v := .int .i64 0) (by go_cell)
    have fr2 := kf hb2 (b := w.heap.size + 1 + 1) (o := 0) (v := .int .i64 0) (t := false) (by go_cell) (by go_cell)
    have s2 := kc hb2 (b := w.heap.size + 1 + 1) (o := 1) (v := .int .i64 0) (by go_cell)
    have fs2 := kf hb2 (b := w.heap.size + 1 + 1) (o := 1) (v := .int .i64 0) (t := false) (by go_cell) (by go_cell)
    have t2 := kc hb2 (b := w.heap.size + 1 + 1 + 1) (o := 0) (v := .int .i64 0) (by go_cell)
    have ft2 := kf hb2 (b := w.heap.size + 1 + 1 + 1) (o := 0) (v := .int .i64 0) (t := false) (by go_cell) (by go_cell)
    have u2 := kc hb2 (b := w.heap.size + 1 + 1 + 1) (o := 1) (v := .int .i64 0) (by go_cell)
    have fu2 := kf hb2 (b := w.heap.size + 1 + 1 + 1) (o := 1) (v := .int .i64 0) (t := false) (by go_cell) (by go_cell)
    replace hB : Below w.heap.size w w2 := bt (bs (bs hB (by simp) _) (by simp) _) hb2
    clear hb2 a1 fa1 b1 fb1 c1 fc1 g1 fg1 r1 fr1 s1 fs1 t1 ft1 u1 fu1
    go_wp2_with fail
    go_region
    go_wp2
    refine bodyPost_ret (by simp [results, Try.results88, go_sem, r2, s2, t2, u2]; try rfl) rfl ⟨rfl, ?_⟩
    repeat (first | (with_reducible exact hB) | (with_reducible refine bs ?_ (by simp; try omega) _) | (with_reducible refine bd1 ?_))

def rtB (n d g : Int) : Bool := fits (n / g) && fits (d / g)
def rtN (n d g : Int) : Int := if rtB n d g = true then n / g else 0
def rtD (n d g : Int) : Int := if rtB n d g = true then d / g else 0
theorem rt_out (n d g : Int) : rtB n d g = (fits (n / g) && fits (d / g)) ∧ rtN n d g = (if (fits (n / g) && fits (d / g)) = true then outI (n / g) else 0) ∧ rtD n d g = (if (fits (n / g) && fits (d / g)) = true then outI (d / g) else 0) := by
  unfold rtN rtD rtB outI
  refine ⟨rfl, ?_, ?_⟩ <;> cases fits (n / g) <;> cases fits (d / g) <;> rfl
set_option maxHeartbeats 2000000 in
theorem ratio_any (n d g : Int) (hn : fits2 n) (hd : fits2 d) (hg0 : 1 ≤ g) (hg1 : g < 18446744073709551616) (w : World) :
    Calls Try.prog 90 #[wideV n, wideV d, .int .u64 g] w fun en w' => en = .returned (.tuple #[ratV (rtN n d g) (rtD n d g), .bool (rtB n d g)]) ∧ Below w.heap.size w w' := by
  have A := Lib.hid (floor_any n g hn hg0 hg1)
  have B := Lib.hid (floor_any d g hd hg0 hg1)
  have K := Lib.hid (rt_out n d g)
  clear hn hd
  unfold ratV wideV at *
  generalize outI (n / g) = n1 at *
  generalize outI (d / g) = d1 at *
  generalize fits (n / g) = p at *
  generalize fits (d / g) = q at *
  cases p <;> cases q
  all_goals
    go_enter Try.func90, Try.ntmps90
    go_wp2_with fail
    refine (A.out _).mono ?_
    rintro en w1 ⟨rfl, hb1⟩
    have a1 := kc hb1 (b := w.heap.size) (o := 0) (v := .int .u64 (hiW n)) (by go_cell)
    have b1 := kc hb1 (b := w.heap.size) (o := 1) (v := .int .u64 (loW n)) (by go_cell)
    have c1 := kc hb1 (b := w.heap.size + 1) (o := 0) (v := .int .u64 (hiW d)) (by go_cell)
    have g1 := kc hb1 (b := w.heap.size + 1) (o := 1) (v := .int .u64 (loW d)) (by go_cell)
    have r1 := kc hb1 (b := w.heap.size + 1 + 1) (o := 0) (v := .int .i64 0) (by go_cell)
    have fr1 := kf hb1 (b := w.heap.size + 1 + 1) (o := 0) (v := .int .i64 0) (t := false) (by go_cell) (by go_cell)
    have s1 := kc hb1 (b := w.heap.size + 1 + 1) (o := 1) (v := .int .i64 0) (by go_cell)
    have fs1 := kf hb1 (b := w.heap.size + 1 + 1) (o := 1) (v := .int .i64 0) (t := false) (by go_cell) (by go_cell)
    have hB : Below w.heap.size w w1 := bt (ba (ba (ba (Below.refl _ _) _) _) _) hb1
    clear hb1
    go_wp2_with fail
    refine (B.out _).mono ?_
    rintro en w2 ⟨rfl, hb2⟩
    have r2 := kc hb2 (b := w.heap.size + 1 + 1) (o := 0) (v := .int .i64 0) (by go_cell)
    have fr2 := kf hb2 (b := w.heap.size + 1 + 1) (o := 0) (v := .int .i64 0) (t := false) (by go_cell) (by go_cell)
    have s2 := kc hb2 (b := w.heap.size + 1 + 1) (o := 1) (v := .int .i64 0) (by go_cell)
    have fs2 := kf hb2 (b := w.heap.size + 1 + 1) (o := 1) (v := .int .i64 0) (t := false) (by go_cell) (by go_cell)
    replace hB : Below w.heap.size w w2 := bt hB hb2
    clear hb2 a1 b1 c1 g1 r1 fr1 s1 fs1
    go_wp2
    refine bodyPost_ret (by simp [results, Try.results90, go_sem, r2, s2]; try rfl) rfl ⟨?_, ?_⟩
    · rw [K.out.1, K.out.2.1, K.out.2.2]
      rfl
    · repeat (first | (with_reducible exact hB) | (with_reducible refine bs ?_ (by simp; try omega) _) | (with_reducible refine bd1 ?_))

end Go.Proofs.Ytcogoomajfahkaa.Ex
namespace Go.Proofs.Ytcogoomajfahkaa.Ex
open Go.RowKit

/-- Beside one row that may be written: nothing that was there has turned. -/
theorem gr (w : World) (r : Nat) : w.grownBy w (some r) := ⟨rfl, rfl, rfl, Nat.le_refl _, fun _ _ _ => rfl⟩
theorem gd1 {a w : World} {r : Option Nat} (h : a.grownBy w r) : a.grownBy w.drew r := ⟨h.os, h.tape, h.output, h.size, h.block⟩
theorem gt {a w v : World} {r : Option Nat} (h : a.grownBy w r) (hb : Below w.heap.size w v) : a.grownBy v r :=
  ⟨hb.os.trans h.os, hb.tape.trans h.tape, hb.output.trans h.output, Nat.le_trans h.size hb.size, fun i hi hn => (hb.block i (Nat.lt_of_lt_of_le hi h.size)).trans (h.block i hi hn)⟩
theorem gs {a w : World} {r o : Nat} (h : a.grownBy w (some r)) (u : Value) : a.grownBy (w.setCell ⟨r, o, none⟩ u) (some r) :=
  ⟨h.os, h.tape, h.output, by simpa [World.setCell] using h.size, fun i hi hne => (Below.heap_setCell w _ u i (by rintro rfl; exact hne rfl)).trans (h.block i hi hne)⟩
theorem gc {a w : World} {r b o : Nat} {v : Value} (h : a.grownBy w (some r)) (hc : a.cell? ⟨b, o, none⟩ = some v) (hn : b ≠ r) : w.cell? ⟨b, o, none⟩ = some v :=
  h.cell hc (by simpa using hn)
theorem gB {w a v : World} {r : Nat} (h : Below w.heap.size w a) (g : a.grownBy v (some r)) (hr : w.heap.size ≤ r) : Below w.heap.size w v :=
  ⟨g.os.trans h.os, g.tape.trans h.tape, g.output.trans h.output, Nat.le_trans h.size g.size, fun i hi => (g.block i (Nat.lt_of_lt_of_le hi h.size) (fun e => by injection e; omega)).trans (h.block i hi)⟩

theorem quo_wrap (a b : Int) (ha : 0 ≤ a) (hb : 1 ≤ b) (ha1 : a ≤ 9223372036854775807) : IntKind.i64.wrap (a.tdiv b) = a / b := by
  have := Int.ediv_nonneg ha (show 0 ≤ b by omega)
  have := Int.ediv_le_self b ha
  rw [Int.tdiv_eq_ediv_of_nonneg ha]; exact IntWalk.i64_in _ (by omega)

end Go.Proofs.Ytcogoomajfahkaa.Ex
namespace Go.Proofs.Ytcogoomajfahkaa.Ex
open Go.RowKit

theorem quo_wrap' (a b : Int) (ha : -9223372036854775808 ≤ a ∧ a ≤ 9223372036854775807) (hb : 1 ≤ b) (h : b ∣ a) : IntKind.i64.wrap (a.tdiv b) = a / b := by
  rw [Int.tdiv_eq_ediv_of_dvd h]
  obtain ⟨k, rfl⟩ := h
  rw [Int.mul_ediv_cancel_left _ (by omega)]
  have hk : k.natAbs ≤ (b * k).natAbs := by rw [Int.natAbs_mul]; exact Nat.le_mul_of_pos_left _ (by omega)
  by_cases hn : k < 0
  · have h0 : b * k ≤ 0 := by
      have : b * -k ≥ 0 := Int.mul_nonneg (by omega) (by omega)
      rw [Int.mul_neg] at this; omega
    exact IntWalk.i64_in _ (by omega)
  · have h0 : 0 ≤ b * k := Int.mul_nonneg (by omega) (by omega)
    exact IntWalk.i64_in _ (by omega)

set_option maxHeartbeats 2000000 in
theorem mul_core (n d m e n1 d1 m1 e1 g h n2 m2 d2 e2 : Int)
    (B : Hid (∀ w, Calls Try.prog 88 #[ratV n d, ratV m e] w fun en w' => en = .returned (.tuple #[ratV n1 d1, ratV m1 e1, .bool true]) ∧ Below w.heap.size w w'))
    (G : Hid (∀ w, Calls Try.prog 89 #[.int .i64 n1, .int .i64 e1] w fun en w' => en = .returned (.int .i64 g) ∧ Below w.heap.size w w'))
    (K : Hid (∀ w, Calls Try.prog 89 #[.int .i64 m1, .int .i64 d1] w fun en w' => en = .returned (.int .i64 h) ∧ Below w.heap.size w w'))
    (P : Hid (∀ w, Calls Try.prog 83 #[.int .i64 n2, .int .i64 m2] w fun en w' => en = .returned (wideV (n2 * m2)) ∧ Below w.heap.size w w'))
    (Q : Hid (∀ w, Calls Try.prog 83 #[.int .i64 d2, .int .i64 e2] w fun en w' => en = .returned (wideV (d2 * e2)) ∧ Below w.heap.size w w'))
    (X : Hid (∀ w, Calls Try.prog 90 #[wideV (n2 * m2), wideV (d2 * e2), .int .u64 1] w fun en w' => en = .returned (.tuple #[ratV (rtN (n2 * m2) (d2 * e2) 1) (rtD (n2 * m2) (d2 * e2) 1), .bool (rtB (n2 * m2) (d2 * e2) 1)]) ∧ Below w.heap.size w w'))
    (q1 : IntKind.i64.wrap (n1.tdiv g) = n2) (q2 : IntKind.i64.wrap (m1.tdiv h) = m2) (q3 : IntKind.i64.wrap (d1.tdiv h) = d2) (q4 : IntKind.i64.wrap (e1.tdiv g) = e2)
    (t3 : d1 / h = d2) (t4 : e1 / g = e2)
    (hg : 1 ≤ g) (hh : 1 ≤ h) (w : World) :
    Calls Try.prog 80 #[ratV n d, ratV m e] w fun en w' => en = .returned (.tuple #[ratV (rtN (n2 * m2) (d2 * e2) 1) (rtD (n2 * m2) (d2 * e2) 1), .bool (rtB (n2 * m2) (d2 * e2) 1)]) ∧ Below w.heap.size w w' := by
  unfold ratV wideV at *
  generalize rtN (n2 * m2) (d2 * e2) 1 = xn at *
  generalize rtD (n2 * m2) (d2 * e2) 1 = xd at *
  generalize rtB (n2 * m2) (d2 * e2) 1 = xb at *
  generalize hiW (n2 * m2) = N0 at *
  generalize loW (n2 * m2) = N1 at *
  generalize hiW (d2 * e2) = D0 at *
  generalize loW (d2 * e2) = D1 at *
  have Q1 := Lib.hid q1
  have Q2 := Lib.hid q2
  have Q3 := Lib.hid q3
  have Q4 := Lib.hid q4
  have T3 := Lib.hid t3
  have T4 := Lib.hid t4
  clear q1 q2 q3 q4 t3 t4
  go_enter Try.func80, Try.ntmps80
  go_wp2_with fail
  refine (B.out _).mono ?_
  rintro en w1 ⟨rfl, hb1⟩
  have a1 := kc hb1 (b := w.heap.size) (o := 0) (v := .int .i64 n) (by go_cell)
  have fa1 := kf hb1 (b := w.heap.size) (o := 0) (v := .int .i64 n) (t := false) (by go_cell) (by go_cell)
  have b1 := kc hb1 (b := w.heap.size) (o := 1) (v := .int .i64 d) (by go_cell)
  have fb1 := kf hb1 (b := w.heap.size) (o := 1) (v := .int .i64 d) (t := false) (by go_cell) (by go_cell)
  have c1 := kc hb1 (b := w.heap.size + 1) (o := 0) (v := .int .i64 m) (by go_cell)
  have fc1 := kf hb1 (b := w.heap.size + 1) (o := 0) (v := .int .i64 m) (t := false) (by go_cell) (by go_cell)
  have g1 := kc hb1 (b := w.heap.size + 1) (o := 1) (v := .int .i64 e) (by go_cell)
  have fg1 := kf hb1 (b := w.heap.size + 1) (o := 1) (v := .int .i64 e) (t := false) (by go_cell) (by go_cell)
  have r1 := kc hb1 (b := w.heap.size + 1 + 1) (o := 0) (v := .int .i64 0) (by go_cell)
  have fr1 := kf hb1 (b := w.heap.size + 1 + 1) (o := 0) (v := .int .i64 0) (t := false) (by go_cell) (by go_cell)
  have s1 := kc hb1 (b := w.heap.size + 1 + 1) (o := 1) (v := .int .i64 0) (by go_cell)
  have fs1 := kf hb1 (b := w.heap.size + 1 + 1) (o := 1) (v := .int .i64 0) (t := false) (by go_cell) (by go_cell)
  have hB : Below w.heap.size w w1 := bt (ba (ba (ba (Below.refl _ _) _) _) _) hb1
  clear hb1
  go_upto_region 4 with (fail)
  obtain ⟨w2, hw2⟩ : ∃ w2 : World, w2 = (((w1.setCell ⟨w.heap.size, 0, none⟩ (.int .i64 n1)).setCell ⟨w.heap.size, 1, none⟩ (.int .i64 d1)).setCell ⟨w.heap.size + 1, 0, none⟩ (.int .i64 m1)).setCell ⟨w.heap.size + 1, 1, none⟩ (.int .i64 e1) := ⟨_, rfl⟩
  have hB2 : Below w.heap.size w w2 := by rw [hw2]; exact bs (bs (bs (bs hB (by simp) _) (by simp) _) (by simp) _) (by simp) _
  have a2 : w2.cell? ⟨w.heap.size, 0, none⟩ = some (.int .i64 n1) := by rw [hw2]; go_cell
  have b2 : w2.cell? ⟨w.heap.size, 1, none⟩ = some (.int .i64 d1) := by rw [hw2]; go_cell
  have c2 : w2.cell? ⟨w.heap.size + 1, 0, none⟩ = some (.int .i64 m1) := by rw [hw2]; go_cell
  have g2 : w2.cell? ⟨w.heap.size + 1, 1, none⟩ = some (.int .i64 e1) := by rw [hw2]; go_cell
  have r2 : w2.cell? ⟨w.heap.size + 1 + 1, 0, none⟩ = some (.int .i64 0) := by rw [hw2]; go_cell
  have s2 : w2.cell? ⟨w.heap.size + 1 + 1, 1, none⟩ = some (.int .i64 0) := by rw [hw2]; go_cell
  have fr2 : w2.frozen? ⟨w.heap.size + 1 + 1, 0, none⟩ = false := by rw [hw2]; go_cell
  have fs2 : w2.frozen? ⟨w.heap.size + 1 + 1, 1, none⟩ = false := by rw [hw2]; go_cell
  rw [← hw2]
  clear hw2 hB a1 fa1 b1 fb1 c1 fc1 g1 fg1 r1 fr1 s1 fs1
  have A3 : ∀ w', Below w2.heap.size w2 w' → w'.cell? ⟨w.heap.size, 0, none⟩ = some (.int .i64 n1) := fun _ h => kc h a2
  have B3 : ∀ w', Below w2.heap.size w2 w' → w'.cell? ⟨w.heap.size, 1, none⟩ = some (.int .i64 d1) := fun _ h => kc h b2
  have C3 : ∀ w', Below w2.heap.size w2 w' → w'.cell? ⟨w.heap.size + 1, 0, none⟩ = some (.int .i64 m1) := fun _ h => kc h c2
  have G3 : ∀ w', Below w2.heap.size w2 w' → w'.cell? ⟨w.heap.size + 1, 1, none⟩ = some (.int .i64 e1) := fun _ h => kc h g2
  go_region_held3 (fun w' => Below w2.heap.size w2 w') (first
    | (with_reducible exact bd1 (Below.refl _ _))
    | (with_reducible exact bt (by assumption) hba))
    (first
    | ((with_reducible refine (G.out _).mono ?_); rintro en wa ⟨rfl, hba⟩)
    | ((with_reducible refine (K.out _).mono ?_); rintro en wa ⟨rfl, hba⟩))
  have hb4 : Below w2.heap.size w2 wa := by with_reducible assumption
  obtain ⟨w4, rfl⟩ : ∃ w4 : World, w4 = wa := ⟨_, rfl⟩
  have hB := bt hB2 hb4
  have r4 := kc hb4 r2
  have s4 := kc hb4 s2
  have fr4 := kf hb4 r2 fr2
  have fs4 := kf hb4 s2 fs2
  replace a2 := kc hb4 a2
  replace b2 := kc hb4 b2
  replace c2 := kc hb4 c2
  replace g2 := kc hb4 g2
  clear hba hb4 hB2 A3 B3 C3 G3 r2 s2 fr2 fs2
  have A4 : ∀ w', w4.grownBy w' (some (w.heap.size + 1 + 1)) → w'.cell? ⟨w.heap.size, 0, none⟩ = some (.int .i64 n1) := fun _ h => gc h a2 (by omega)
  have B4 : ∀ w', w4.grownBy w' (some (w.heap.size + 1 + 1)) → w'.cell? ⟨w.heap.size, 1, none⟩ = some (.int .i64 d1) := fun _ h => gc h b2 (by omega)
  have C4 : ∀ w', w4.grownBy w' (some (w.heap.size + 1 + 1)) → w'.cell? ⟨w.heap.size + 1, 0, none⟩ = some (.int .i64 m1) := fun _ h => gc h c2 (by omega)
  have G4 : ∀ w', w4.grownBy w' (some (w.heap.size + 1 + 1)) → w'.cell? ⟨w.heap.size + 1, 1, none⟩ = some (.int .i64 e1) := fun _ h => gc h g2 (by omega)
  have q1 := Q1.out
  have q2 := Q2.out
  have q3 := Q3.out
  have q4 := Q4.out
  have t3 := T3.out
  have t4 := T4.out
  have gz : ¬ g = 0 := by omega
  have hz : ¬ h = 0 := by omega
  have gne : (g == 0) = false := beq_eq_false_iff_ne.2 gz
  have hne : (h == 0) = false := beq_eq_false_iff_ne.2 hz
  clear a2 b2 c2 g2
  go_upto_region 5 with (fail)
  go_region_held3 (fun w' => w4.grownBy w' (some (w.heap.size + 1 + 1))) (first
    | (with_reducible exact gd1 (gr _ _))
    | (with_reducible exact gt (by assumption) hba)
    | (with_reducible exact gs (gs (by assumption) _) _))
    (first
    | ((with_reducible refine (P.out _).mono ?_); rintro en wa ⟨rfl, hba⟩; have hqa : w4.grownBy wa (some (w.heap.size + 1 + 1)) := gt (by assumption) hba; replace fr4 := kf hba r4 fr4; replace fs4 := kf hba s4 fs4; replace r4 := kc hba r4; replace s4 := kc hba s4)
    | ((with_reducible refine (Q.out _).mono ?_); rintro en wa ⟨rfl, hba⟩; have hqa : w4.grownBy wa (some (w.heap.size + 1 + 1)) := gt (by assumption) hba; replace fr4 := kf hba r4 fr4; replace fs4 := kf hba s4 fs4; replace r4 := kc hba r4; replace s4 := kc hba s4)
    | ((with_reducible refine (X.out _).mono ?_); rintro en wa ⟨rfl, hba⟩; have hqa : w4.grownBy wa (some (w.heap.size + 1 + 1)) := gt (by assumption) hba; replace fr4 := kf hba r4 fr4; replace fs4 := kf hba s4 fs4; replace r4 := kc hba r4; replace s4 := kc hba s4))
  go_wp2
  refine bodyPost_ret (by simp [results, Try.results80, go_sem, r4, s4]; try rfl) rfl ⟨rfl, ?_⟩
  exact gB hB (by with_reducible assumption) (by omega)

end Go.Proofs.Ytcogoomajfahkaa.Ex
namespace Go.Proofs.Ytcogoomajfahkaa.Ex
open Go.RowKit

set_option maxHeartbeats 1000000 in
theorem mul_no (n d m e x1 x2 x3 x4 : Int)
    (B : Hid (∀ w, Calls Try.prog 88 #[ratV n d, ratV m e] w fun en w' => en = .returned (.tuple #[ratV x1 x2, ratV x3 x4, .bool false]) ∧ Below w.heap.size w w')) (w : World) :
    Calls Try.prog 80 #[ratV n d, ratV m e] w fun en w' => en = .returned (.tuple #[ratV 0 0, .bool false]) ∧ Below w.heap.size w w' := by
  unfold ratV at *
  go_enter Try.func80, Try.ntmps80
  go_wp2_with fail
  refine (B.out _).mono ?_
  rintro en w1 ⟨rfl, hb1⟩
  have a1 := kc hb1 (b := w.heap.size) (o := 0) (v := .int .i64 n) (by go_cell)
  have fa1 := kf hb1 (b := w.heap.size) (o := 0) (v := .int .i64 n) (t := false) (by go_cell) (by go_cell)
  have b1 := kc hb1 (b := w.heap.size) (o := 1) (v := .int .i64 d) (by go_cell)
  have fb1 := kf hb1 (b := w.heap.size) (o := 1) (v := .int .i64 d) (t := false) (by go_cell) (by go_cell)
  have c1 := kc hb1 (b := w.heap.size + 1) (o := 0) (v := .int .i64 m) (by go_cell)
  have fc1 := kf hb1 (b := w.heap.size + 1) (o := 0) (v := .int .i64 m) (t := false) (by go_cell) (by go_cell)
  have g1 := kc hb1 (b := w.heap.size + 1) (o := 1) (v := .int .i64 e) (by go_cell)
  have fg1 := kf hb1 (b := w.heap.size + 1) (o := 1) (v := .int .i64 e) (t := false) (by go_cell) (by go_cell)
  have r1 := kc hb1 (b := w.heap.size + 1 + 1) (o := 0) (v := .int .i64 0) (by go_cell)
  have fr1 := kf hb1 (b := w.heap.size + 1 + 1) (o := 0) (v := .int .i64 0) (t := false) (by go_cell) (by go_cell)
  have s1 := kc hb1 (b := w.heap.size + 1 + 1) (o := 1) (v := .int .i64 0) (by go_cell)
  have fs1 := kf hb1 (b := w.heap.size + 1 + 1) (o := 1) (v := .int .i64 0) (t := false) (by go_cell) (by go_cell)
  have hB : Below w.heap.size w w1 := bt (ba (ba (ba (Below.refl _ _) _) _) _) hb1
  clear hb1
  go_wp2
  refine bodyPost_ret (by simp [results, Try.results80, go_sem, r1, s1]; try rfl) rfl ⟨rfl, ?_⟩
  repeat (first | (with_reducible exact hB) | (with_reducible refine bs ?_ (by simp; try omega) _) | (with_reducible refine bd1 ?_))

theorem red_bd (n d : Int) (hn : -9223372036854775808 ≤ n ∧ n ≤ 9223372036854775807) (hd : 1 ≤ d ∧ d ≤ 9223372036854775807) :
    (-9223372036854775808 ≤ redN n d ∧ redN n d ≤ 9223372036854775807) ∧ 1 ≤ redD n d ∧ redD n d ≤ 9223372036854775807 := by
  have g := gcd_pos' n hd.1
  have h1 := redN_mul n d
  have h2 := redD_mul n d
  have h3 := redD_pos n hd.1
  generalize redN n d = x at *
  generalize redD n d = y at *
  generalize ((Int.gcd n d : Nat) : Int) = k at *
  have a1 : x.natAbs ≤ (k * x).natAbs := by rw [Int.natAbs_mul]; exact Nat.le_mul_of_pos_left _ (by omega)
  have a2 : y.natAbs ≤ (k * y).natAbs := by rw [Int.natAbs_mul]; exact Nat.le_mul_of_pos_left _ (by omega)
  refine ⟨⟨?_, ?_⟩, h3, by omega⟩
  · omega
  · by_cases h : x ≤ 0
    · omega
    · have : 0 ≤ k * x := Int.mul_nonneg (by omega) (by omega)
      omega

theorem both_yes (n d m e : Int) (hn : -9223372036854775808 ≤ n ∧ n ≤ 9223372036854775807) (hd : 1 ≤ d ∧ d ≤ 9223372036854775807) (hm : -9223372036854775808 ≤ m ∧ m ≤ 9223372036854775807) (he : 1 ≤ e ∧ e ≤ 9223372036854775807) (w : World) :
    Calls Try.prog 88 #[ratV n d, ratV m e] w fun en w' => en = .returned (.tuple #[ratV (redN n d) (redD n d), ratV (redN m e) (redD m e), .bool true]) ∧ Below w.heap.size w w' := by
  have h := both_any n d m e hn hd.2 hm he.2 w
  rw [show LoN n d = redN n d from if_neg (by omega), show LoD n d = redD n d from if_neg (by omega), show LoB d = true from decide_eq_true hd.1,
    show LoN m e = redN m e from if_neg (by omega), show LoD m e = redD m e from if_neg (by omega), show LoB e = true from decide_eq_true he.1] at h
  exact h

def MulSaid : Prop := ∀ n d m e : Int, -9223372036854775808 ≤ n ∧ n ≤ 9223372036854775807 → -9223372036854775808 ≤ d ∧ d ≤ 9223372036854775807 → -9223372036854775808 ≤ m ∧ m ≤ 9223372036854775807 → -9223372036854775808 ≤ e ∧ e ≤ 9223372036854775807 → ∀ w : World,
    Calls Try.prog 80 #[ratV n d, ratV m e] w fun en w' => en = .returned (.tuple #[ratV (MuN n d m e) (MuD n d m e), .bool (MuB n d m e)]) ∧ Below w.heap.size w w'

theorem mul_go : MulSaid := by
  intro n d m e hn hd hm he w
  by_cases hv : 1 ≤ d ∧ 1 ≤ e
  · obtain ⟨v1, v2⟩ := hv
    obtain ⟨bn, bd0, bd1⟩ := red_bd n d hn ⟨v1, hd.2⟩
    obtain ⟨bm, be0, be1⟩ := red_bd m e hm ⟨v2, he.2⟩
    have SR := mul_red n d m e v1 v2
    have B := both_yes n d m e hn ⟨v1, hd.2⟩ hm ⟨v2, he.2⟩
    have hS : MuB n d m e = okR (n * m) (d * e) := by unfold MuB; rw [decide_eq_true v1, decide_eq_true v2]; rfl
    unfold MuN MuD
    rw [hS]
    unfold okR
    rw [← SR.1, ← SR.2]
    clear SR hS
    generalize redN n d = n1 at *
    generalize redD n d = d1 at *
    generalize redN m e = m1 at *
    generalize redD m e = e1 at *
    obtain ⟨x1, x2, x3⟩ := red_bd n1 e1 bn ⟨be0, be1⟩
    obtain ⟨y1, y2, y3⟩ := red_bd m1 d1 bm ⟨bd0, bd1⟩
    have g0 := gcd_pos' n1 be0
    have h0 := gcd_pos' m1 bd0
    have fN : fits2 (redN n1 e1 * redN m1 d1) := fits2_mul x1 y1
    have fD : fits2 (redD m1 d1 * redD n1 e1) := fits2_mul (by omega) (by omega)
    have key := mul_core n d m e n1 d1 m1 e1 ((Int.gcd n1 e1 : Nat) : Int) ((Int.gcd m1 d1 : Nat) : Int) (redN n1 e1) (redN m1 d1) (redD m1 d1) (redD n1 e1)
      (Lib.hid B) (Lib.hid (divisor_i_any n1 e1 bn ⟨be0, be1⟩)) (Lib.hid (divisor_i_any m1 d1 bm ⟨bd0, bd1⟩)) (Lib.hid (product_any _ _ x1 y1)) (Lib.hid (product_any _ _ (by omega) (by omega)))
      (Lib.hid (ratio_any _ _ 1 fN fD (by omega) (by omega)))
      (quo_wrap' _ _ bn g0 (Int.gcd_dvd_left ..)) (quo_wrap' _ _ bm h0 (Int.gcd_dvd_left ..)) (quo_wrap' _ _ (by omega) h0 (Int.gcd_dvd_right ..)) (quo_wrap' _ _ (by omega) g0 (Int.gcd_dvd_right ..))
      rfl rfl g0 h0 w
    unfold rtN rtD rtB at key
    rw [Int.ediv_one, Int.ediv_one] at key
    exact key
  · have hS : MuB n d m e = false := by
      unfold MuB
      by_cases v1 : 1 ≤ d
      · rw [decide_eq_true v1, decide_eq_false (show ¬ 1 ≤ e by omega)]; rfl
      · rw [decide_eq_false v1]; rfl
    have hL : (LoB d && LoB e) = false := by
      unfold LoB
      by_cases v1 : 1 ≤ d
      · rw [decide_eq_true v1, decide_eq_false (show ¬ 1 ≤ e by omega)]; rfl
      · rw [decide_eq_false v1]; rfl
    have B := both_any n d m e hn hd.2 hm he.2
    rw [hL] at B
    unfold MuN MuD
    rw [hS]
    exact mul_no n d m e _ _ _ _ (Lib.hid B) w

end Go.Proofs.Ytcogoomajfahkaa.Ex
namespace Go.Proofs.Ytcogoomajfahkaa.Ex
open Go.RowKit

theorem muldiv_go (a b c : Int) (ha : -9223372036854775808 ≤ a ∧ a ≤ 9223372036854775807) (hb : -9223372036854775808 ≤ b ∧ b ≤ 9223372036854775807) (hc : -9223372036854775808 ≤ c ∧ c ≤ 9223372036854775807) (w : World) :
    Calls Try.prog 68 #[.int .i64 a, .int .i64 b, .int .i64 c] w fun e w' => e = .returned (.tuple #[.int .i64 (MdI a b c), .bool (MdB a b c)]) ∧ Below w.heap.size w w' := by
  rcases Int.lt_or_le c 1 with h | h
  · have K : Hid (MdI a b c = 0 ∧ MdB a b c = false) := Lib.hid ⟨if_pos h, if_pos h⟩
    go_enter Try.func68, Try.ntmps68
    go_wp2
    go_ret2
    exact ⟨by rw [K.out.1, K.out.2]; rfl, Below.refl _ _⟩
  · have K : Hid (MdI a b c = outI (a * b / c) ∧ MdB a b c = fits (a * b / c)) := Lib.hid ⟨if_neg (by omega), if_neg (by omega)⟩
    have hf : Hid (fits2 (a * b)) := Lib.hid (fits2_mul ha hb)
    go_enter Try.func68, Try.ntmps68
    go_wp2_with fail
    refine (product_any a b ha hb _).mono ?_
    rintro e w' ⟨rfl, hb1⟩
    go_wp2_with fail
    refine (floor_any (a * b) c hf.out h (by omega) _).mono ?_
    rintro e w2 ⟨rfl, hb2⟩
    go_wp2
    go_ret2
    exact ⟨by rw [K.out.1, K.out.2]; rfl, bt hb1 hb2⟩

theorem round_go (a b : Int) (ha : -9223372036854775808 ≤ a ∧ a ≤ 9223372036854775807) (hb : -9223372036854775808 ≤ b ∧ b ≤ 9223372036854775807) (w : World) :
    Calls Try.prog 69 #[.int .i64 a, .int .i64 b] w fun e w' => e = .returned (.tuple #[.int .i64 (RoI a b), .bool (RoB a b)]) ∧ Below w.heap.size w w' := by
  rcases Int.lt_or_le b 1 with h | h
  · have K : Hid (RoI a b = 0 ∧ RoB a b = false) := Lib.hid ⟨if_pos h, if_pos h⟩
    go_enter Try.func69, Try.ntmps69
    go_wp2
    go_ret2
    exact ⟨by rw [K.out.1, K.out.2]; rfl, Below.refl _ _⟩
  · have K : Hid (RoI a b = outI ((a * 2 + b * 1) / (2 * b)) ∧ RoB a b = fits ((a * 2 + b * 1) / (2 * b))) := Lib.hid (by
      rw [show a * 2 + b * 1 = 2 * a + b by omega]; exact ⟨if_neg (by omega), if_neg (by omega)⟩)
    have hf : Hid (fits2 (a * 2 + b * 1)) := Lib.hid (by unfold fits2; omega)
    go_enter Try.func69, Try.ntmps69
    go_wp2_with fail
    refine (product_any a 2 ha (by omega) _).mono ?_
    rintro e w' ⟨rfl, hb1⟩
    generalize hp : a * 2 = p at *
    go_wp2_with fail
    refine (product_any b 1 hb (by omega) _).mono ?_
    rintro e w2 ⟨rfl, hb2⟩
    generalize hq : b * 1 = q at *
    clear hp hq
    go_wp2_with fail
    refine (plus_any p q _).mono ?_
    rintro e w3 ⟨rfl, hb3⟩
    go_wp2_with fail
    refine (floor_any (p + q) (2 * b) hf.out (by omega) (by omega) _).mono ?_
    rintro e w4 ⟨rfl, hb4⟩
    go_wp2
    go_ret2
    exact ⟨by rw [K.out.1, K.out.2]; rfl, bt (bt (bt hb1 hb2) hb3) hb4⟩

end Go.Proofs.Ytcogoomajfahkaa.Ex
