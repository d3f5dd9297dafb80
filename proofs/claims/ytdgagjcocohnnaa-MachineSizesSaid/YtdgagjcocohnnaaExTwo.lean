/-
  The walks of layer 1 (exact): math/bits' Div64, Rem64.
  The walks of layer 1 (exact): floor and rest of two words.
  The walks of layer 1 (exact): Floor, Round, MulDiv.
-/
import Derived.Test.YtdgagjcocohnnaaExOne
import Derived.Test.YtdgagjcocohnnaaShelf
import Derived.Lib.ItoaNum
import Derived.Deep.QuietTactic
import Derived.Deep.DeepCutAuto
import Derived.BigQuiet
import Derived.Deep.CutBlock
namespace Go.Proofs.Ytdgagjcocohnnaa.Ex
open Go.RowKit

theorem lz_any (y : Int) (h : 1 ≤ y ∧ y < 18446744073709551616) (w : World) :
    Calls Try.prog 85 #[.int .u64 y] w fun e w' => ∃ s : Nat, e = .returned (.int .i64 s) ∧ s ≤ 63 ∧ 9223372036854775808 ≤ y * 2 ^ s ∧ y * 2 ^ s < 18446744073709551616 ∧ w = w' := by
  obtain ⟨n, rfl⟩ := Int.eq_ofNat_of_zero_le (show 0 ≤ y by omega)
  obtain ⟨b1, b2, b3⟩ := Lib.bitLenAux_bounds 64 n (by omega) (by omega)
  have b4 : Lib.bitLenAux 64 n ≤ 64 := Lib.bitLenAux_le 64 n 64 (by omega)
  refine (Try.bits_LeadingZeros64 (n : Int) w (by omega) (by omega)).mono ?_
  rintro e w' ⟨rfl, rfl⟩
  have e : Lib.bitLen ((n : Int)).toNat = Lib.bitLenAux 64 n := by simp [Lib.bitLen]
  rw [e]
  generalize Lib.bitLenAux 64 n = b at *
  have hp : 2 ^ (b - 1) * 2 ^ (64 - b) = 9223372036854775808 := by rw [← Nat.pow_add, show b - 1 + (64 - b) = 63 by omega]
  have hq : 2 ^ b * 2 ^ (64 - b) = 18446744073709551616 := by rw [← Nat.pow_add, show b + (64 - b) = 64 by omega]
  have p0 : 0 < 2 ^ (64 - b) := Nat.pow_pos (by omega)
  have l1 : 2 ^ (b - 1) * 2 ^ (64 - b) ≤ n * 2 ^ (64 - b) := Nat.mul_le_mul_right _ b2
  have l2 : n * 2 ^ (64 - b) < 2 ^ b * 2 ^ (64 - b) := Nat.mul_lt_mul_of_pos_right b3 p0
  have c : (n : Int) * 2 ^ (64 - b) = ((n * 2 ^ (64 - b) : Nat) : Int) := by simp
  refine ⟨64 - b, by rw [show ((64 - b : Nat) : Int) = 64 - (b : Int) by omega], by omega, ?_, ?_, rfl⟩ <;> rw [c] <;> omega

theorem or_sum (hi a : Int) (s : Nat) (h0 : 0 ≤ hi) (h1 : hi * 2 ^ s < 18446744073709551616) (a0 : 0 ≤ a) (a1 : a < 2 ^ s) (a2 : a < 18446744073709551616) :
    bits .or .u64 (hi * 2 ^ s) a = hi * 2 ^ s + a := by
  obtain ⟨n, rfl⟩ := Int.eq_ofNat_of_zero_le h0
  obtain ⟨m, rfl⟩ := Int.eq_ofNat_of_zero_le a0
  have e : (n : Int) * 2 ^ s = ((n * 2 ^ s : Nat) : Int) := by simp
  have e2 : m < 2 ^ s := by
    have : ((2 ^ s : Nat) : Int) = 2 ^ s := by simp
    omega
  rw [e] at h1 ⊢
  have h := bits_or_u64_nat (n * 2 ^ s) m (by omega) (by omega)
  rw [h, Nat.mul_comm n, ← Nat.two_pow_add_eq_or_of_lt e2]
  omega

theorem wrap_rem (u v Y : Int) (h0 : 0 < Y) (h1 : Y < 18446744073709551616) :
    IntKind.u64.wrap (IntKind.u64.wrap (IntKind.u64.wrap (u * 4294967296) + v) - IntKind.u64.wrap ((u * 4294967296 + v) / Y * Y)) = (u * 4294967296 + v) % Y := by
  have e := Int.mul_ediv_add_emod (u * 4294967296 + v) Y
  have r0 := Int.emod_nonneg (u * 4294967296 + v) (show Y ≠ 0 by omega)
  have r1 := Int.emod_lt_of_pos (u * 4294967296 + v) h0
  rw [Int.mul_comm Y] at e
  generalize (u * 4294967296 + v) / Y * Y = p at *
  generalize (u * 4294967296 + v) % Y = r at *
  simp only [IntKind.wrap_u64]
  omega

theorem and_low (a : Int) (h0 : 0 ≤ a) (h1 : a < 18446744073709551616) : bits .and .u64 a 4294967295 = a % 4294967296 := by
  obtain ⟨n, rfl⟩ := Int.eq_ofNat_of_zero_le h0
  rw [maskN n (by omega)]; omega

theorem div64_small (lo y : Int) (hl : 0 ≤ lo ∧ lo < 18446744073709551616) (hy : 1 ≤ y ∧ y < 18446744073709551616) (w : World) :
    Calls Try.prog 81 #[.int .u64 0, .int .u64 lo, .int .u64 y] w fun e w' => e = .returned (.tuple #[.int .u64 (lo / y), .int .u64 (lo % y)]) ∧ Below w.heap.size w w' := by
  obtain ⟨hl0, hl1⟩ := hl
  obtain ⟨hy0, hy1⟩ := hy
  have hne : (y == 0) = false := beq_eq_false_iff_ne.2 (by omega)
  have hle : decide (y ≤ 0) = false := by simp; omega
  go_enter Try.func81, Try.ntmps81
  go_wp2_with fail
  go_quiet (fail)
  go_wp2
  go_ret2
  exact ⟨rfl, ⟨rfl, rfl, rfl, Nat.le_refl _, fun _ _ => rfl⟩⟩

set_option maxHeartbeats 2000000 in
theorem div64_big (hi lo y : Int) (hh : 0 < hi ∧ hi < y) (hl : 0 ≤ lo ∧ lo < 18446744073709551616) (hy : y < 18446744073709551616) (w : World) :
    Calls Try.prog 81 #[.int .u64 hi, .int .u64 lo, .int .u64 y] w fun e w' => e = .returned (.tuple #[.int .u64 ((hi * 18446744073709551616 + lo) / y), .int .u64 ((hi * 18446744073709551616 + lo) % y)]) ∧ Below w.heap.size w w' := by
  obtain ⟨hl0, hl1⟩ := hl
  obtain ⟨hh0, hh1⟩ := hh
  have hne : (y == 0) = false := beq_eq_false_iff_ne.2 (by omega)
  have hle : decide (y ≤ hi) = false := by simp; omega
  have hhe : (hi == 0) = false := beq_eq_false_iff_ne.2 (by omega)
  go_enter Try.func81, Try.ntmps81
  go_wp2_with fail
  refine (lz_any y ⟨by omega, hy⟩ _).mono ?_
  rintro e w' ⟨s, rfl, hs, hs1, hs2, rfl⟩
  obtain ⟨p1, p2, p3, p4, p5, p6⟩ := shl_parts hi lo y s hs hh0 hh1 hl0 hl1 hs2
  have p4' : lo / 2 ^ (64 - s) < 18446744073709551616 := by omega
  have hor : bits .or .u64 (IntKind.u64.wrap (hi * 2 ^ s)) (lo / 2 ^ (64 - s)) = hi * 2 ^ s + lo / 2 ^ (64 - s) := by
    rw [IntWalk.u64_in (hi * 2 ^ s) ⟨by omega, by omega⟩]; exact or_sum hi _ s (by omega) p2 p3 p4 p4'
  obtain ⟨Y, hY⟩ : ∃ Y, y * 2 ^ s = Y := ⟨_, rfl⟩
  rw [hY] at hs1 hs2 p5
  obtain ⟨u, hu⟩ : ∃ u, hi * 2 ^ s + lo / 2 ^ (64 - s) = u := ⟨_, rfl⟩
  rw [hu] at p5 p6 hor
  have hu0 : 0 ≤ u := by omega
  obtain ⟨v, hv⟩ : ∃ v, IntKind.u64.wrap (lo * 2 ^ s) = v := ⟨_, rfl⟩
  have hvv : lo * 2 ^ s % 18446744073709551616 = v := by rw [← hv, IntKind.wrap_u64]
  rw [hvv] at p6
  have hv0 : 0 ≤ v := by omega
  have hv1 : v < 18446744073709551616 := by omega
  obtain ⟨y1, hy1⟩ : ∃ y1, Y / 4294967296 = y1 := ⟨_, rfl⟩
  obtain ⟨y0, hy0⟩ : ∃ y0, Y % 4294967296 = y0 := ⟨_, rfl⟩
  have hyb := and_low Y (by omega) (by omega)
  rw [hy0] at hyb
  obtain ⟨v1, hv1e⟩ : ∃ v1, v / 4294967296 = v1 := ⟨_, rfl⟩
  obtain ⟨v0, hv0e⟩ : ∃ v0, v % 4294967296 = v0 := ⟨_, rfl⟩
  have hvb := and_low v hv0 hv1
  rw [hv0e] at hvb
  have bY1 : 2147483648 ≤ y1 := by omega
  have bY1' : y1 < 4294967296 := by omega
  have bY0 : 0 ≤ y0 := by omega
  have bY0' : y0 < 4294967296 := by omega
  have bv1 : 0 ≤ v1 := by omega
  have bv1' : v1 < 4294967296 := by omega
  have bv0 : 0 ≤ v0 := by omega
  have bv0' : v0 < 4294967296 := by omega
  have hYs : Y = y1 * 4294967296 + y0 := by omega
  have HN := Lib.hid (two_digits (hi * 18446744073709551616 + lo) y Y s u v1 v0 (by omega) hY (by rw [show v1 * 4294967296 + v0 = v by omega]; exact p6))
  obtain ⟨k1, k2⟩ := kn_digit y1 y0 u v1 bY1 bY0 hu0 (by omega) bv1 bv1'
  obtain ⟨f1, f2, f3, f4, f5, f6⟩ := kn_first y1 y0 u v1 bY1 bY0 bY0' hu0 (by omega) bv1 bv1'
  obtain ⟨Q, hQ⟩ : ∃ Q, (u * 4294967296 + v1) / (y1 * 4294967296 + y0) = Q := ⟨_, rfl⟩
  have HL : Hid (∀ q r, q * y1 + r = u → (Q < q ↔ 4294967296 * r + v1 < q * y0)) := Lib.hid (fun q r e => by rw [← hQ]; exact kn_lt y1 y0 u v1 q r (by omega) e)
  have HE : Hid (∀ q r, q * y1 + r = u → 0 ≤ q → q ≤ 4294967296 → 4294967296 ≤ r → q ≤ Q) := Lib.hid (fun q r e a b c => by rw [← hQ]; exact kn_last y1 y0 u v1 q r bY1 bY0 bY0' bv1 e a b c)
  rw [hQ] at k1 k2 f1
  have HW : Hid (IntKind.u64.wrap (IntKind.u64.wrap (IntKind.u64.wrap (u * 4294967296) + v1) - IntKind.u64.wrap (Q * Y)) = (u * 4294967296 + v1) % Y) := Lib.hid (by
    rw [← hQ, hYs]; exact wrap_rem u v1 _ (by omega) (by omega))
  obtain ⟨m, hm⟩ : ∃ m, u / y1 * y1 = m := ⟨_, rfl⟩
  rw [hm] at f4 f5 f6
  have hul : u < 18446744073709551616 := by omega
  have Hm := Lib.hid hm
  have HQ := Lib.hid hQ
  have HYs := Lib.hid hYs
  have HYe := Lib.hid hY
  clear hQ hYs p6 hvv hy0 hv0e p1 p2 p3 p4 p4'
  go_upto_block 0 with (fail)
  go_cut [15, 16] (fun a b w' => a = .int .u64 Q ∧ (∃ r : Int, b = .int .u64 r) ∧ w = w')
  case first =>
    go_wp2_with fail
    go_loop [15, 16] (fun a b => ∃ x r : Int, a = .int .u64 x ∧ b = .int .u64 r ∧ Q ≤ x ∧ x ≤ 4294967297 ∧ 0 ≤ r ∧ r < 4294967296 ∧ Hid (x * y1 + r = u)) (fun a _ => (intOf a).toNat)
    case atStart => exact ⟨u / y1, _, rfl, rfl, by omega, by omega, by omega, by omega, Lib.hid (by rw [Hm.out]; omega)⟩
    case round =>
      obtain ⟨x, r, rfl, rfl, r1, r2, r3, r4, r5⟩ := hrel
      have hlt := HL.out x r r5.out
      obtain ⟨n, hn⟩ : ∃ n, x * y0 = n := ⟨_, rfl⟩
      have hn0 : 0 ≤ n := by rw [← hn]; exact Int.mul_nonneg (by omega) (by omega)
      rw [hn] at hlt
      rcases Int.lt_or_le Q x with c | c
      · have hc := hlt.1 c
        clear hlt
        have r6 := Lib.hid (show (x - 1) * y1 + (r + y1) = u by rw [Int.sub_mul]; have := r5.out; omega)
        have l1 := HE.out (x - 1) (r + y1) r6.out (by omega) (by omega)
        have hn1 : x < 4294967296 → n < 18446744073709551616 := fun d => by
          have : x * y0 ≤ 4294967296 * 4294967295 := Int.mul_le_mul (by omega) (by omega) (by omega) (by omega)
          omega
        rcases Int.lt_or_le (r + y1) 4294967296 with g | g
        · clear l1
          rcases Int.lt_or_le x 4294967296 with d | d
          · have hn2 := hn1 d
            clear hn1
            go_wp2
            go_round
            case rel => exact ⟨x - 1, r + y1, rfl, rfl, by omega, by omega, by omega, by omega, r6⟩
            case measure => simp [intOf]; omega
          · clear hn1
            go_wp2
            go_round
            case rel => exact ⟨x - 1, r + y1, rfl, rfl, by omega, by omega, by omega, by omega, r6⟩
            case measure => simp [intOf]; omega
        · have l2 := Lib.hid (show x - 1 = Q by have := l1 g; omega)
          clear l1
          rcases Int.lt_or_le x 4294967296 with d | d
          · have hn2 := hn1 d
            clear hn1
            go_wp2
            go_meet
            exact ⟨by rw [l2.out], ⟨_, rfl⟩, rfl⟩
          · clear hn1
            go_wp2
            go_meet
            exact ⟨by rw [l2.out], ⟨_, rfl⟩, rfl⟩
      · have hc : n ≤ 4294967296 * r + v1 := Int.not_lt.1 fun h => by have := hlt.2 h; omega
        have hx : x < 4294967296 := by omega
        have l2 := Lib.hid (show x = Q by omega)
        clear hlt c
        go_wp2
        go_meet
        exact ⟨by rw [l2.out], ⟨_, rfl⟩, rfl⟩
  case rest =>
    obtain ⟨rfl, ⟨rr, rfl⟩, rfl⟩ := hcut
    have hW := HW.out
    have R0 : 0 ≤ (u * 4294967296 + v1) % Y := Int.emod_nonneg _ (by omega)
    have R1 : (u * 4294967296 + v1) % Y < Y := Int.emod_lt_of_pos _ (by omega)
    obtain ⟨t, ht⟩ : ∃ t, (u * 4294967296 + v1) % Y = t := ⟨_, rfl⟩
    have HN' := HN
    rw [ht] at hW R0 R1 HN
    have hYs := HYs.out
    obtain ⟨k1', k2'⟩ := kn_digit y1 y0 t v0 bY1 bY0 R0 (by omega) bv0 bv0'
    obtain ⟨f1', f2', f3', f4', f5', f6'⟩ := kn_first y1 y0 t v0 bY1 bY0 bY0' R0 (by omega) bv0 bv0'
    obtain ⟨P, hP⟩ : ∃ P, (t * 4294967296 + v0) / (y1 * 4294967296 + y0) = P := ⟨_, rfl⟩
    have GL : Hid (∀ q r, q * y1 + r = t → (P < q ↔ 4294967296 * r + v0 < q * y0)) := Lib.hid (fun q r e => by rw [← hP]; exact kn_lt y1 y0 t v0 q r (by omega) e)
    have GE : Hid (∀ q r, q * y1 + r = t → 0 ≤ q → q ≤ 4294967296 → 4294967296 ≤ r → q ≤ P) := Lib.hid (fun q r e a b c => by rw [← hP]; exact kn_last y1 y0 t v0 q r bY1 bY0 bY0' bv0 e a b c)
    rw [hP] at k1' k2' f1'
    have GW := Lib.hid (wrap_rem t v0 Y (by omega) (by omega))
    obtain ⟨m2, hm2⟩ : ∃ m, t / y1 * y1 = m := ⟨_, rfl⟩
    rw [hm2] at f4' f5' f6'
    have htl : t < 18446744073709551616 := by omega
    have Gm := Lib.hid hm2
    have GP := Lib.hid hP
    clear hP ht hYs
    go_upto_block 2 with (fail)
    go_cut [18, 16] (fun a b w' => a = .int .u64 P ∧ (∃ r : Int, b = .int .u64 r) ∧ w = w')
    case first =>
      go_wp2_with fail
      go_loop [18, 16] (fun a b => ∃ x r : Int, a = .int .u64 x ∧ b = .int .u64 r ∧ P ≤ x ∧ x ≤ 4294967297 ∧ 0 ≤ r ∧ r < 4294967296 ∧ Hid (x * y1 + r = t)) (fun a _ => (intOf a).toNat)
      case atStart => exact ⟨t / y1, _, rfl, rfl, by omega, by omega, by omega, by omega, Lib.hid (by rw [Gm.out]; omega)⟩
      case round =>
        obtain ⟨x, r, rfl, rfl, r1, r2, r3, r4, r5⟩ := hrel
        have hlt := GL.out x r r5.out
        obtain ⟨n, hn⟩ : ∃ n, x * y0 = n := ⟨_, rfl⟩
        have hn0 : 0 ≤ n := by rw [← hn]; exact Int.mul_nonneg (by omega) (by omega)
        rw [hn] at hlt
        rcases Int.lt_or_le P x with c | c
        · have hc := hlt.1 c
          clear hlt
          have r6 := Lib.hid (show (x - 1) * y1 + (r + y1) = t by rw [Int.sub_mul]; have := r5.out; omega)
          have l1 := GE.out (x - 1) (r + y1) r6.out (by omega) (by omega)
          have hn1 : x < 4294967296 → n < 18446744073709551616 := fun d => by
            have : x * y0 ≤ 4294967296 * 4294967295 := Int.mul_le_mul (by omega) (by omega) (by omega) (by omega)
            omega
          rcases Int.lt_or_le (r + y1) 4294967296 with g | g
          · clear l1
            rcases Int.lt_or_le x 4294967296 with d | d
            · have hn2 := hn1 d
              clear hn1
              go_wp2
              go_round
              case rel => exact ⟨x - 1, r + y1, rfl, rfl, by omega, by omega, by omega, by omega, r6⟩
              case measure => simp [intOf]; omega
            · clear hn1
              go_wp2
              go_round
              case rel => exact ⟨x - 1, r + y1, rfl, rfl, by omega, by omega, by omega, by omega, r6⟩
              case measure => simp [intOf]; omega
          · have l2 := Lib.hid (show x - 1 = P by have := l1 g; omega)
            clear l1
            rcases Int.lt_or_le x 4294967296 with d | d
            · have hn2 := hn1 d
              clear hn1
              go_wp2
              go_meet
              exact ⟨by rw [l2.out], ⟨_, rfl⟩, rfl⟩
            · clear hn1
              go_wp2
              go_meet
              exact ⟨by rw [l2.out], ⟨_, rfl⟩, rfl⟩
        · have hc : n ≤ 4294967296 * r + v0 := Int.not_lt.1 fun h => by have := hlt.2 h; omega
          have hx : x < 4294967296 := by omega
          have l2 := Lib.hid (show x = P by omega)
          clear hlt c
          go_wp2
          go_meet
          exact ⟨by rw [l2.out], ⟨_, rfl⟩, rfl⟩
    case rest =>
      obtain ⟨rfl, ⟨rr, rfl⟩, rfl⟩ := hcut
      go_wp2
      go_ret2
      refine ⟨?_, Below.refl _ _⟩
      have p0 : (0 : Int) < 2 ^ s := Int.pow_pos (by omega)
      have hn := HN.out
      have hg := GW.out
      have hp := GP.out
      have hq := HQ.out
      rw [← HYs.out] at hp hq
      rw [hp] at hg hn
      rw [hq] at hn
      show Ending.returned (.tuple #[.int .u64 (Q * 4294967296 + P), .int .u64 (IntKind.u64.wrap (IntKind.u64.wrap (IntKind.u64.wrap (t * 4294967296) + v0) - IntKind.u64.wrap (P * Y)) / 2 ^ s)]) = _
      rw [hg, hn.1, hn.2, Int.mul_ediv_cancel _ (by omega)]

theorem div64_any (hi lo y : Int) (hh : 0 ≤ hi ∧ hi < y) (hl : 0 ≤ lo ∧ lo < 18446744073709551616) (hy : y < 18446744073709551616) (w : World) :
    Calls Try.prog 81 #[.int .u64 hi, .int .u64 lo, .int .u64 y] w fun e w' => e = .returned (.tuple #[.int .u64 ((hi * 18446744073709551616 + lo) / y), .int .u64 ((hi * 18446744073709551616 + lo) % y)]) ∧ Below w.heap.size w w' := by
  rcases Int.lt_or_eq_of_le hh.1 with h | h
  · exact div64_big hi lo y ⟨h, hh.2⟩ hl hy w
  · subst h
    have := div64_small lo y hl (by omega) w
    simpa using this

end Go.Proofs.Ytdgagjcocohnnaa.Ex
namespace Go.Proofs.Ytdgagjcocohnnaa.Ex
open Go.RowKit

theorem ret_ib {a b : Int} {c : Bool} (h : a = b) : Ending.returned (.tuple #[.int .i64 a, .bool c]) = .returned (.tuple #[.int .i64 b, .bool c]) := by rw [h]

set_option maxHeartbeats 1000000 in
theorem floor_any (x c : Int) (hx : fits2 x) (hc0 : 1 ≤ c) (hc1 : c < 18446744073709551616) (w : World) :
    Calls Try.prog 74 #[wideV x, .int .u64 c] w fun e w' => e = .returned (.tuple #[.int .i64 (outI (x / c)), .bool (fits (x / c))]) ∧ Below w.heap.size w w' := by
  obtain ⟨q1, q2, q3, q4, q5, q6, q7⟩ := floor_words x c hx hc0
  have hl := loW_bd (foldI x)
  have F := Lib.hid (fold_any x hx)
  unfold wideV at F ⊢
  generalize hiW (foldI x) = a at *
  generalize loW (foldI x) = f at *
  obtain ⟨hl0, hl1⟩ := hl
  obtain ⟨hm0, hm1⟩ : 0 ≤ maskV x ∧ maskV x < 18446744073709551616 := by unfold maskV; split <;> omega
  rcases Int.lt_or_le a c with h | h
  · obtain ⟨d0, d1⟩ := q5 h
    have K := Lib.hid (And.intro q6 q7)
    have D : ∀ w, Calls Try.prog 81 #[.int .u64 a, .int .u64 f, .int .u64 c] w fun e w' => e = .returned (.tuple #[.int .u64 (foldI x / c), .int .u64 (foldI x % c)]) ∧ Below w.heap.size w w' := fun w => by
      have := div64_any a f c ⟨q2, h⟩ ⟨hl0, hl1⟩ hc1 w
      rw [q1] at this
      exact this
    have D' := Lib.hid D
    clear q1 q4 q5 q6 q7 D
    generalize hq : foldI x / c = q at *
    have X0 := Lib.hid (xor_zero q d0 d1)
    have X1 := Lib.hid (xor_ones q d0 d1)
    generalize hm : maskV x = m at *
    have M := Lib.hid hm
    clear hq hm
    rcases Int.lt_or_le 9223372036854775807 q with g | g
    all_goals
      go_enter Try.func74, Try.ntmps74
      go_wp2_with fail
      refine (F.out _).mono ?_
      rintro e w' ⟨rfl, hb⟩
      obtain ⟨hcc, hff⟩ := bcell hb
      go_wp2_with fail
      refine (D'.out _).mono ?_
      rintro e w2 ⟨rfl, hb2⟩
      go_wp2
      go_ret2
    · obtain ⟨e1, e2⟩ := K.out.1 g
      exact ⟨by rw [e1, e2]; rfl, bt (ba (bt (ba (Below.refl _ _) _) hb) _) hb2⟩
    · obtain ⟨e1, e2⟩ := K.out.2 d0 g
      refine ⟨?_, bt (ba (bt (ba (Below.refl _ _) _) hb) _) hb2⟩
      rw [e1, e2, ← M.out]
      refine ret_ib (?_ : wrap64 (bits .xor .u64 q (maskV x)) = if x < 0 then -1 - q else q)
      unfold maskV
      split
      · rw [X1.out]; unfold wrap64; omega
      · rw [X0.out]; unfold wrap64; omega
  · obtain ⟨e1, e2⟩ := q4 h
    have K := Lib.hid (And.intro e1 e2)
    clear q1 q4 q5 q6 q7 e1 e2
    go_enter Try.func74, Try.ntmps74
    go_wp2_with fail
    refine (F.out _).mono ?_
    rintro e w' ⟨rfl, hb⟩
    obtain ⟨hcc, hff⟩ := bcell hb
    go_wp2
    go_ret2
    exact ⟨by rw [K.out.1, K.out.2]; rfl, ba (bt (ba (Below.refl _ _) _) hb) _⟩

end Go.Proofs.Ytdgagjcocohnnaa.Ex
namespace Go.Proofs.Ytdgagjcocohnnaa.Ex
open Go.RowKit

theorem floor_go (a b : Int) (ha : -9223372036854775808 ≤ a ∧ a ≤ 9223372036854775807) (hb : -9223372036854775808 ≤ b ∧ b ≤ 9223372036854775807) (w : World) :
    Calls Try.prog 59 #[.int .i64 a, .int .i64 b] w fun e w' => e = .returned (.tuple #[.int .i64 (FlI a b), .bool (FlB a b)]) ∧ Below w.heap.size w w' := by
  by_cases h0 : b = 0
  · subst h0
    go_enter Try.func59, Try.ntmps59
    go_wp2
    go_ret2
    exact ⟨rfl, Below.refl _ _⟩
  · have hne : (b == 0) = false := beq_eq_false_iff_ne.2 h0
    have K : Hid (FlI a b = outI (floorQ a b) ∧ FlB a b = fits (floorQ a b)) := Lib.hid ⟨if_neg h0, if_neg h0⟩
    rcases Int.lt_or_le b 0 with h | h
    · have hs : sgn b = -1 := sgn_neg h
      have F : ∀ w, Calls Try.prog 74 #[wideV (-a), .int .u64 (-b)] w fun e w' => e = .returned (.tuple #[.int .i64 (FlI a b), .bool (FlB a b)]) ∧ Below w.heap.size w w' := fun w => by
        have := floor_any (-a) (-b) (by unfold fits2; omega) (by omega) (by omega) w
        rw [K.out.1, K.out.2, floorQ, hs, show b * -1 = -b by omega, show a * -1 = -a by omega]
        exact this
      have F' := Lib.hid F
      have S := Lib.hid hs
      have U : IntKind.u64.wrap (wrap64 (-b)) = -b := by unfold wrap64; rw [IntKind.wrap_u64]; omega
      clear F hs
      go_enter Try.func59, Try.ntmps59
      go_wp2_with fail
      refine (sign_int _ _).mono ?_
      rw [S.out]
      rintro e w' ⟨rfl, rfl⟩
      go_wp2_with fail
      refine (product_any a (-1) ha (by omega) _).mono ?_
      rintro e w' ⟨rfl, hb1⟩
      go_wp2_with fail
      refine (F'.out _).mono ?_
      rintro e w2 ⟨rfl, hb2⟩
      go_wp2
      go_ret2
      exact ⟨rfl, bt hb1 hb2⟩
    · have hs : sgn b = 1 := sgn_pos (by omega)
      have F : ∀ w, Calls Try.prog 74 #[wideV a, .int .u64 b] w fun e w' => e = .returned (.tuple #[.int .i64 (FlI a b), .bool (FlB a b)]) ∧ Below w.heap.size w w' := fun w => by
        have := floor_any a b (by unfold fits2; omega) (by omega) (by omega) w
        rw [K.out.1, K.out.2, floorQ, hs, show b * 1 = b by omega, show a * 1 = a by omega]
        exact this
      have F' := Lib.hid F
      have S := Lib.hid hs
      clear F hs
      go_enter Try.func59, Try.ntmps59
      go_wp2_with fail
      refine (sign_int _ _).mono ?_
      rw [S.out]
      rintro e w' ⟨rfl, rfl⟩
      go_wp2_with fail
      refine (product_any a 1 ha (by omega) _).mono ?_
      rintro e w' ⟨rfl, hb1⟩
      go_wp2_with fail
      refine (F'.out _).mono ?_
      rintro e w2 ⟨rfl, hb2⟩
      go_wp2
      go_ret2
      exact ⟨rfl, bt hb1 hb2⟩

theorem round_go (a b : Int) (ha : -9223372036854775808 ≤ a ∧ a ≤ 9223372036854775807) (hb : -9223372036854775808 ≤ b ∧ b ≤ 9223372036854775807) (w : World) :
    Calls Try.prog 60 #[.int .i64 a, .int .i64 b] w fun e w' => e = .returned (.tuple #[.int .i64 (RoI a b), .bool (RoB a b)]) ∧ Below w.heap.size w w' := by
  rcases Int.lt_or_le b 1 with h | h
  · have K : Hid (RoI a b = 0 ∧ RoB a b = false) := Lib.hid ⟨if_pos h, if_pos h⟩
    go_enter Try.func60, Try.ntmps60
    go_wp2
    go_ret2
    exact ⟨by rw [K.out.1, K.out.2]; rfl, Below.refl _ _⟩
  · have K : Hid (RoI a b = outI ((a * 2 + b * 1) / (2 * b)) ∧ RoB a b = fits ((a * 2 + b * 1) / (2 * b))) := Lib.hid (by
      rw [show a * 2 + b * 1 = 2 * a + b by omega]; exact ⟨if_neg (by omega), if_neg (by omega)⟩)
    have hf : Hid (fits2 (a * 2 + b * 1)) := Lib.hid (by unfold fits2; omega)
    go_enter Try.func60, Try.ntmps60
    go_wp2_with fail
    refine (product_any a 2 ha (by omega) _).mono ?_
    rintro e w' ⟨rfl, hb1⟩
    generalize hp : a * 2 = p at *
    go_wp2_with fail
    refine (product_any b 1 hb (by omega) _).mono ?_
    rintro e w2 ⟨rfl, hb2⟩
    generalize hq : b * 1 = q at *
    clear hp hq
    go_wp2_with fail
    refine (plus_any p q _).mono ?_
    rintro e w3 ⟨rfl, hb3⟩
    go_wp2_with fail
    refine (floor_any (p + q) (2 * b) hf.out (by omega) (by omega) _).mono ?_
    rintro e w4 ⟨rfl, hb4⟩
    go_wp2
    go_ret2
    exact ⟨by rw [K.out.1, K.out.2]; rfl, bt (bt (bt hb1 hb2) hb3) hb4⟩

end Go.Proofs.Ytdgagjcocohnnaa.Ex
