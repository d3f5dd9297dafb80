/-
  The walks of layer 1 (exact): Floor, Round, MulDiv.
-/
import Derived.Test.YtdgagjcocohnnaaExF
namespace Go.Proofs.Ytdgagjcocohnnaa.Ex
open Go.RowKit

theorem floor_go (a b : Int) (ha : -9223372036854775808 ≤ a ∧ a ≤ 9223372036854775807) (hb : -9223372036854775808 ≤ b ∧ b ≤ 9223372036854775807) (w : World) :
    Calls Try.prog 59 #[.int .i64 a, .int .i64 b] w fun e w' => e = .returned (.tuple #[.int .i64 (FlI a b), .bool (FlB a b)]) ∧ Below w.heap.size w w' := by
  by_cases h0 : b = 0
  · subst h0
    go_enter Try.func59, Try.ntmps59
    go_wp2
    go_ret2
    exact ⟨rfl, Below.refl _ _⟩
  · have hne : (b == 0) = false := beq_eq_false_iff_ne.2 h0
    have K : Hid (FlI a b = outI (floorQ a b) ∧ FlB a b = fits (floorQ a b)) := Lib.hid ⟨if_neg h0, if_neg h0⟩
    rcases Int.lt_or_le b 0 with h | h
    · have hs : sgn b = -1 := sgn_neg h
      have F : ∀ w, Calls Try.prog 74 #[wideV (-a), .int .u64 (-b)] w fun e w' => e = .returned (.tuple #[.int .i64 (FlI a b), .bool (FlB a b)]) ∧ Below w.heap.size w w' := fun w => by
        have := floor_any (-a) (-b) (by unfold fits2; omega) (by omega) (by omega) w
        rw [K.out.1, K.out.2, floorQ, hs, show b * -1 = -b by omega, show a * -1 = -a by omega]
        exact this
      have F' := Lib.hid F
      have S := Lib.hid hs
      have U : IntKind.u64.wrap (wrap64 (-b)) = -b := by unfold wrap64; rw [IntKind.wrap_u64]; omega
      clear F hs
      go_enter Try.func59, Try.ntmps59
      go_wp2_with fail
      refine (sign_int _ _).mono ?_
      rw [S.out]
      rintro e w' ⟨rfl, rfl⟩
      go_wp2_with fail
      refine (product_any a (-1) ha (by omega) _).mono ?_
      rintro e w' ⟨rfl, hb1⟩
      go_wp2_with fail
      refine (F'.out _).mono ?_
      rintro e w2 ⟨rfl, hb2⟩
      go_wp2
      go_ret2
      exact ⟨rfl, bt hb1 hb2⟩
    · have hs : sgn b = 1 := sgn_pos (by omega)
      have F : ∀ w, Calls Try.prog 74 #[wideV a, .int .u64 b] w fun e w' => e = .returned (.tuple #[.int .i64 (FlI a b), .bool (FlB a b)]) ∧ Below w.heap.size w w' := fun w => by
        have := floor_any a b (by unfold fits2; omega) (by omega) (by omega) w
        rw [K.out.1, K.out.2, floorQ, hs, show b * 1 = b by omega, show a * 1 = a by omega]
        exact this
      have F' := Lib.hid F
      have S := Lib.hid hs
      clear F hs
      go_enter Try.func59, Try.ntmps59
      go_wp2_with fail
      refine (sign_int _ _).mono ?_
      rw [S.out]
      rintro e w' ⟨rfl, rfl⟩
      go_wp2_with fail
      refine (product_any a 1 ha (by omega) _).mono ?_
      rintro e w' ⟨rfl, hb1⟩
      go_wp2_with fail
      refine (F'.out _).mono ?_
      rintro e w2 ⟨rfl, hb2⟩
      go_wp2
      go_ret2
      exact ⟨rfl, bt hb1 hb2⟩

theorem round_go (a b : Int) (ha : -9223372036854775808 ≤ a ∧ a ≤ 9223372036854775807) (hb : -9223372036854775808 ≤ b ∧ b ≤ 9223372036854775807) (w : World) :
    Calls Try.prog 60 #[.int .i64 a, .int .i64 b] w fun e w' => e = .returned (.tuple #[.int .i64 (RoI a b), .bool (RoB a b)]) ∧ Below w.heap.size w w' := by
  rcases Int.lt_or_le b 1 with h | h
  · have K : Hid (RoI a b = 0 ∧ RoB a b = false) := Lib.hid ⟨if_pos h, if_pos h⟩
    go_enter Try.func60, Try.ntmps60
    go_wp2
    go_ret2
    exact ⟨by rw [K.out.1, K.out.2]; rfl, Below.refl _ _⟩
  · have K : Hid (RoI a b = outI ((a * 2 + b * 1) / (2 * b)) ∧ RoB a b = fits ((a * 2 + b * 1) / (2 * b))) := Lib.hid (by
      rw [show a * 2 + b * 1 = 2 * a + b by omega]; exact ⟨if_neg (by omega), if_neg (by omega)⟩)
    have hf : Hid (fits2 (a * 2 + b * 1)) := Lib.hid (by unfold fits2; omega)
    go_enter Try.func60, Try.ntmps60
    go_wp2_with fail
    refine (product_any a 2 ha (by omega) _).mono ?_
    rintro e w' ⟨rfl, hb1⟩
    generalize hp : a * 2 = p at *
    go_wp2_with fail
    refine (product_any b 1 hb (by omega) _).mono ?_
    rintro e w2 ⟨rfl, hb2⟩
    generalize hq : b * 1 = q at *
    clear hp hq
    go_wp2_with fail
    refine (plus_any p q _).mono ?_
    rintro e w3 ⟨rfl, hb3⟩
    go_wp2_with fail
    refine (floor_any (p + q) (2 * b) hf.out (by omega) (by omega) _).mono ?_
    rintro e w4 ⟨rfl, hb4⟩
    go_wp2
    go_ret2
    exact ⟨by rw [K.out.1, K.out.2]; rfl, bt (bt (bt hb1 hb2) hb3) hb4⟩

end Go.Proofs.Ytdgagjcocohnnaa.Ex
