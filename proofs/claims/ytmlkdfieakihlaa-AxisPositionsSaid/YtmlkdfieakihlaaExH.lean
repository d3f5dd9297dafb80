/-
  The walks of layer 1 (exact): Floor, Round, MulDiv.
-/
import Derived.Test.YtmlkdfieakihlaaExF
namespace Go.Proofs.Ytmlkdfieakihlaa.Ex
open Go.RowKit

theorem round_go (a b : Int) (ha : -9223372036854775808 ≤ a ∧ a ≤ 9223372036854775807) (hb : -9223372036854775808 ≤ b ∧ b ≤ 9223372036854775807) (w : World) :
    Calls Try.prog 32 #[.int .i64 a, .int .i64 b] w fun e w' => e = .returned (.tuple #[.int .i64 (RoI a b), .bool (RoB a b)]) ∧ Below w.heap.size w w' := by
  rcases Int.lt_or_le b 1 with h | h
  · have K : Hid (RoI a b = 0 ∧ RoB a b = false) := Lib.hid ⟨if_pos h, if_pos h⟩
    go_enter Try.func32, Try.ntmps32
    go_wp2
    go_ret2
    exact ⟨by rw [K.out.1, K.out.2]; rfl, Below.refl _ _⟩
  · have K : Hid (RoI a b = outI ((a * 2 + b * 1) / (2 * b)) ∧ RoB a b = fits ((a * 2 + b * 1) / (2 * b))) := Lib.hid (by
      rw [show a * 2 + b * 1 = 2 * a + b by omega]; exact ⟨if_neg (by omega), if_neg (by omega)⟩)
    have hf : Hid (fits2 (a * 2 + b * 1)) := Lib.hid (by unfold fits2; omega)
    go_enter Try.func32, Try.ntmps32
    go_wp2_with fail
    refine (product_any a 2 ha (by omega) _).mono ?_
    rintro e w' ⟨rfl, hb1⟩
    generalize hp : a * 2 = p at *
    go_wp2_with fail
    refine (product_any b 1 hb (by omega) _).mono ?_
    rintro e w2 ⟨rfl, hb2⟩
    generalize hq : b * 1 = q at *
    clear hp hq
    go_wp2_with fail
    refine (plus_any p q _).mono ?_
    rintro e w3 ⟨rfl, hb3⟩
    go_wp2_with fail
    refine (floor_any (p + q) (2 * b) hf.out (by omega) (by omega) _).mono ?_
    rintro e w4 ⟨rfl, hb4⟩
    go_wp2
    go_ret2
    exact ⟨by rw [K.out.1, K.out.2]; rfl, bt (bt (bt hb1 hb2) hb3) hb4⟩

end Go.Proofs.Ytmlkdfieakihlaa.Ex
