/-
  The walks of layer 1 (exact): fold.
-/
import Derived.Test.YtdgagjcocohnnaaExC
namespace Go.Proofs.Ytdgagjcocohnnaa.Ex
open Go.RowKit

theorem fold_words (x : Int) (h : fits2 x) : (hiW x < 9223372036854775808 → hiW (foldI x) = hiW x ∧ loW (foldI x) = loW x ∧ maskV x = 0) ∧
    (9223372036854775808 ≤ hiW x → hiW (foldI x) = 18446744073709551615 - hiW x ∧ loW (foldI x) = 18446744073709551615 - loW x ∧ maskV x = 18446744073709551615) := by
  have k := fold_hi x h
  unfold fits2 at h
  unfold foldI maskV
  refine ⟨fun h0 => ?_, fun h0 => ?_⟩
  · rw [if_neg (by omega), if_neg (by omega)]; exact ⟨rfl, rfl, rfl⟩
  · rw [if_pos (k.1 h0), if_pos (k.1 h0)]; unfold hiW loW; omega

theorem fold_any (x : Int) (h : fits2 x) (w : World) :
    Calls Try.prog 80 #[wideV x] w fun e w' => e = .returned (.tuple #[wideV (foldI x), .int .u64 (maskV x)]) ∧ Below w.heap.size w w' := by
  obtain ⟨hx0, hx1⟩ := hiW_bd x
  obtain ⟨lx0, lx1⟩ := loW_bd x
  have S := Lib.hid (fold_words x h)
  have X0 := Lib.hid (xor_zero (hiW x) hx0 hx1)
  have X1 := Lib.hid (xor_zero (loW x) lx0 lx1)
  have Y0 := Lib.hid (xor_ones (hiW x) hx0 hx1)
  have Y1 := Lib.hid (xor_ones (loW x) lx0 lx1)
  unfold wideV
  generalize hx : hiW x = a at *
  generalize lx : loW x = f at *
  clear hx lx h
  rcases Int.lt_or_le a 9223372036854775808 with h1 | h1
  all_goals
    go_enter Try.func80, Try.ntmps80
    go_wp2
    go_returns
    refine ⟨?_, by go_grown⟩
    first
    | have e : a / 9223372036854775808 = 0 := by omega
      obtain ⟨s1, s2, s3⟩ := S.out.1 h1
      rw [s1, s2, s3, e, X0.out, X1.out]
    | have e : IntKind.u64.wrap (wrap64 a / 9223372036854775808) = 18446744073709551615 := by unfold wrap64; rw [IntKind.wrap_u64]; omega
      obtain ⟨s1, s2, s3⟩ := S.out.2 h1
      rw [s1, s2, s3, e, Y0.out, Y1.out]

end Go.Proofs.Ytdgagjcocohnnaa.Ex
