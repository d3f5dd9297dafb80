/-
  The walks of layer 1 (exact): floor and rest of two words.
-/
import Derived.Test.YtdgagjcocohnnaaExE
namespace Go.Proofs.Ytdgagjcocohnnaa.Ex
open Go.RowKit

theorem ret_ib {a b : Int} {c : Bool} (h : a = b) : Ending.returned (.tuple #[.int .i64 a, .bool c]) = .returned (.tuple #[.int .i64 b, .bool c]) := by rw [h]

set_option maxHeartbeats 1000000 in
theorem floor_any (x c : Int) (hx : fits2 x) (hc0 : 1 ≤ c) (hc1 : c < 18446744073709551616) (w : World) :
    Calls Try.prog 74 #[wideV x, .int .u64 c] w fun e w' => e = .returned (.tuple #[.int .i64 (outI (x / c)), .bool (fits (x / c))]) ∧ Below w.heap.size w w' := by
  obtain ⟨q1, q2, q3, q4, q5, q6, q7⟩ := floor_words x c hx hc0
  have hl := loW_bd (foldI x)
  have F := Lib.hid (fold_any x hx)
  unfold wideV at F ⊢
  generalize hiW (foldI x) = a at *
  generalize loW (foldI x) = f at *
  obtain ⟨hl0, hl1⟩ := hl
  obtain ⟨hm0, hm1⟩ : 0 ≤ maskV x ∧ maskV x < 18446744073709551616 := by unfold maskV; split <;> omega
  rcases Int.lt_or_le a c with h | h
  · obtain ⟨d0, d1⟩ := q5 h
    have K := Lib.hid (And.intro q6 q7)
    have D : ∀ w, Calls Try.prog 81 #[.int .u64 a, .int .u64 f, .int .u64 c] w fun e w' => e = .returned (.tuple #[.int .u64 (foldI x / c), .int .u64 (foldI x % c)]) ∧ Below w.heap.size w w' := fun w => by
      have := div64_any a f c ⟨q2, h⟩ ⟨hl0, hl1⟩ hc1 w
      rw [q1] at this
      exact this
    have D' := Lib.hid D
    clear q1 q4 q5 q6 q7 D
    generalize hq : foldI x / c = q at *
    have X0 := Lib.hid (xor_zero q d0 d1)
    have X1 := Lib.hid (xor_ones q d0 d1)
    generalize hm : maskV x = m at *
    have M := Lib.hid hm
    clear hq hm
    rcases Int.lt_or_le 9223372036854775807 q with g | g
    all_goals
      go_enter Try.func74, Try.ntmps74
      go_wp2_with fail
      refine (F.out _).mono ?_
      rintro e w' ⟨rfl, hb⟩
      obtain ⟨hcc, hff⟩ := bcell hb
      go_wp2_with fail
      refine (D'.out _).mono ?_
      rintro e w2 ⟨rfl, hb2⟩
      go_wp2
      go_ret2
    · obtain ⟨e1, e2⟩ := K.out.1 g
      exact ⟨by rw [e1, e2]; rfl, bt (ba (bt (ba (Below.refl _ _) _) hb) _) hb2⟩
    · obtain ⟨e1, e2⟩ := K.out.2 d0 g
      refine ⟨?_, bt (ba (bt (ba (Below.refl _ _) _) hb) _) hb2⟩
      rw [e1, e2, ← M.out]
      refine ret_ib (?_ : wrap64 (bits .xor .u64 q (maskV x)) = if x < 0 then -1 - q else q)
      unfold maskV
      split
      · rw [X1.out]; unfold wrap64; omega
      · rw [X0.out]; unfold wrap64; omega
  · obtain ⟨e1, e2⟩ := q4 h
    have K := Lib.hid (And.intro e1 e2)
    clear q1 q4 q5 q6 q7 e1 e2
    go_enter Try.func74, Try.ntmps74
    go_wp2_with fail
    refine (F.out _).mono ?_
    rintro e w' ⟨rfl, hb⟩
    obtain ⟨hcc, hff⟩ := bcell hb
    go_wp2
    go_ret2
    exact ⟨by rw [K.out.1, K.out.2]; rfl, ba (bt (ba (Below.refl _ _) _) hb) _⟩

end Go.Proofs.Ytdgagjcocohnnaa.Ex
