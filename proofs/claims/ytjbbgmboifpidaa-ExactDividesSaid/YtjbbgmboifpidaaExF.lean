/-
  The walks of layer 1 (exact): floor and rest of two words.
-/
import Derived.Test.YtjbbgmboifpidaaExE
namespace Go.Proofs.Ytjbbgmboifpidaa.Ex
open Go.RowKit

theorem ret_ib {a b : Int} {c : Bool} (h : a = b) : Ending.returned (.tuple #[.int .i64 a, .bool c]) = .returned (.tuple #[.int .i64 b, .bool c]) := by rw [h]

set_option maxHeartbeats 1000000 in
theorem floor_any (x c : Int) (hx : fits2 x) (hc0 : 1 ≤ c) (hc1 : c < 18446744073709551616) (w : World) :
    Calls Try.prog 33 #[wideV x, .int .u64 c] w fun e w' => e = .returned (.tuple #[.int .i64 (outI (x / c)), .bool (fits (x / c))]) ∧ Below w.heap.size w w' := by
  obtain ⟨q1, q2, q3, q4, q5, q6, q7⟩ := floor_words x c hx hc0
  have hl := loW_bd (foldI x)
  have F := Lib.hid (fold_any x hx)
  unfold wideV at F ⊢
  generalize hiW (foldI x) = a at *
  generalize loW (foldI x) = f at *
  obtain ⟨hl0, hl1⟩ := hl
  obtain ⟨hm0, hm1⟩ : 0 ≤ maskV x ∧ maskV x < 18446744073709551616 := by unfold maskV; split <;> omega
  rcases Int.lt_or_le a c with h | h
  · obtain ⟨d0, d1⟩ := q5 h
    have K := Lib.hid (And.intro q6 q7)
    have D : ∀ w, Calls Try.prog 53 #[.int .u64 a, .int .u64 f, .int .u64 c] w fun e w' => e = .returned (.tuple #[.int .u64 (foldI x / c), .int .u64 (foldI x % c)]) ∧ Below w.heap.size w w' := fun w => by
      have := div64_any a f c ⟨q2, h⟩ ⟨hl0, hl1⟩ hc1 w
      rw [q1] at this
      exact this
    have D' := Lib.hid D
    clear q1 q4 q5 q6 q7 D
    generalize hq : foldI x / c = q at *
    have X0 := Lib.hid (xor_zero q d0 d1)
    have X1 := Lib.hid (xor_ones q d0 d1)
    generalize hm : maskV x = m at *
    have M := Lib.hid hm
    clear hq hm
    rcases Int.lt_or_le 9223372036854775807 q with g | g
    all_goals
      go_enter Try.func33, Try.ntmps33
      go_wp2_with fail
      refine (F.out _).mono ?_
      rintro e w' ⟨rfl, hb⟩
      obtain ⟨hcc, hff⟩ := bcell hb
      go_wp2_with fail
      refine (D'.out _).mono ?_
      rintro e w2 ⟨rfl, hb2⟩
      go_wp2
      go_ret2
    · obtain ⟨e1, e2⟩ := K.out.1 g
      exact ⟨by rw [e1, e2]; rfl, bt (ba (bt (ba (Below.refl _ _) _) hb) _) hb2⟩
    · obtain ⟨e1, e2⟩ := K.out.2 d0 g
      refine ⟨?_, bt (ba (bt (ba (Below.refl _ _) _) hb) _) hb2⟩
      rw [e1, e2, ← M.out]
      refine ret_ib (?_ : wrap64 (bits .xor .u64 q (maskV x)) = if x < 0 then -1 - q else q)
      unfold maskV
      split
      · rw [X1.out]; unfold wrap64; omega
      · rw [X0.out]; unfold wrap64; omega
  · obtain ⟨e1, e2⟩ := q4 h
    have K := Lib.hid (And.intro e1 e2)
    clear q1 q4 q5 q6 q7 e1 e2
    go_enter Try.func33, Try.ntmps33
    go_wp2_with fail
    refine (F.out _).mono ?_
    rintro e w' ⟨rfl, hb⟩
    obtain ⟨hcc, hff⟩ := bcell hb
    go_wp2
    go_ret2
    exact ⟨by rw [K.out.1, K.out.2]; rfl, ba (bt (ba (Below.refl _ _) _) hb) _⟩

set_option maxHeartbeats 1000000 in
theorem rest_any (x c : Int) (hx : fits2 x) (hc0 : 1 ≤ c) (hc1 : c < 18446744073709551616) (w : World) :
    Calls Try.prog 47 #[wideV x, .int .u64 c] w fun e w' => e = .returned (.int .u64 (x % c)) ∧ Below w.heap.size w w' := by
  have q1 := (floor_words x c hx hc0).1
  have hl := loW_bd (foldI x)
  have hi := hiW_bd (foldI x)
  have K := Lib.hid (rest_words x c hc0)
  have F := Lib.hid (fold_any x hx)
  unfold wideV at F ⊢
  generalize hiW (foldI x) = a at *
  generalize loW (foldI x) = f at *
  obtain ⟨hl0, hl1⟩ := hl
  obtain ⟨hi0, hi1⟩ := hi
  have r0 := Int.emod_nonneg (foldI x) (show c ≠ 0 by omega)
  have r1 := Int.emod_lt_of_pos (foldI x) (show 0 < c by omega)
  have D : ∀ w, Calls Try.prog 58 #[.int .u64 a, .int .u64 f, .int .u64 c] w fun e w' => e = .returned (.int .u64 (foldI x % c)) ∧ Below w.heap.size w w' := fun w => by
    have := rem64_any a f c ⟨hi0, hi1⟩ ⟨hl0, hl1⟩ ⟨hc0, hc1⟩ w
    rw [q1] at this
    exact this
  have D' := Lib.hid D
  clear q1 D
  generalize foldI x % c = q at *
  rcases Int.lt_or_le x 0 with h | h
  · have hm : maskV x = 18446744073709551615 := if_pos h
    rw [hm] at F
    clear hm
    go_enter Try.func47, Try.ntmps47
    go_wp2_with fail
    refine (F.out _).mono ?_
    rintro e w' ⟨rfl, hb⟩
    obtain ⟨hcc, hff⟩ := bcell hb
    go_wp2_with fail
    refine (D'.out _).mono ?_
    rintro e w2 ⟨rfl, hb2⟩
    go_wp2
    go_ret
    exact ⟨congrArg (fun n : Int => Ending.returned (Value.int .u64 n)) (K.out.2 h), bt (ba (bt (ba (Below.refl _ _) _) hb) _) hb2⟩
  · have hm : maskV x = 0 := if_neg (by omega)
    rw [hm] at F
    clear hm
    go_enter Try.func47, Try.ntmps47
    go_wp2_with fail
    refine (F.out _).mono ?_
    rintro e w' ⟨rfl, hb⟩
    obtain ⟨hcc, hff⟩ := bcell hb
    go_wp2_with fail
    refine (D'.out _).mono ?_
    rintro e w2 ⟨rfl, hb2⟩
    go_wp2
    go_ret
    exact ⟨congrArg (fun n : Int => Ending.returned (Value.int .u64 n)) (K.out.1 h), bt (ba (bt (ba (Below.refl _ _) _) hb) _) hb2⟩

end Go.Proofs.Ytjbbgmboifpidaa.Ex
