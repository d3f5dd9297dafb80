/-
  The document's own long division: the walk.
-/
import Derived.Test.YtjbbgmboifpidaaExRd
namespace Go.Proofs.Ytjbbgmboifpidaa.Ex
open Go.RowKit

theorem divide_ref (p y : Nat) (hp : p < 340282366920938463463374607431768211456) (hy : 1 ≤ y ∧ y ≤ 9223372036854775808) (xh xl yi : Int) (X : Hid (xh = ((p / 18446744073709551616 : Nat) : Int) ∧ xl = ((p % 18446744073709551616 : Nat) : Int) ∧ yi = (y : Int))) (w : World) :
    Calls Try.prog 37 #[.agg #[.int .u64 xh, .int .u64 xl], .int .u64 yi] w fun e w' => ∃ qh ql r : Int, e = .returned (.tuple #[.agg #[.int .u64 qh, .int .u64 ql], .int .u64 r]) ∧ Hid (DivOk p y 0 qh ql r) ∧ Below w.heap.size w w' := by
  go_enter Try.func37, Try.ntmps37
  go_wp2
  go_loopw [7, 8] (fun s7 s8 wr => ∃ (k : Nat) (qh ql r : Int), k ≤ 128 ∧ s7 = .int .u64 r ∧ s8 = .int .i64 ((k : Int) - 1) ∧
    wr.cell? ⟨w.heap.size, 0, none⟩ = some (.int .u64 xh) ∧ wr.cell? ⟨w.heap.size, 1, none⟩ = some (.int .u64 xl) ∧
    wr.cell? ⟨w.heap.size + 1, 0, none⟩ = some (.int .u64 0) ∧ wr.cell? ⟨w.heap.size + 1, 1, none⟩ = some (.int .u64 0) ∧
    wr.cell? ⟨w.heap.size + 2, 0, none⟩ = some (.int .u64 qh) ∧ wr.cell? ⟨w.heap.size + 2, 1, none⟩ = some (.int .u64 ql) ∧
    wr.frozen? ⟨w.heap.size + 1, 0, none⟩ = false ∧ wr.frozen? ⟨w.heap.size + 1, 1, none⟩ = false ∧ wr.frozen? ⟨w.heap.size + 2, 0, none⟩ = false ∧ wr.frozen? ⟨w.heap.size + 2, 1, none⟩ = false ∧
    Hid (DivOk p y k qh ql r) ∧ Below w.heap.size w wr) (fun _ s8 _ => (intOf s8 + 1).natAbs)
  case atStart =>
    have D : DivOk p y 128 0 0 0 := by
      have e : p / 2 ^ 128 = 0 := Nat.div_eq_of_lt (by omega)
      have z : 0 / y = 0 := Nat.zero_div y
      refine ⟨by rw [e, Nat.zero_mod]; rfl, by unfold qN; rw [e, z]; simp, by unfold qN; rw [e, z]; simp⟩
    refine ⟨128, 0, 0, 0, by omega, rfl, rfl, by go_cell, by go_cell, by go_cell, by go_cell, by go_cell, by go_cell, by go_cell, by go_cell, by go_cell, by go_cell, Lib.hid D, by go_grown⟩
  case round =>
    obtain ⟨k, qh, ql, r, hk, rfl, rfl, c1, c2, c5, c6, c3, c4, f1, f2, f3, f4, D, hB⟩ := hrel
    rcases k with _ | i
    · have g0 : (wr.setCell ⟨w.heap.size + 1, 0, none⟩ (.int .u64 qh)).cell? ⟨w.heap.size + 1, 0, none⟩ = some (.int .u64 qh) := by go_cell
      have g1 : ((wr.setCell ⟨w.heap.size + 1, 0, none⟩ (.int .u64 qh)).setCell ⟨w.heap.size + 1, 1, none⟩ (.int .u64 ql)).cell? ⟨w.heap.size + 1, 1, none⟩ = some (.int .u64 ql) := by go_cell
      go_wp2
      (try simp only [Exit.inBlock, Exit.then])
      refine bodyPost_ret (by simp [results, Try.results37, go_sem, g0, g1, Result.andThen]; try rfl) rfl ?_
      exact ⟨_, _, _, rfl, D, by exact bs (bs hB (show w.heap.size ≤ w.heap.size + 1 by omega) _) (show w.heap.size ≤ w.heap.size + 1 by omega) _⟩
    · have hi : ((i + 1 : Nat) : Int) - 1 = i := by omega
      rw [hi]
      obtain ⟨xe, le, ye⟩ := X.out
      rcases Nat.lt_or_ge i 64 with h | h
      · generalize hj : (i : Int) = j
        have q0 : j.tdiv 64 = 0 := by rw [Int.tdiv_eq_ediv_of_nonneg (by omega)]; omega
        have r0 : j.tmod 64 = (i : Int) := by rw [Int.tmod_eq_emod_of_nonneg (by omega)]; omega
        obtain ⟨B, sB, hBB⟩ : ∃ B : Int, IntKind.u64.wrap (2 ^ i) = B ∧ Hid (B = ((2 ^ i : Nat) : Int)) := ⟨_, rfl, Lib.hid (by
          have l : 2 ^ i < 2 ^ 64 := Nat.pow_lt_pow_right (by omega) h
          have c : ((2 : Int) ^ i) = ((2 ^ i : Nat) : Int) := by simp
          rw [c, IntKind.wrap_u64]; generalize 2 ^ i = z at *; omega)⟩
        have SB := step_bit p y i hy (p % 18446744073709551616) i (by omega) h (low_bit p i h) r D.out.rest
        have SS := step_low p y i h hy.1 qh ql r D.out
        rw [← hBB.out, ← le] at SB
        simp only [← hBB.out, ← ye] at SS
        obtain ⟨t, ht⟩ : ∃ t : Int, t = ((2 * (p / 2 ^ (i + 1) % y) + p / 2 ^ i % 2 : Nat) : Int) := ⟨_, rfl⟩
        rw [← ht] at SB SS
        have t0 : 0 ≤ t := by omega
        have y0 : 1 ≤ yi ∧ yi ≤ 9223372036854775808 := by omega
        clear ht
        have SS := Lib.hid SS
        have j0 : 0 ≤ j ∧ j ≤ 127 := by omega
        have HJ := Lib.hid hj
        clear le xe ye hj
        rcases SB with ⟨b1, b2, rfl⟩ | ⟨b1, b2, b3, rfl⟩
        · have b4 : (bits .and .u64 xl B == 0) = true := by rw [b1]; rfl
          rcases Int.lt_or_le (2 * r) yi with k | k
          · go_wp2
            exact ⟨⟨i, _, _, _, by omega, rfl, by rw [← HJ.out], c1, c2, c5, c6, c3, c4, f1, f2, f3, f4, Lib.hid (SS.out.1 k), hB⟩, by have := j0; simp [intOf]; omega⟩
          · have w1 : IntKind.u64.wrap (2 * r - yi) = 2 * r - yi := by rw [IntKind.wrap_u64] at *; omega
            go_wp2
            exact ⟨⟨i, _, _, _, by omega, rfl, by rw [← HJ.out], by go_cell, by go_cell, by go_cell, by go_cell, by go_cell, by go_cell, by go_cell, by go_cell, by go_cell, by go_cell, Lib.hid (SS.out.2 k), by exact bs hB (show w.heap.size ≤ w.heap.size + 1 + 1 by omega) _⟩, by have := j0; simp [intOf]; omega⟩
        · have b4 : (bits .and .u64 xl B == 0) = false := beq_eq_false_iff_ne.2 b1
          rcases Int.lt_or_le (2 * r + 1) yi with k | k
          · go_wp2
            exact ⟨⟨i, _, _, _, by omega, rfl, by rw [← HJ.out], c1, c2, c5, c6, c3, c4, f1, f2, f3, f4, Lib.hid (SS.out.1 k), hB⟩, by have := j0; simp [intOf]; omega⟩
          · have w1 : IntKind.u64.wrap (2 * r + 1 - yi) = 2 * r + 1 - yi := by rw [IntKind.wrap_u64] at *; omega
            go_wp2
            exact ⟨⟨i, _, _, _, by omega, rfl, by rw [← HJ.out], by go_cell, by go_cell, by go_cell, by go_cell, by go_cell, by go_cell, by go_cell, by go_cell, by go_cell, by go_cell, Lib.hid (SS.out.2 k), by exact bs hB (show w.heap.size ≤ w.heap.size + 1 + 1 by omega) _⟩, by have := j0; simp [intOf]; omega⟩
      · obtain ⟨s, rfl⟩ : ∃ s, i = 64 + s := ⟨i - 64, by omega⟩
        have h2 : s < 64 := by omega
        generalize hj : ((64 + s : Nat) : Int) = j
        have q0 : j.tdiv 64 = 1 := by rw [Int.tdiv_eq_ediv_of_nonneg (by omega)]; omega
        have r0 : j.tmod 64 = (s : Int) := by rw [Int.tmod_eq_emod_of_nonneg (by omega)]; omega
        obtain ⟨B, sB, hBB⟩ : ∃ B : Int, IntKind.u64.wrap (2 ^ s) = B ∧ Hid (B = ((2 ^ s : Nat) : Int)) := ⟨_, rfl, Lib.hid (by
          have l : 2 ^ s < 2 ^ 64 := Nat.pow_lt_pow_right (by omega) h2
          have c : ((2 : Int) ^ s) = ((2 ^ s : Nat) : Int) := by simp
          rw [c, IntKind.wrap_u64]; generalize 2 ^ s = z at *; omega)⟩
        have SB := step_bit p y (64 + s) hy (p / 18446744073709551616) s (by omega) h2 (high_bit p s) r D.out.rest
        have SS := step_high p y s h2 hp hy.1 qh ql r D.out
        rw [← hBB.out, ← xe] at SB
        simp only [← hBB.out, ← ye] at SS
        obtain ⟨t, ht⟩ : ∃ t : Int, t = ((2 * (p / 2 ^ (64 + s + 1) % y) + p / 2 ^ (64 + s) % 2 : Nat) : Int) := ⟨_, rfl⟩
        rw [← ht] at SB SS
        have t0 : 0 ≤ t := by omega
        have y0 : 1 ≤ yi ∧ yi ≤ 9223372036854775808 := by omega
        clear ht
        have SS := Lib.hid SS
        have j0 : 0 ≤ j ∧ j ≤ 127 := by omega
        have HJ := Lib.hid hj
        clear le xe ye hj
        rcases SB with ⟨b1, b2, rfl⟩ | ⟨b1, b2, b3, rfl⟩
        · have b4 : (bits .and .u64 xh B == 0) = true := by rw [b1]; rfl
          rcases Int.lt_or_le (2 * r) yi with k | k
          · go_wp2
            exact ⟨⟨64 + s, _, _, _, by omega, rfl, by rw [← HJ.out], c1, c2, c5, c6, c3, c4, f1, f2, f3, f4, Lib.hid (SS.out.1 k), hB⟩, by have := j0; simp [intOf]; omega⟩
          · have w1 : IntKind.u64.wrap (2 * r - yi) = 2 * r - yi := by rw [IntKind.wrap_u64] at *; omega
            go_wp2
            exact ⟨⟨64 + s, _, _, _, by omega, rfl, by rw [← HJ.out], by go_cell, by go_cell, by go_cell, by go_cell, by go_cell, by go_cell, by go_cell, by go_cell, by go_cell, by go_cell, Lib.hid (SS.out.2 k), by exact bs hB (show w.heap.size ≤ w.heap.size + 1 + 1 by omega) _⟩, by have := j0; simp [intOf]; omega⟩
        · have b4 : (bits .and .u64 xh B == 0) = false := beq_eq_false_iff_ne.2 b1
          rcases Int.lt_or_le (2 * r + 1) yi with k | k
          · go_wp2
            exact ⟨⟨64 + s, _, _, _, by omega, rfl, by rw [← HJ.out], c1, c2, c5, c6, c3, c4, f1, f2, f3, f4, Lib.hid (SS.out.1 k), hB⟩, by have := j0; simp [intOf]; omega⟩
          · have w1 : IntKind.u64.wrap (2 * r + 1 - yi) = 2 * r + 1 - yi := by rw [IntKind.wrap_u64] at *; omega
            go_wp2
            exact ⟨⟨64 + s, _, _, _, by omega, rfl, by rw [← HJ.out], by go_cell, by go_cell, by go_cell, by go_cell, by go_cell, by go_cell, by go_cell, by go_cell, by go_cell, by go_cell, Lib.hid (SS.out.2 k), by exact bs hB (show w.heap.size ≤ w.heap.size + 1 + 1 by omega) _⟩, by have := j0; simp [intOf]; omega⟩

theorem divide_any (x y : Int) (hx : 0 ≤ x ∧ x < 340282366920938463463374607431768211456) (hy : 1 ≤ y ∧ y ≤ 9223372036854775808) (w : World) :
    Calls Try.prog 37 #[wideV x, .int .u64 y] w fun e w' => e = .returned (.tuple #[wideV (x / y), .int .u64 (x % y)]) ∧ Below w.heap.size w w' := by
  obtain ⟨p, rfl⟩ := Int.eq_ofNat_of_zero_le hx.1
  obtain ⟨q, rfl⟩ := Int.eq_ofNat_of_zero_le (show 0 ≤ y by omega)
  refine (divide_ref p q (by omega) (by omega) (hiW p) (loW p) q (Lib.hid ⟨by unfold hiW; omega, by unfold loW; omega, rfl⟩) w).mono ?_
  rintro e w' ⟨qh, ql, r, rfl, D, hB⟩
  refine ⟨?_, hB⟩
  have h := D.out.high
  have l := D.out.low
  have s := D.out.rest
  unfold qN at h l
  rw [Nat.pow_zero, Nat.div_one, Nat.mul_one] at h l
  rw [Nat.pow_zero, Nat.div_one] at s
  have le := Nat.div_le_self p q
  unfold wideV hiW loW
  rw [h, l, s]
  have c : (p : Int) / (q : Int) = ((p / q : Nat) : Int) := by simp
  rw [c]
  clear c h l
  generalize p / q = z at *
  congr 4
  · congr 3
    congr 1; omega
end Go.Proofs.Ytjbbgmboifpidaa.Ex
