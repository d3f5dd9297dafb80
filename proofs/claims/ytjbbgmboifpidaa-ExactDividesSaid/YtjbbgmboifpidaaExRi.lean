/-
  The document's own MulDiv.
-/
import Derived.Test.YtjbbgmboifpidaaExRg
namespace Go.Proofs.Ytjbbgmboifpidaa.Ex
open Go.RowKit

theorem ab_mul (a b : Int) : a * b = if decide (a < 0) != decide (b < 0) then -(ab a * ab b) else ab a * ab b := by
  have P : ∀ x : Int, 0 ≤ x → ab x = x := fun x hx => if_neg (by omega)
  have N : ∀ x : Int, x < 0 → ab x = -x := fun x hx => if_pos hx
  rcases Int.lt_or_le a 0 with h | h <;> rcases Int.lt_or_le b 0 with k | k
  · rw [N a h, N b k, decide_eq_true h, decide_eq_true k, Int.neg_mul_neg]; rfl
  · rw [N a h, P b k, decide_eq_true h, decide_eq_false (show ¬ b < 0 by omega), Int.neg_mul, Int.neg_neg]; rfl
  · rw [P a h, N b k, decide_eq_true k, decide_eq_false (show ¬ a < 0 by omega), Int.mul_neg, Int.neg_neg]; rfl
  · rw [P a h, P b k, decide_eq_false (show ¬ b < 0 by omega), decide_eq_false (show ¬ a < 0 by omega)]; rfl

/-- The answer by the quotient and the rest of the sizes. -/
theorem md_is (a b c : Int) (hc : 1 ≤ c) (neg : Bool) (hn : (decide (a < 0) != decide (b < 0)) = neg) (q : Int) (hq : 0 ≤ q)
    (h : q = if neg then (if ab a * ab b % c = 0 then ab a * ab b / c else ab a * ab b / c + 1) else ab a * ab b / c) :
    MdI a b c = WhI neg q ∧ MdB a b c = WhB neg q := by
  have e : a * b / c = if neg then -q else q := by
    rw [ab_mul, hn, h]
    cases neg
    · rfl
    · show -(ab a * ab b) / c = -(if ab a * ab b % c = 0 then _ else _)
      rw [neg_div _ c (by omega)]
      split <;> rfl
  obtain ⟨w1, w2⟩ := wh_is neg q hq
  rw [w1, w2, ← e]
  exact ⟨if_neg (by omega), if_neg (by omega)⟩

set_option maxHeartbeats 1000000 in
theorem muldiv_ref (a b c : Int) (ha : -9223372036854775808 ≤ a ∧ a ≤ 9223372036854775807) (hb : -9223372036854775808 ≤ b ∧ b ≤ 9223372036854775807) (hc : -9223372036854775808 ≤ c ∧ c ≤ 9223372036854775807) (w : World) :
    Calls Try.prog 15 #[.int .i64 a, .int .i64 b, .int .i64 c] w fun e w' => e = .returned (.tuple #[.int .i64 (MdI a b c), .bool (MdB a b c)]) ∧ Below w.heap.size w w' := by
  rcases Int.lt_or_le c 1 with h0 | h0
  · have r1 : MdI a b c = 0 := if_pos h0
    have r2 : MdB a b c = false := if_pos h0
    go_enter Try.func15, Try.ntmps15
    go_wp2
    go_ret2
    exact ⟨by (try rw [r1, r2]); rfl, Below.refl _ _⟩
  · have sa : ∀ w, Calls Try.prog 34 #[.int .i64 a] w fun e w' => e = .returned (.int .u64 (ab a)) ∧ w = w' := fun w => size_ref a ha w
    have sb : ∀ w, Calls Try.prog 34 #[.int .i64 b] w fun e w' => e = .returned (.int .u64 (ab b)) ∧ w = w' := fun w => size_ref b hb w
    have bA : 0 ≤ ab a ∧ ab a ≤ 9223372036854775808 := by unfold ab; split <;> omega
    have bb : 0 ≤ ab b ∧ ab b ≤ 9223372036854775808 := by unfold ab; split <;> omega
    have p0 : 0 ≤ ab a * ab b := Int.mul_nonneg bA.1 bb.1
    have p1 : ab a * ab b ≤ 9223372036854775808 * 9223372036854775808 := Int.mul_le_mul bA.2 bb.2 bb.1 (by omega)
    have cw : IntKind.u64.wrap c = c := by rw [IntKind.wrap_u64]; omega
    have PR := Lib.hid (fun w => product_ref (ab a) (ab b) ⟨bA.1, by omega⟩ ⟨bb.1, by omega⟩ w)
    have DV := Lib.hid (fun w => divide_any (ab a * ab b) c ⟨p0, by omega⟩ ⟨h0, by omega⟩ w)
    have q0 := Int.ediv_nonneg p0 (show 0 ≤ c by omega)
    have q1 := Int.ediv_le_self c p0
    have m0 := Int.emod_nonneg (ab a * ab b) (show c ≠ 0 by omega)
    have PL := Lib.hid (fun w => plus_ref (ab a * ab b / c) 1 w)
    have M := Lib.hid (md_is a b c h0)
    have WQ : ∀ neg q, Hid (MdI a b c = WhI neg q ∧ MdB a b c = WhB neg q) → 0 ≤ q → q < 340282366920938463463374607431768211456 → Hid (∀ w, Calls Try.prog 35 #[.bool neg, wideV q] w fun e w' => e = .returned (.tuple #[.int .i64 (MdI a b c), .bool (MdB a b c)]) ∧ Below w.heap.size w w') := fun neg q g1 g2 g3 => Lib.hid (fun w => by
      rw [g1.out.1, g1.out.2]; exact whole_ref neg q ⟨g2, g3⟩ w)
    have one : wideV 1 = .agg #[.int .u64 0, .int .u64 1] := rfl
    rw [one] at PL
    unfold wideV at PR DV PL WQ
    rcases Int.lt_or_le a 0 with h | h <;> rcases Int.lt_or_le b 0 with k | k
    · skip
      have da : decide (a < 0) = true := decide_eq_true h
      have db : decide (b < 0) = true := decide_eq_true k
      have WH := WQ false (ab a * ab b / c) (Lib.hid (M.out false (by rw [da, db]; rfl) _ q0 rfl)) q0 (by omega)
      clear WQ M p1 q1
      go_enter Try.func15, Try.ntmps15
      go_wp2_with fail
      with_reducible refine (sa _).mono ?_
      rintro e w' ⟨rfl, rfl⟩
      go_wp2_with fail
      with_reducible refine (sb _).mono ?_
      rintro e w' ⟨rfl, rfl⟩
      go_wp2_with fail
      with_reducible refine (PR.out _).mono ?_
      rintro e w1 ⟨rfl, hB1⟩
      go_wp2_with fail
      with_reducible refine (DV.out _).mono ?_
      rintro e w2 ⟨rfl, hB2⟩
      go_wp2_with fail
      with_reducible refine (WH.out _).mono ?_
      rintro e w4 ⟨rfl, hB4⟩
      go_wp2
      go_ret2
      exact ⟨rfl, by exact bt (ba (bt hB1 hB2) _) hB4⟩
    · by_cases m : ab a * ab b % c = 0
      · skip
        have da : decide (a < 0) = true := decide_eq_true h
        have db : decide (b < 0) = false := decide_eq_false (show ¬ b < 0 by omega)
        have WH := WQ true (ab a * ab b / c) (Lib.hid (M.out true (by rw [da, db]; rfl) _ q0 (by rw [if_pos m]; rfl))) q0 (by omega)
        have mt : (ab a * ab b % c == 0) = true := beq_iff_eq.2 m
        clear WQ M p1 q1
        go_enter Try.func15, Try.ntmps15
        go_wp2_with fail
        with_reducible refine (sa _).mono ?_
        rintro e w' ⟨rfl, rfl⟩
        go_wp2_with fail
        with_reducible refine (sb _).mono ?_
        rintro e w' ⟨rfl, rfl⟩
        go_wp2_with fail
        with_reducible refine (PR.out _).mono ?_
        rintro e w1 ⟨rfl, hB1⟩
        go_wp2_with fail
        with_reducible refine (DV.out _).mono ?_
        rintro e w2 ⟨rfl, hB2⟩
        go_wp2_with fail
        with_reducible refine (WH.out _).mono ?_
        rintro e w4 ⟨rfl, hB4⟩
        go_wp2
        go_ret2
        exact ⟨rfl, by exact bt (ba (bt hB1 hB2) _) hB4⟩
      · skip
        have da : decide (a < 0) = true := decide_eq_true h
        have db : decide (b < 0) = false := decide_eq_false (show ¬ b < 0 by omega)
        have WH := WQ true (ab a * ab b / c + 1) (Lib.hid (M.out true (by rw [da, db]; rfl) _ (by omega) (by rw [if_neg m]; rfl))) (by omega) (by omega)
        have mt : (ab a * ab b % c == 0) = false := beq_eq_false_iff_ne.2 m
        clear WQ M p1 q1
        go_enter Try.func15, Try.ntmps15
        go_wp2_with fail
        with_reducible refine (sa _).mono ?_
        rintro e w' ⟨rfl, rfl⟩
        go_wp2_with fail
        with_reducible refine (sb _).mono ?_
        rintro e w' ⟨rfl, rfl⟩
        go_wp2_with fail
        with_reducible refine (PR.out _).mono ?_
        rintro e w1 ⟨rfl, hB1⟩
        go_wp2_with fail
        with_reducible refine (DV.out _).mono ?_
        rintro e w2 ⟨rfl, hB2⟩
        go_wp2_with fail
        with_reducible refine (PL.out _).mono ?_
        rintro e w3 ⟨rfl, hB3⟩
        have c0 : w3.cell? ⟨w2.heap.size, 0, none⟩ = some (.int .u64 (hiW (ab a * ab b / c))) := kc hB3 (by go_cell)
        have c1 : w3.cell? ⟨w2.heap.size, 1, none⟩ = some (.int .u64 (loW (ab a * ab b / c))) := kc hB3 (by go_cell)
        have f0 : w3.frozen? ⟨w2.heap.size, 0, none⟩ = false := kf hB3 (v := .int .u64 (hiW (ab a * ab b / c))) (by go_cell) (by go_cell)
        have f1 : w3.frozen? ⟨w2.heap.size, 1, none⟩ = false := kf hB3 (v := .int .u64 (loW (ab a * ab b / c))) (by go_cell) (by go_cell)
        go_wp2_with fail
        with_reducible refine (WH.out _).mono ?_
        rintro e w4 ⟨rfl, hB4⟩
        go_wp2
        go_ret2
        exact ⟨rfl, by exact bt (bs (bs (bt (ba (bt hB1 hB2) _) hB3) (show w.heap.size ≤ w2.heap.size from (bt hB1 hB2).size) _) (show w.heap.size ≤ w2.heap.size from (bt hB1 hB2).size) _) hB4⟩
    · by_cases m : ab a * ab b % c = 0
      · skip
        have da : decide (a < 0) = false := decide_eq_false (show ¬ a < 0 by omega)
        have db : decide (b < 0) = true := decide_eq_true k
        have WH := WQ true (ab a * ab b / c) (Lib.hid (M.out true (by rw [da, db]; rfl) _ q0 (by rw [if_pos m]; rfl))) q0 (by omega)
        have mt : (ab a * ab b % c == 0) = true := beq_iff_eq.2 m
        clear WQ M p1 q1
        go_enter Try.func15, Try.ntmps15
        go_wp2_with fail
        with_reducible refine (sa _).mono ?_
        rintro e w' ⟨rfl, rfl⟩
        go_wp2_with fail
        with_reducible refine (sb _).mono ?_
        rintro e w' ⟨rfl, rfl⟩
        go_wp2_with fail
        with_reducible refine (PR.out _).mono ?_
        rintro e w1 ⟨rfl, hB1⟩
        go_wp2_with fail
        with_reducible refine (DV.out _).mono ?_
        rintro e w2 ⟨rfl, hB2⟩
        go_wp2_with fail
        with_reducible refine (WH.out _).mono ?_
        rintro e w4 ⟨rfl, hB4⟩
        go_wp2
        go_ret2
        exact ⟨rfl, by exact bt (ba (bt hB1 hB2) _) hB4⟩
      · skip
        have da : decide (a < 0) = false := decide_eq_false (show ¬ a < 0 by omega)
        have db : decide (b < 0) = true := decide_eq_true k
        have WH := WQ true (ab a * ab b / c + 1) (Lib.hid (M.out true (by rw [da, db]; rfl) _ (by omega) (by rw [if_neg m]; rfl))) (by omega) (by omega)
        have mt : (ab a * ab b % c == 0) = false := beq_eq_false_iff_ne.2 m
        clear WQ M p1 q1
        go_enter Try.func15, Try.ntmps15
        go_wp2_with fail
        with_reducible refine (sa _).mono ?_
        rintro e w' ⟨rfl, rfl⟩
        go_wp2_with fail
        with_reducible refine (sb _).mono ?_
        rintro e w' ⟨rfl, rfl⟩
        go_wp2_with fail
        with_reducible refine (PR.out _).mono ?_
        rintro e w1 ⟨rfl, hB1⟩
        go_wp2_with fail
        with_reducible refine (DV.out _).mono ?_
        rintro e w2 ⟨rfl, hB2⟩
        go_wp2_with fail
        with_reducible refine (PL.out _).mono ?_
        rintro e w3 ⟨rfl, hB3⟩
        have c0 : w3.cell? ⟨w2.heap.size, 0, none⟩ = some (.int .u64 (hiW (ab a * ab b / c))) := kc hB3 (by go_cell)
        have c1 : w3.cell? ⟨w2.heap.size, 1, none⟩ = some (.int .u64 (loW (ab a * ab b / c))) := kc hB3 (by go_cell)
        have f0 : w3.frozen? ⟨w2.heap.size, 0, none⟩ = false := kf hB3 (v := .int .u64 (hiW (ab a * ab b / c))) (by go_cell) (by go_cell)
        have f1 : w3.frozen? ⟨w2.heap.size, 1, none⟩ = false := kf hB3 (v := .int .u64 (loW (ab a * ab b / c))) (by go_cell) (by go_cell)
        go_wp2_with fail
        with_reducible refine (WH.out _).mono ?_
        rintro e w4 ⟨rfl, hB4⟩
        go_wp2
        go_ret2
        exact ⟨rfl, by exact bt (bs (bs (bt (ba (bt hB1 hB2) _) hB3) (show w.heap.size ≤ w2.heap.size from (bt hB1 hB2).size) _) (show w.heap.size ≤ w2.heap.size from (bt hB1 hB2).size) _) hB4⟩
    · skip
      have da : decide (a < 0) = false := decide_eq_false (show ¬ a < 0 by omega)
      have db : decide (b < 0) = false := decide_eq_false (show ¬ b < 0 by omega)
      have WH := WQ false (ab a * ab b / c) (Lib.hid (M.out false (by rw [da, db]; rfl) _ q0 rfl)) q0 (by omega)
      clear WQ M p1 q1
      go_enter Try.func15, Try.ntmps15
      go_wp2_with fail
      with_reducible refine (sa _).mono ?_
      rintro e w' ⟨rfl, rfl⟩
      go_wp2_with fail
      with_reducible refine (sb _).mono ?_
      rintro e w' ⟨rfl, rfl⟩
      go_wp2_with fail
      with_reducible refine (PR.out _).mono ?_
      rintro e w1 ⟨rfl, hB1⟩
      go_wp2_with fail
      with_reducible refine (DV.out _).mono ?_
      rintro e w2 ⟨rfl, hB2⟩
      go_wp2_with fail
      with_reducible refine (WH.out _).mono ?_
      rintro e w4 ⟨rfl, hB4⟩
      go_wp2
      go_ret2
      exact ⟨rfl, by exact bt (ba (bt hB1 hB2) _) hB4⟩
end Go.Proofs.Ytjbbgmboifpidaa.Ex
