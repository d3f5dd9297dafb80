/-
  For every three numbers and every number ExactFloors returns true, and what it was given reads as before. No condition.
-/
import Derived.Test.YtijpkacjbnijoaaExR
import Derived.Test.YtijpkacjbnijoaaRows
import Derived.ProofKit
import Derived.Carry
namespace Go.Proofs.Ytijpkacjbnijoaa
open Go.ChangeShapes Go.WideShapes Go.ChangeAt Go.RowKit

theorem own : ownKnob Try.prog.godebug = none := by kernel_rfl
theorem laidOut : laidOutB Try.prog = true := by kernel_rfl
theorem wf_bounds {n : Int} (h : (Lit.int .i64 n).wf = true) : -9223372036854775808 ≤ n ∧ n ≤ 9223372036854775807 := by
  simpa [Lit.wf, IntKind.min, IntKind.max, IntKind.signed, IntKind.bits] using h

namespace Ex
theorem quo_bd (a b M : Int) (hb : 1 ≤ b) (hM : 0 ≤ M) (h : -M ≤ a ∧ a ≤ M) : -M ≤ a / b ∧ a / b ≤ M := by
  have k : 0 ≤ (M + 1) * (b - 1) := Int.mul_nonneg (by omega) (by omega)
  have e1 : (M + 1) * (b - 1) = (M + 1) * b - (M + 1) := by rw [Int.mul_sub]; omega
  have e2 : (M + 1) * b = M * b + b := by rw [Int.add_mul]; omega
  have k2 : 0 ≤ M * (b - 1) := Int.mul_nonneg hM (by omega)
  have e3 : M * (b - 1) = M * b - M := by rw [Int.mul_sub]; omega
  refine ⟨?_, ?_⟩
  · rw [Int.le_ediv_iff_mul_le (by omega), Int.neg_mul]; omega
  · refine Int.le_of_lt_add_one ?_
    rw [Int.ediv_lt_iff_lt_mul (by omega)]; omega
theorem md_self (n b : Int) (hb : 1 ≤ b) (hn : -9223372036854775808 ≤ n ∧ n ≤ 9223372036854775807) : MdI n b b = n ∧ MdB n b b = true := by
  have e : n * b / b = n := Int.mul_ediv_cancel _ (by omega)
  have := md_pos n b b (by omega) (by omega)
  rw [e] at this
  exact this
theorem fl_one (n : Int) (hn : -9223372036854775808 ≤ n ∧ n ≤ 9223372036854775807) : FlI n 1 = n ∧ FlB n 1 = true := by
  have := fl_pos n 1 (by omega) (by omega)
  rw [Int.ediv_one] at this
  exact this
theorem ro_one (n : Int) (hn : -9223372036854775808 ≤ n ∧ n ≤ 9223372036854775807) : RoI n 1 = n ∧ RoB n 1 = true := by
  have e : (2 * n + 1) / (2 * 1) = n := by omega
  have := ro_pos n 1 (by omega) (by omega)
  rw [e] at this
  exact this

theorem floors_any (a b c n : Int) (ha : -9223372036854775808 ≤ a ∧ a ≤ 9223372036854775807) (hb : -9223372036854775808 ≤ b ∧ b ≤ 9223372036854775807) (hc : -9223372036854775808 ≤ c ∧ c ≤ 9223372036854775807)
    (hn : -9223372036854775808 ≤ n ∧ n ≤ 9223372036854775807) (w : World) :
    Calls Try.prog 4 #[.agg #[.int .i64 a, .int .i64 b, .int .i64 c], .int .i64 n] w fun e w' => e = .returned (.bool true) ∧ Below w.heap.size w w' := by
  have bA : -268435456 < a.tmod 268435456 ∧ a.tmod 268435456 < 268435456 := by
    have h : (a.tmod 268435456).natAbs < 268435456 := by rw [Int.natAbs_tmod]; exact Nat.mod_lt _ (by decide)
    omega
  obtain ⟨A, hA⟩ : ∃ A, a.tmod 268435456 = A := ⟨_, rfl⟩
  obtain ⟨B, hB⟩ : ∃ B, b % 268435455 = B - 1 := ⟨b % 268435455 + 1, by omega⟩
  obtain ⟨C, hC⟩ : ∃ C, c % 268435455 = C - 1 := ⟨c % 268435455 + 1, by omega⟩
  rw [hA] at bA
  have bB : 1 ≤ B ∧ B ≤ 268435455 := by omega
  have bC : 1 ≤ C ∧ C ≤ 268435455 := by omega
  have m1 := prod_le (a := A) (b := B) (M := 268435456) (by omega) (by omega)
  have m2 := prod_le (a := A) (b := C) (M := 268435456) (by omega) (by omega)
  have m3 := prod_le (a := C) (b := C) (M := 268435456) (by omega) (by omega)
  have m4 : 1 ≤ C * C := Int.mul_pos (by omega) (by omega)
  have P := quo_back A B (by omega)
  have Q := quo_back (-A) B (by omega)
  have R := quo_back (2 * A + B) (2 * B) (by omega)
  have S := quo_back (A * B) C (by omega)
  have bp := quo_bd A B 268435456 (by omega) (by omega) (by omega)
  have bq := quo_bd (-A) B 268435456 (by omega) (by omega) (by omega)
  have br : -268435456 ≤ (2 * A + B) / (2 * B) ∧ (2 * A + B) / (2 * B) ≤ 268435456 := by
    have e : (2 * B * 268435456) = 268435456 * (2 * B) := Int.mul_comm ..
    refine ⟨by rw [Int.le_ediv_iff_mul_le (by omega)]; omega, ?_⟩
    refine Int.le_of_lt_add_one ?_
    rw [Int.ediv_lt_iff_lt_mul (by omega)]; omega
  have bs := quo_bd (A * B) C (268435456 * 268435456) (by omega) (by omega) (by omega)
  have es : A * C * B / (C * C) = A * B / C := by
    rw [Int.mul_right_comm, Int.mul_ediv_mul_of_pos_left _ _ (by omega)]
  have k1 := fl_pos A B (by omega) (by omega)
  have k2 := fl_neg A B (by omega) (by omega)
  have k3 := ro_pos A B (by omega) (by omega)
  have k4 := md_pos A B C (by omega) (by omega)
  have k5 := fl_pos (A * B) C (by omega) (by omega)
  have k6 := md_pos (A * C) B (C * C) (by omega) (by rw [es]; omega)
  rw [es] at k6
  have k7 := md_self n B (by omega) hn
  have k8 := fl_one n hn
  have k9 := ro_one n hn
  have f1 := floor_go A B (by omega) (by omega)
  have f2 := floor_go A (-B) (by omega) (by omega)
  have f3 := round_go A B (by omega) (by omega)
  have f4 := muldiv_go A B C (by omega) (by omega) (by omega)
  have f5 := floor_go (A * B) C (by omega) (by omega)
  have f6 := muldiv_go (A * C) B (C * C) (by omega) (by omega) (by omega)
  have f7 := muldiv_go n B B hn (by omega) (by omega)
  have f8 := floor_go n 1 hn (by omega)
  have f9 := round_go n 1 hn (by omega)
  rw [k1.1, k1.2] at f1
  rw [k2.1, k2.2] at f2
  rw [k3.1, k3.2] at f3
  rw [k4.1, k4.2] at f4
  rw [k5.1, k5.2] at f5
  rw [k6.1, k6.2] at f6
  rw [k7.1, k7.2] at f7
  rw [k8.1, k8.2] at f8
  rw [k9.1, k9.2] at f9
  have M1 := mod_any b 268435455 hb (by omega)
  have M2 := mod_any c 268435455 hc (by omega)
  rw [hB] at M1
  rw [hC] at M2
  have r1 : 2 * B * ((2 * A + B) / (2 * B)) = (2 * A + B) / (2 * B) * (2 * B) := Int.mul_comm ..
  have r2 : 2 * B * ((2 * A + B) / (2 * B) + 1) = (2 * A + B) / (2 * B) * (2 * B) + 2 * B := by rw [Int.mul_add, r1]; omega
  have p2 : (A / B + 1) * B = A / B * B + B := by rw [Int.add_mul]; omega
  have q1 : -(-A / B) * B = -(-A / B * B) := Int.neg_mul ..
  have q2 : -(-A / B + 1) * B = -(-A / B * B) - B := by rw [Int.neg_mul, Int.add_mul]; omega
  exact floors_walk a b c n A B C (A / B) (-A / B) ((2 * A + B) / (2 * B)) (A * B / C) hA hB hC ha hb hc bA bB bC (Lib.hid M1) (Lib.hid M2)
    (Lib.hid f1) (Lib.hid f2) (Lib.hid f3) (Lib.hid f4) (Lib.hid f5) (Lib.hid f6) (Lib.hid f7) (Lib.hid f8) (Lib.hid f9)
    (by omega) (by omega) (by omega) bp bq br (by omega) (by rw [p2]; omega) (by rw [q1]; omega) (by rw [q2]; omega) (by rw [r1]; omega) (by rw [r2]; omega) w

end Ex

theorem Try.cells22' : Try.prog.cellsOf 22 = 3 := by kernel_rfl
theorem Try.cells3' : Try.prog.cellsOf 3 = 1 := by kernel_rfl
theorem list3 {α : Type} : ∀ (l : List α), l.toArray.size = 3 → ∃ a b c, l = [a, b, c]
  | [a, b, c], _ => ⟨a, b, c, rfl⟩

/-- An array of three numbers by value: its cells, and its reading. -/
theorem open_three {H : Type} {enc : TypeId × Value → H} {W : World} {base : Nat} {v : Value} {d : DataW H} {p : List MemPlace} (hv : Value.okWide Try.prog W .any base 22 v) (h : DataW.Trod enc Try.prog W 0 (fun _ => true) true 22 v d p) :
    ∃ a b c : Int, v = .agg #[.int .i64 a, .int .i64 b, .int .i64 c] ∧ d = .agg [.lit (.int .i64 a), .lit (.int .i64 b), .lit (.int .i64 c)] ∧ p = [] ∧ (Lit.int .i64 a).wf = true ∧ (Lit.int .i64 b).wf = true ∧ (Lit.int .i64 c).wf = true := by
  obtain ⟨cs, rfl, hsz, _⟩ : ∃ cs, v = .agg cs ∧ cs.size = Try.prog.cellsOf 22 ∧ Row.okWide Try.prog W .any base 22 cs := by
    simpa [Value.okWide, Try.underlying22] using hv
  rw [Try.cells22'] at hsz
  obtain ⟨l⟩ := cs
  obtain ⟨c0, c1, c2, rfl⟩ := list3 l hsz
  obtain ⟨fuel, hf⟩ := h
  obtain ⟨y0, y1, y2, m, hx, hy0, hy1, hy2⟩ := trod_array3 Try.underlying22 Try.cells3' hf
  obtain ⟨x0, e0, rfl, w0⟩ := DataW.trod_int Try.underlying3 hy0
  obtain ⟨x1, e1, rfl, w1⟩ := DataW.trod_int Try.underlying3 hy1
  obtain ⟨x2, e2, rfl, w2⟩ := DataW.trod_int Try.underlying3 hy2
  simp at e0 e1 e2
  subst e0 e1 e2
  simp only [Prod.mk.injEq] at hx
  exact ⟨_, _, _, rfl, hx.1, hx.2, w0, w1, w2⟩
theorem shut_three {H : Type} {enc : TypeId × Value → H} {W : World} {sp : Nat → Bool} {a b c : Int} (wa : (Lit.int .i64 a).wf = true) (wb : (Lit.int .i64 b).wf = true) (wc : (Lit.int .i64 c).wf = true) :
    DataW.Trod enc Try.prog W 0 sp true 22 (.agg #[.int .i64 a, .int .i64 b, .int .i64 c]) (.agg [.lit (.int .i64 a), .lit (.int .i64 b), .lit (.int .i64 c)]) [] :=
  ⟨2, by simp [DataW.trod, Try.underlying22, Try.underlying3, Try.cells22', Try.cells3', Value.cells, wa, wb, wc, List.range_succ]⟩

set_option maxHeartbeats 1000000 in
set_option maxRecDepth 100000 in
theorem floors_lifted (os : Os) (started : os.Started) (H : Type) (enc : TypeId × Value → H) :
    ReturnsInHanded {} Try.checked os 4 .any (Rows.exactFloorsSpec.pre6 enc Try.prog Try.f4 Rows.exactFloorsRow.domain false) (Rows.exactFloorsSpec.post enc Try.prog Try.f4 false true false false) := by
  refine returnsInHanded_of_change (C := Try.checked) own started (by kernel_rfl) Try.func4
    (ChangeSpec.witness6 (enc := enc) (C := Try.checked) false ⟨#[], #[.agg #[.int .i64 0, .int .i64 0, .int .i64 0], .int .i64 0], []⟩ 8 (by kernel_rfl) (by kernel_rfl) (by kernel_rfl) (by kernel_rfl)) ?_
  intro W base args ds gs before hval0 hW hcnd _
  have hval : ∀ (j : Nat) t v, Try.f4.params[j]? = some t → args[j]? = some v → Value.okWide Try.prog W .any base t v := hval0
  have hW' := hW
  obtain ⟨p, q, hA0, hV, rfl, hfz, hnd⟩ := hW
  have hA : DataW.TrodAll enc Try.prog W 0 (fun _ => true) true Try.f4.params.toList args.toList ds p := hA0
  rw [Try.params4] at hA hval
  obtain ⟨v0, v1, d0, d1, p0, p1, rfl, rfl, rfl, h0, h1⟩ := trodAll_two hA
  obtain ⟨rfl, rfl⟩ := trodVars_none hV
  obtain ⟨a, b, c, rfl, rfl, rfl, wa, wb, wc⟩ := open_three (hval 0 22 v0 rfl rfl) h0
  obtain ⟨n, rfl, rfl, rfl, wn⟩ := open_int Try.underlying3 (hval 1 3 v1 rfl rfl) h1
  clear hA0 hval0
  simp only [List.append_nil] at hW'
  refine (Ex.floors_any a b c n (wf_bounds wa) (wf_bounds wb) (wf_bounds wc) (wf_bounds wn) W).mono fun e W' ⟨he, hb⟩ => ?_
  subst he
  refine ⟨_, rfl, _, _, _, [], [], [], hW', ?_, ?_, rfl, hb.frame _, fun h => by cases h⟩
  · exact trodAll_mk1 (shut_bool Try.underlying4 true)
  · exact trodAll_mk2 (shut_three wa wb wc) (shut_int Try.underlying3 wn)

theorem floors_holds : Rows.ExactFloorsSaid :=
  OpenClaim.holds_of_wide 4 Try.f4 rfl rfl rfl rfl rfl rfl rfl ⟨rfl, rfl, rfl, rfl, rfl⟩ rfl rfl rfl rfl rfl (by kernel_rfl) Try.func4 (by kernel_rfl)
    (of_decide_eq_true (by kernel_rfl)) (by unfold Func.isWrapper; rw [if_neg (of_decide_eq_false (by kernel_rfl))]; exact ⟨rfl, rfl⟩)
    (fun os started H enc _ => floors_lifted os started H enc)

end Go.Proofs.Ytijpkacjbnijoaa
