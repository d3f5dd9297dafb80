/-
  For every three ratios and every two numbers ExactOrder returns true, and what it was given reads as before. No condition.
-/
import Derived.Test.YtijpkacjbnijoaaExV
import Derived.Test.YtijpkacjbnijoaaExS
namespace Go.Proofs.Ytijpkacjbnijoaa
open Go.ChangeShapes Go.WideShapes Go.ChangeAt Go.RowKit

namespace Ex
theorem sgn_mul (x k : Int) (hk : 0 < k) : sgn (x * k) = sgn x := by
  unfold sgn
  rcases (by omega : x < 0 ∨ x = 0 ∨ 0 < x) with h | h | h
  · have : x * k < 0 := Int.mul_neg_of_neg_of_pos h hk
    rw [if_pos this, if_pos h]
  · subst h; simp
  · have : 0 < x * k := Int.mul_pos h hk
    rw [if_neg (by omega), if_pos this, if_neg (by omega), if_pos h]
theorem sgn_lt (x : Int) : sgn x < 0 ↔ x < 0 := by unfold sgn; split <;> (try split) <;> omega
theorem sgn_gt (x : Int) : 0 < sgn x ↔ 0 < x := by unfold sgn; split <;> (try split) <;> omega
theorem sgn_eq (x : Int) : sgn x = 0 ↔ x = 0 := by unfold sgn; split <;> (try split) <;> omega
theorem sgn_three (x : Int) : sgn x = -1 ∨ sgn x = 0 ∨ sgn x = 1 := by unfold sgn; split <;> (try split) <;> simp
theorem sgn_opp (x : Int) : sgn (-x) = -sgn x := by unfold sgn; split <;> (try split) <;> (try split) <;> omega
theorem cm_valid {n d m e : Int} (h1 : 1 ≤ d) (h2 : 1 ≤ e) : CmI n d m e = sgn (n * e - m * d) := if_neg (by omega)

theorem order_any (n0 d0 n1 d1 n2 d2 n m : Int) (b0 : -9223372036854775808 ≤ n0 ∧ n0 ≤ 9223372036854775807) (c0 : -9223372036854775808 ≤ d0 ∧ d0 ≤ 9223372036854775807) (b1 : -9223372036854775808 ≤ n1 ∧ n1 ≤ 9223372036854775807) (c1 : -9223372036854775808 ≤ d1 ∧ d1 ≤ 9223372036854775807)
    (b2 : -9223372036854775808 ≤ n2 ∧ n2 ≤ 9223372036854775807) (c2 : -9223372036854775808 ≤ d2 ∧ d2 ≤ 9223372036854775807) (bn : -9223372036854775808 ≤ n ∧ n ≤ 9223372036854775807) (bm : -9223372036854775808 ≤ m ∧ m ≤ 9223372036854775807) (w : World) :
    Calls Try.prog 5 #[.agg #[.int .i64 n0, .int .i64 d0, .int .i64 n1, .int .i64 d1, .int .i64 n2, .int .i64 d2], .int .i64 n, .int .i64 m] w fun e w' => e = .returned (.bool true) ∧ Below w.heap.size w w' := by
  obtain ⟨D0, h0⟩ : ∃ D, d0 % 4611686018427387904 = D - 1 := ⟨d0 % 4611686018427387904 + 1, by omega⟩
  obtain ⟨D1, h1⟩ : ∃ D, d1 % 4611686018427387904 = D - 1 := ⟨d1 % 4611686018427387904 + 1, by omega⟩
  obtain ⟨D2, h2⟩ : ∃ D, d2 % 4611686018427387904 = D - 1 := ⟨d2 % 4611686018427387904 + 1, by omega⟩
  have M0 := mod_any d0 4611686018427387904 c0 (by omega)
  have M1 := mod_any d1 4611686018427387904 c1 (by omega)
  have M2 := mod_any d2 4611686018427387904 c2 (by omega)
  rw [h0] at M0
  rw [h1] at M1
  rw [h2] at M2
  have e0 : 1 ≤ D0 ∧ D0 ≤ 4611686018427387904 := by omega
  have e1 : 1 ≤ D1 ∧ D1 ≤ 4611686018427387904 := by omega
  have e2 : 1 ≤ D2 ∧ D2 ≤ 4611686018427387904 := by omega
  have C01 := cmp_go n0 D0 n1 D1 b0 (by omega) b1 (by omega)
  have C12 := cmp_go n1 D1 n2 D2 b1 (by omega) b2 (by omega)
  have C02 := cmp_go n0 D0 n2 D2 b0 (by omega) b2 (by omega)
  have C10 := cmp_go n1 D1 n0 D0 b1 (by omega) b0 (by omega)
  have C00 := cmp_go n0 D0 n0 D0 b0 (by omega) b0 (by omega)
  have CN := cmp_go n 1 m 1 bn (by omega) bm (by omega)
  have CX := cmp_go n (-D0) n0 D0 bn (by omega) b0 (by omega)
  have CY := cmp_go n0 D0 m 0 b0 (by omega) bm (by omega)
  rw [cm_valid e0.1 e1.1] at C01
  rw [cm_valid e1.1 e2.1] at C12
  rw [cm_valid e0.1 e2.1] at C02
  rw [cm_valid e1.1 e0.1, show n1 * D0 - n0 * D1 = -(n0 * D1 - n1 * D0) by omega, sgn_opp] at C10
  rw [cm_valid e0.1 e0.1, show n0 * D0 - n0 * D0 = 0 by omega] at C00
  rw [cm_valid (by omega) (by omega), show n * 1 - m * 1 = n - m by omega] at CN
  rw [show CmI n (-D0) n0 D0 = 0 from if_pos (by omega)] at CX
  rw [show CmI n0 D0 m 0 = 0 from if_pos (by omega)] at CY
  have id : (n0 * D2 - n2 * D0) * D1 = (n0 * D1 - n1 * D0) * D2 + (n1 * D2 - n2 * D1) * D0 := by
    simp only [Int.sub_mul]
    rw [Int.mul_right_comm n0 D1 D2, Int.mul_right_comm n1 D0 D2, Int.mul_right_comm n2 D1 D0]
    omega
  refine order_walk n0 d0 n1 d1 n2 d2 n m D0 D1 D2 _ _ _ _ (Lib.hid M0) (Lib.hid M1) (Lib.hid M2) (Lib.hid C01) (Lib.hid C12) (Lib.hid C02) (Lib.hid C10) (Lib.hid C00) (Lib.hid CN) (Lib.hid CX) (Lib.hid CY)
    e0 e1 e2 (sgn_three _) ?_ ?_ ?_ (fun h => sgn_neg (by omega)) (fun h => (sgn_eq _).2 (by omega)) (fun h => sgn_pos (by omega)) w
  all_goals
    generalize n0 * D1 - n1 * D0 = A at *
    generalize n1 * D2 - n2 * D1 = B at *
    generalize n0 * D2 - n2 * D0 = C at *
  · intro h
    rw [sgn_eq] at h
    subst h
    rw [← sgn_mul C D1 (by omega), id, ← sgn_mul B D0 (by omega)]
    simp
  · intro ha hb
    rw [sgn_gt] at ha hb ⊢
    have x1 : 0 < A * D2 := Int.mul_pos ha (by omega)
    have x2 : 0 < B * D0 := Int.mul_pos hb (by omega)
    have x3 : 0 < sgn (C * D1) := (sgn_gt _).2 (by omega)
    rw [sgn_mul C D1 (by omega), sgn_gt] at x3
    exact x3
  · intro ha hb
    rw [sgn_lt] at ha hb ⊢
    have x1 : A * D2 < 0 := Int.mul_neg_of_neg_of_pos ha (by omega)
    have x2 : B * D0 < 0 := Int.mul_neg_of_neg_of_pos hb (by omega)
    have x3 : sgn (C * D1) < 0 := (sgn_lt _).2 (by omega)
    rw [sgn_mul C D1 (by omega), sgn_lt] at x3
    exact x3
end Ex

theorem Try.cellsRats : Try.prog.cellsOf 34 = 6 := by kernel_rfl
theorem Try.cellsRat' : Try.prog.cellsOf 33 = 2 := by kernel_rfl
theorem list6 {α : Type} : ∀ (l : List α), l.toArray.size = 6 → ∃ a b c d e f, l = [a, b, c, d, e, f]
  | [a, b, c, d, e, f], _ => ⟨a, b, c, d, e, f, rfl⟩
theorem rat_cells {H : Type} {enc : TypeId × Value → H} {W : World} {base : Nat} {sp : Nat → Bool} {hd : Bool} {m : Nat} {c0 c1 : Value} {y : DataW H × List MemPlace} (h : DataW.trod enc Try.prog W base sp hd m 33 [c0, c1] = some y) :
    ∃ a b : Int, c0 = .int .i64 a ∧ c1 = .int .i64 b ∧ y = (.agg [.lit (.int .i64 a), .lit (.int .i64 b)], []) ∧ (Lit.int .i64 a).wf = true ∧ (Lit.int .i64 b).wf = true := by
  obtain ⟨y0, y1, n, rfl, _, hy0, hy1⟩ := trod_struct2 Try.underlying33 h
  simp [Try.cells3'] at hy0 hy1
  obtain ⟨x0, e0, rfl, w0⟩ := DataW.trod_int Try.underlying3 hy0
  obtain ⟨x1, e1, rfl, w1⟩ := DataW.trod_int Try.underlying3 hy1
  simp at e0 e1
  subst e0 e1
  exact ⟨_, _, rfl, rfl, rfl, w0, w1⟩
theorem open_rats {H : Type} {enc : TypeId × Value → H} {W : World} {base : Nat} {v : Value} {d : DataW H} {p : List MemPlace} (hv : Value.okWide Try.prog W .any base 34 v) (h : DataW.Trod enc Try.prog W 0 (fun _ => true) true 34 v d p) :
    ∃ a b c d' e f : Int, v = .agg #[.int .i64 a, .int .i64 b, .int .i64 c, .int .i64 d', .int .i64 e, .int .i64 f] ∧
      d = .agg [.agg [.lit (.int .i64 a), .lit (.int .i64 b)], .agg [.lit (.int .i64 c), .lit (.int .i64 d')], .agg [.lit (.int .i64 e), .lit (.int .i64 f)]] ∧ p = [] ∧
      (Lit.int .i64 a).wf = true ∧ (Lit.int .i64 b).wf = true ∧ (Lit.int .i64 c).wf = true ∧ (Lit.int .i64 d').wf = true ∧ (Lit.int .i64 e).wf = true ∧ (Lit.int .i64 f).wf = true := by
  obtain ⟨cs, rfl, hsz, _⟩ : ∃ cs, v = .agg cs ∧ cs.size = Try.prog.cellsOf 34 ∧ Row.okWide Try.prog W .any base 34 cs := by
    simpa [Value.okWide, Try.underlying34] using hv
  rw [Try.cellsRats] at hsz
  obtain ⟨l⟩ := cs
  obtain ⟨c0, c1, c2, c3, c4, c5, rfl⟩ := list6 l hsz
  obtain ⟨fuel, hf⟩ := h
  obtain ⟨xs, m, _, hx, _, hl, hel⟩ := DataW.trod_array Try.underlying34 hf
  match xs, hl with
  | [y0, y1, y2], _ =>
    have hy0 := hel 0 (by omega)
    have hy1 := hel 1 (by omega)
    have hy2 := hel 2 (by omega)
    simp [Try.cellsRat', Value.cells] at hy0 hy1 hy2
    obtain ⟨a, b, rfl, rfl, rfl, wa, wb⟩ := rat_cells hy0
    obtain ⟨c, d', rfl, rfl, rfl, wc, wd⟩ := rat_cells hy1
    obtain ⟨e, f, rfl, rfl, rfl, we, wf⟩ := rat_cells hy2
    simp only [Prod.mk.injEq] at hx
    exact ⟨_, _, _, _, _, _, rfl, by simpa using hx.1, by simpa using hx.2, wa, wb, wc, wd, we, wf⟩
theorem shut_rats {H : Type} {enc : TypeId × Value → H} {W : World} {sp : Nat → Bool} {a b c d e f : Int} (wa : (Lit.int .i64 a).wf = true) (wb : (Lit.int .i64 b).wf = true) (wc : (Lit.int .i64 c).wf = true) (wd : (Lit.int .i64 d).wf = true) (we : (Lit.int .i64 e).wf = true) (wf : (Lit.int .i64 f).wf = true) :
    DataW.Trod enc Try.prog W 0 sp true 34 (.agg #[.int .i64 a, .int .i64 b, .int .i64 c, .int .i64 d, .int .i64 e, .int .i64 f]) (.agg [.agg [.lit (.int .i64 a), .lit (.int .i64 b)], .agg [.lit (.int .i64 c), .lit (.int .i64 d)], .agg [.lit (.int .i64 e), .lit (.int .i64 f)]]) [] :=
  ⟨3, by simp [DataW.trod, Try.underlying34, Try.underlying33, Try.underlying3, Try.cellsRats, Try.cellsRat', Try.cells3', Value.cells, wa, wb, wc, wd, we, wf, List.range_succ]⟩

set_option maxHeartbeats 1000000 in
set_option maxRecDepth 100000 in
theorem order_lifted (os : Os) (started : os.Started) (H : Type) (enc : TypeId × Value → H) :
    ReturnsInHanded {} Try.checked os 5 .any (Rows.exactOrderSpec.pre6 enc Try.prog Try.f5 Rows.exactOrderRow.domain false) (Rows.exactOrderSpec.post enc Try.prog Try.f5 false true false false) := by
  refine returnsInHanded_of_change (C := Try.checked) own started (by kernel_rfl) Try.func5
    (ChangeSpec.witness6 (enc := enc) (C := Try.checked) false ⟨#[], #[.agg #[.int .i64 0, .int .i64 0, .int .i64 0, .int .i64 0, .int .i64 0, .int .i64 0], .int .i64 0, .int .i64 0], []⟩ 8 (by kernel_rfl) (by kernel_rfl) (by kernel_rfl) (by kernel_rfl)) ?_
  intro W base args ds gs before hval0 hW hcnd _
  have hval : ∀ (j : Nat) t v, Try.f5.params[j]? = some t → args[j]? = some v → Value.okWide Try.prog W .any base t v := hval0
  have hW' := hW
  obtain ⟨p, q, hA0, hV, rfl, hfz, hnd⟩ := hW
  have hA : DataW.TrodAll enc Try.prog W 0 (fun _ => true) true Try.f5.params.toList args.toList ds p := hA0
  rw [Try.params5] at hA hval
  obtain ⟨v0, v1, v2, d0, d1, d2, p0, p1, p2, rfl, rfl, rfl, h0, h1, h2⟩ := trodAll_three hA
  obtain ⟨rfl, rfl⟩ := trodVars_none hV
  obtain ⟨a, b, c, d, e, f, rfl, rfl, rfl, wa, wb, wc, wd, we, wf⟩ := open_rats (hval 0 34 v0 rfl rfl) h0
  obtain ⟨n, rfl, rfl, rfl, wn⟩ := open_int Try.underlying3 (hval 1 3 v1 rfl rfl) h1
  obtain ⟨m, rfl, rfl, rfl, wm⟩ := open_int Try.underlying3 (hval 2 3 v2 rfl rfl) h2
  clear hA0 hval0
  simp only [List.append_nil] at hW'
  refine (Ex.order_any a b c d e f n m (wf_bounds wa) (wf_bounds wb) (wf_bounds wc) (wf_bounds wd) (wf_bounds we) (wf_bounds wf) (wf_bounds wn) (wf_bounds wm) W).mono fun e W' ⟨he, hb⟩ => ?_
  subst he
  refine ⟨_, rfl, _, _, _, [], [], [], hW', ?_, ?_, rfl, hb.frame _, fun h => by cases h⟩
  · exact trodAll_mk1 (shut_bool Try.underlying4 true)
  · exact trodAll_mk3 (shut_rats wa wb wc wd we wf) (shut_int Try.underlying3 wn) (shut_int Try.underlying3 wm)

theorem order_holds : Rows.ExactOrderSaid :=
  OpenClaim.holds_of_wide 5 Try.f5 rfl rfl rfl rfl rfl rfl rfl ⟨rfl, rfl, rfl, rfl, rfl⟩ rfl rfl rfl rfl rfl (by kernel_rfl) Try.func5 (by kernel_rfl)
    (of_decide_eq_true (by kernel_rfl)) (by unfold Func.isWrapper; rw [if_neg (of_decide_eq_false (by kernel_rfl))]; exact ⟨rfl, rfl⟩)
    (fun os started H enc _ => order_lifted os started H enc)

end Go.Proofs.Ytijpkacjbnijoaa
