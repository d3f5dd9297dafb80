/-
  For every two ratios and every two numbers ExactUnits returns true, and what it was given reads as before. No condition.
-/
import Derived.Test.YtijpkacjbnijoaaExT
import Derived.Test.YtijpkacjbnijoaaExS
import Derived.Lib.SmallJoins
namespace Go.Proofs.Ytijpkacjbnijoaa
open Go.ChangeShapes Go.WideShapes Go.ChangeAt Go.RowKit Go.Joins

namespace Ex
theorem units_any (n d m e p q : Int) (hn : -9223372036854775808 ≤ n ∧ n ≤ 9223372036854775807) (hd : -9223372036854775808 ≤ d ∧ d ≤ 9223372036854775807) (hm : -9223372036854775808 ≤ m ∧ m ≤ 9223372036854775807) (he : -9223372036854775808 ≤ e ∧ e ≤ 9223372036854775807)
    (hp : -9223372036854775808 ≤ p ∧ p ≤ 9223372036854775807) (hq : -9223372036854775808 ≤ q ∧ q ≤ 9223372036854775807) (w : World) :
    Calls Try.prog 8 #[.agg #[.int .i64 n, .int .i64 d], .agg #[.int .i64 m, .int .i64 e], .agg #[.int .i64 p, .int .i64 q]] w fun e w' => e = .returned (.bool true) ∧ Below w.heap.size w w' := by
  have c1 : -9223372036854775808 ≤ (1 : Int) ∧ (1 : Int) ≤ 9223372036854775807 := by omega
  have L := lowest_any n d hn hd.2
  have s0 := sum_go n d 0 5 hn hd (by omega) (by omega)
  have m0 := mul_go 3 3 n d (by omega) (by omega) hn hd
  have s1 := sum_go n d m e hn hd hm he
  have s2 := sum_go m e n d hm he hn hd
  have m1 := mul_go n d m e hn hd hm he
  have m2 := mul_go m e n d hm he hn hd
  have si := sum_go p 1 q 1 hp c1 hq c1
  have mi := mul_go p 1 q 1 hp c1 hq c1
  have md := muldiv_go p q 1 hp hq c1
  obtain ⟨z1, z2, z3⟩ := sum_zero n d hn hd.2
  obtain ⟨o1, o2, o3⟩ := mul_one' n d hn hd.2
  obtain ⟨k1, k2, k3⟩ := sum_comm n d m e
  obtain ⟨l1, l2, l3⟩ := mul_comm' n d m e
  obtain ⟨i1, i2, i3⟩ := sum_ints p q
  obtain ⟨j1, j2, j3, j4, j5⟩ := mul_ints p q
  rw [z1, z2, z3] at s0
  rw [o1, o2, o3] at m0
  rw [k1, k2, k3] at s2
  rw [l1, l2, l3] at m2
  rw [i3] at si
  rw [j3] at mi
  rw [j4, j5] at md
  rw [show MuN p 1 q 1 = (if fits (p * q) = true then p * q else 0) from j1] at mi
  exact units_walk n d m e p q (LoN n d) (LoD n d) (SuN n d m e) (SuD n d m e) (MuN n d m e) (MuD n d m e) (SuN p 1 q 1) (SuD p 1 q 1) (if fits (p * q) = true then p * q else 0) (MuD p 1 q 1)
    (decide (1 ≤ d)) (SuB n d m e) (MuB n d m e) (fits (p + q)) (fits (p * q))
    (Lib.hid L) (Lib.hid s0) (Lib.hid m0) (Lib.hid s1) (Lib.hid s2) (Lib.hid m1) (Lib.hid m2) (Lib.hid si) (Lib.hid mi) (Lib.hid md)
    rfl sum_valid hp hq
    (fun h => by rw [i1, i2, if_pos h, if_pos h]; exact ⟨rfl, rfl, (fits_iff _).1 h⟩)
    (fun h => by
      rw [i1, i2, h]
      refine ⟨rfl, rfl, ?_⟩
      have : ¬ (-9223372036854775808 ≤ p + q ∧ p + q ≤ 9223372036854775807) := fun c => by rw [fits_of c] at h; cases h
      omega)
    (fun h => by rw [j2, if_pos h]) (fun h => by rw [j2, h]; exact ⟨rfl, rfl⟩) w
end Ex

theorem Try.cellsRat : Try.prog.cellsOf 33 = 2 := by kernel_rfl
theorem Try.cellsTwo : Try.prog.cellsOf 47 = 2 := by kernel_rfl
theorem open_ratio {H : Type} {enc : TypeId × Value → H} {W : World} {base : Nat} {v : Value} {d : DataW H} {p : List MemPlace} (hv : Value.okWide Try.prog W .any base 33 v) (h : DataW.Trod enc Try.prog W 0 (fun _ => true) true 33 v d p) :
    ∃ a b : Int, v = .agg #[.int .i64 a, .int .i64 b] ∧ d = .agg [.lit (.int .i64 a), .lit (.int .i64 b)] ∧ p = [] ∧ (Lit.int .i64 a).wf = true ∧ (Lit.int .i64 b).wf = true := by
  obtain ⟨c0, c1, y0, y1, m, rfl, rfl, rfl, hy0, hy1⟩ := open_agg2 Try.underlying33 (by kernel_rfl) Try.cellsRat hv h
  obtain ⟨x0, e0, rfl, w0⟩ := DataW.trod_int Try.underlying3 hy0
  obtain ⟨x1, e1, rfl, w1⟩ := DataW.trod_int Try.underlying3 hy1
  simp at e0 e1
  subst e0 e1
  exact ⟨_, _, rfl, rfl, rfl, w0, w1⟩
theorem shut_ratio {H : Type} {enc : TypeId × Value → H} {W : World} {sp : Nat → Bool} {a b : Int} (wa : (Lit.int .i64 a).wf = true) (wb : (Lit.int .i64 b).wf = true) :
    DataW.Trod enc Try.prog W 0 sp true 33 (.agg #[.int .i64 a, .int .i64 b]) (.agg [.lit (.int .i64 a), .lit (.int .i64 b)]) [] :=
  shut_agg2 (y0 := (.lit (.int .i64 a), [])) (y1 := (.lit (.int .i64 b), [])) Try.underlying33 (by kernel_rfl) Try.cellsRat ⟨1, by simp [DataW.trod, Try.underlying3, wa]⟩ ⟨1, by simp [DataW.trod, Try.underlying3, wb]⟩
theorem list2 {α : Type} : ∀ (l : List α), l.toArray.size = 2 → ∃ a b, l = [a, b]
  | [a, b], _ => ⟨a, b, rfl⟩
theorem open_two {H : Type} {enc : TypeId × Value → H} {W : World} {base : Nat} {v : Value} {d : DataW H} {p : List MemPlace} (hv : Value.okWide Try.prog W .any base 47 v) (h : DataW.Trod enc Try.prog W 0 (fun _ => true) true 47 v d p) :
    ∃ a b : Int, v = .agg #[.int .i64 a, .int .i64 b] ∧ d = .agg [.lit (.int .i64 a), .lit (.int .i64 b)] ∧ p = [] ∧ (Lit.int .i64 a).wf = true ∧ (Lit.int .i64 b).wf = true := by
  obtain ⟨cs, rfl, hsz, _⟩ : ∃ cs, v = .agg cs ∧ cs.size = Try.prog.cellsOf 47 ∧ Row.okWide Try.prog W .any base 47 cs := by
    simpa [Value.okWide, Try.underlying47] using hv
  rw [Try.cellsTwo] at hsz
  obtain ⟨l⟩ := cs
  obtain ⟨c0, c1, rfl⟩ := list2 l hsz
  obtain ⟨fuel, hf⟩ := h
  obtain ⟨xs, m, _, hx, _, hl, hel⟩ := DataW.trod_array Try.underlying47 hf
  match xs, hl with
  | [y0, y1], _ =>
    have hy0 := hel 0 (by omega)
    have hy1 := hel 1 (by omega)
    simp [Try.cells3', Value.cells] at hy0 hy1
    obtain ⟨x0, e0, rfl, w0⟩ := DataW.trod_int Try.underlying3 hy0
    obtain ⟨x1, e1, rfl, w1⟩ := DataW.trod_int Try.underlying3 hy1
    simp at e0 e1
    subst e0 e1
    simp only [Prod.mk.injEq] at hx
    exact ⟨_, _, rfl, by simpa using hx.1, by simpa using hx.2, w0, w1⟩
theorem shut_two {H : Type} {enc : TypeId × Value → H} {W : World} {sp : Nat → Bool} {a b : Int} (wa : (Lit.int .i64 a).wf = true) (wb : (Lit.int .i64 b).wf = true) :
    DataW.Trod enc Try.prog W 0 sp true 47 (.agg #[.int .i64 a, .int .i64 b]) (.agg [.lit (.int .i64 a), .lit (.int .i64 b)]) [] :=
  ⟨2, by simp [DataW.trod, Try.underlying47, Try.underlying3, Try.cellsTwo, Try.cells3', Value.cells, wa, wb, List.range_succ]⟩

set_option maxHeartbeats 1000000 in
set_option maxRecDepth 100000 in
theorem units_lifted (os : Os) (started : os.Started) (H : Type) (enc : TypeId × Value → H) :
    ReturnsInHanded {} Try.checked os 8 .any (Rows.exactUnitsSpec.pre6 enc Try.prog Try.f8 Rows.exactUnitsRow.domain false) (Rows.exactUnitsSpec.post enc Try.prog Try.f8 false true false false) := by
  refine returnsInHanded_of_change (C := Try.checked) own started (by kernel_rfl) Try.func8
    (ChangeSpec.witness6 (enc := enc) (C := Try.checked) false ⟨#[], #[.agg #[.int .i64 0, .int .i64 0], .agg #[.int .i64 0, .int .i64 0], .agg #[.int .i64 0, .int .i64 0]], []⟩ 8 (by kernel_rfl) (by kernel_rfl) (by kernel_rfl) (by kernel_rfl)) ?_
  intro W base args ds gs before hval0 hW hcnd _
  have hval : ∀ (j : Nat) t v, Try.f8.params[j]? = some t → args[j]? = some v → Value.okWide Try.prog W .any base t v := hval0
  have hW' := hW
  obtain ⟨p, q, hA0, hV, rfl, hfz, hnd⟩ := hW
  have hA : DataW.TrodAll enc Try.prog W 0 (fun _ => true) true Try.f8.params.toList args.toList ds p := hA0
  rw [Try.params8] at hA hval
  obtain ⟨v0, v1, v2, d0, d1, d2, p0, p1, p2, rfl, rfl, rfl, h0, h1, h2⟩ := trodAll_three hA
  obtain ⟨rfl, rfl⟩ := trodVars_none hV
  obtain ⟨a, b, rfl, rfl, rfl, wa, wb⟩ := open_ratio (hval 0 33 v0 rfl rfl) h0
  obtain ⟨c, d, rfl, rfl, rfl, wc, wd⟩ := open_ratio (hval 1 33 v1 rfl rfl) h1
  obtain ⟨x, y, rfl, rfl, rfl, wx, wy⟩ := open_two (hval 2 47 v2 rfl rfl) h2
  clear hA0 hval0
  simp only [List.append_nil] at hW'
  refine (Ex.units_any a b c d x y (wf_bounds wa) (wf_bounds wb) (wf_bounds wc) (wf_bounds wd) (wf_bounds wx) (wf_bounds wy) W).mono fun e W' ⟨he, hb⟩ => ?_
  subst he
  refine ⟨_, rfl, _, _, _, [], [], [], hW', ?_, ?_, rfl, hb.frame _, fun h => by cases h⟩
  · exact trodAll_mk1 (shut_bool Try.underlying4 true)
  · exact trodAll_mk3 (shut_ratio wa wb) (shut_ratio wc wd) (shut_two wx wy)

theorem units_holds : Rows.ExactUnitsSaid :=
  OpenClaim.holds_of_wide 8 Try.f8 rfl rfl rfl rfl rfl rfl rfl ⟨rfl, rfl, rfl, rfl, rfl⟩ rfl rfl rfl rfl rfl (by kernel_rfl) Try.func8 (by kernel_rfl)
    (of_decide_eq_true (by kernel_rfl)) (by unfold Func.isWrapper; rw [if_neg (of_decide_eq_false (by kernel_rfl))]; exact ⟨rfl, rfl⟩)
    (fun os started H enc _ => units_lifted os started H enc)

end Go.Proofs.Ytijpkacjbnijoaa
