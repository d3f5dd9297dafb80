/-
  For every two lists of numbers, every axes and every change AxisPositions returns true, and what it was given reads as before. No condition.
-/
import Derived.Test.YtmlkdfieakihlaaAxPb
import Derived.Test.YtmlkdfieakihlaaAxW2
import Derived.Test.YtmlkdfieakihlaaAxW4
namespace Go.Proofs.Ytmlkdfieakihlaa
open Go.ChangeShapes Go.WideShapes Go.ChangeAt Go.RowKit

set_option maxHeartbeats 1000000 in
set_option maxRecDepth 100000 in
theorem positions_lifted (os : Os) (started : os.Started) (H : Type) (enc : TypeId × Value → H) :
    ReturnsInHanded {} Try.checked os 3 .any (Rows.axisPositionsSpec.pre6 enc Try.prog Try.f3 Rows.axisPositionsRow.domain false) (Rows.axisPositionsSpec.post enc Try.prog Try.f3 false true false false) := by
  refine returnsInHanded_of_change (C := Try.checked) own started (by kernel_rfl) Try.func3
    (ChangeSpec.witness6 (enc := enc) (C := Try.checked) false ⟨#[], #[.slice none 0 0, .slice none 0 0, .slice none 0 0, .agg #[.int .i64 0, .int .i64 0, .int .i64 0]], []⟩ 8 (by kernel_rfl) (by kernel_rfl) (by kernel_rfl) (by kernel_rfl)) ?_
  intro W base args ds gs before hval0 hW hcnd _
  have hval : ∀ (j : Nat) t v, Try.f3.params[j]? = some t → args[j]? = some v → Value.okWide Try.prog W .any base t v := hval0
  have hW' := hW
  obtain ⟨p, q, hA0, hV, rfl, hfz, hnd⟩ := hW
  have hA : DataW.TrodAll enc Try.prog W 0 (fun _ => true) true Try.f3.params.toList args.toList ds p := hA0
  rw [Try.params3] at hA hval
  obtain ⟨v0, v1, v2, v3, d0, d1, d2, d3, p0, p1, p2, p3, rfl, rfl, rfl, h0, h1, h2, h3⟩ := trodAll_four hA
  obtain ⟨rfl, rfl⟩ := trodVars_none hV
  clear hA0 hval0
  simp only [List.append_nil] at hW'
  obtain ⟨a, n, c, l, rfl, hl01, hl02, hl03, hl04⟩ := open_list (hval 0 22 v0 rfl rfl) h0
  obtain ⟨pa, m, d, r, rfl, hl11, hl12, hl13, hl14⟩ := open_list (hval 1 22 v1 rfl rfl) h1
  obtain ⟨ra, k, e, g, rfl, ht21, ht22, ht23, ht24⟩ := open_axes (hval 2 23 v2 rfl rfl) h2
  obtain ⟨x, y, z, rfl, hw3⟩ := open_three (hval 3 24 v3 rfl rfl) h3
  refine (Ax.Positions_any a n c l pa m d r ra k e g x y z ⟨hl01, hl02⟩ hl04 ⟨hl11, hl12⟩ ⟨ht21, ht22⟩ (fun i hi => (ht24 i hi).1) hw3.1 hw3.2.1 hw3.2.2 W hl03 hl13 ht23).mono fun e W' ⟨he, hb⟩ => ?_
  subst he
  refine ⟨_, rfl, _, _, _, [], p0 ++ (p1 ++ (p2 ++ (p3))), [], hW', ?_, ?_, rfl, hb.frame _, fun h => by cases h⟩
  · exact trodAll_mk1 (shut_bool Try.underlying4 true)
  · exact trodAll_mk4 (Below.trod laidOut (by kernel_rfl) (of_decide_eq_true (by kernel_rfl)) h0 hb (fun x hx => by simpa using hW'.lt x (by simp [hx]))) (Below.trod laidOut (by kernel_rfl) (of_decide_eq_true (by kernel_rfl)) h1 hb (fun x hx => by simpa using hW'.lt x (by simp [hx]))) (Below.trod laidOut (by kernel_rfl) (of_decide_eq_true (by kernel_rfl)) h2 hb (fun x hx => by simpa using hW'.lt x (by simp [hx]))) (Below.trod laidOut (by kernel_rfl) (of_decide_eq_true (by kernel_rfl)) h3 hb (fun x hx => by simpa using hW'.lt x (by simp [hx])))

theorem positions_holds : Rows.AxisPositionsSaid :=
  OpenClaim.holds_of_wide 3 Try.f3 rfl rfl rfl rfl rfl rfl rfl ⟨rfl, rfl, rfl, rfl, rfl⟩ rfl rfl rfl rfl rfl (by kernel_rfl) Try.func3 (by kernel_rfl)
    (of_decide_eq_true (by kernel_rfl)) (by unfold Func.isWrapper; rw [if_neg (of_decide_eq_false (by kernel_rfl))]; exact ⟨rfl, rfl⟩)
    (fun os started H enc _ => positions_lifted os started H enc)

end Go.Proofs.Ytmlkdfieakihlaa
