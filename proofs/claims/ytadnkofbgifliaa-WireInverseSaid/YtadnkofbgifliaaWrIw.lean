/-
  For every list of values WireInverse returns true, and what it was given reads as before. No condition.
-/
import Derived.Test.YtadnkofbgifliaaWrIv
import Derived.Test.YtadnkofbgifliaaWrZ
import Derived.Deep.Slices
namespace Go.Proofs.Ytadnkofbgifliaa
open Go.ChangeShapes Go.WideShapes Go.ChangeAt Go.RowKit

/-- A slice of values that was handed in. -/
theorem open_values {H : Type} {enc : TypeId × Value → H} {W : World} {base : Nat} {v : Value} {d : DataW H} {p : List MemPlace}
    (hv : Value.okWide Try.prog W .any base 43 v) (h : DataW.Trod enc Try.prog W 0 (fun _ => true) true 43 v d p) :
    ∃ (a : Option Addr) (n c : Nat) (l : List Wr.Va), v = .slice a n c ∧ l.length = n ∧ n ≤ c ∧ c ≤ maxLen ∧ Wr.ValsAt W a l := by
  obtain ⟨a0, len, cap, rfl⟩ := okWide_slice Try.underlying43 hv
  obtain ⟨fuel, hf⟩ := h
  rcases Go.Deep.open_slice Try.underlying43 hf with ⟨hcs, hx⟩ | ⟨a, len', cap', m, n, D, Pl, hcs, _, hl, hm, hmm, hx, hcell⟩
  · simp [Value.cells] at hcs
    obtain ⟨rfl, rfl, rfl⟩ := hcs
    exact ⟨none, 0, 0, [], rfl, rfl, Nat.le_refl _, Nat.zero_le _, fun i x h => by simp at h⟩
  · simp [Value.cells] at hcs
    obtain ⟨rfl, rfl, rfl⟩ := hcs
    simp only [if_true] at hmm
    subst hmm
    have hall : ∀ i : Fin len, ∃ x : Wr.Va, (∃ b off, a = ⟨b, off, none⟩ ∧ Wr.Va.at W x b (off + i.val * 5)) ∧ Wr.Va.ok W x := by
      intro i
      obtain ⟨cs', hc, ht⟩ := hcell i.val (by have := i.isLt; omega)
      rw [cellsV] at hc
      obtain ⟨K, n, s, a1, a2, L, T, l, l', c, c', hcs, y1, y2, y3, y4, y5, y6, y7, y8, y9, y10, y11, y12, y13⟩ := read_value ht
      obtain ⟨_, hcl, hat⟩ := World.cells?_some hc
      subst hcs
      refine ⟨⟨K, n, s, a1, a2, L, T, l, l', c, c'⟩, ?_, y1, y2, y3, y4, y5, y6, y7, y8, y9, y10, y11, y12, y13⟩
      have q0 := hat 0 (by omega)
      have q1 := hat 1 (by omega)
      have q2 := hat 2 (by omega)
      have q3 := hat 3 (by omega)
      have q4 := hat 4 (by omega)
      have hspot : a.spot = none := by
        obtain ⟨cs0, hc0, _⟩ := hcell 0 (by have := i.isLt; omega)
        rw [cellsV] at hc0
        obtain ⟨_, hcl0, hat0⟩ := World.cells?_some hc0
        have := hat0 0 (by omega)
        rw [List.getElem?_eq_getElem (by omega)] at this
        simpa [Addr.add] using World.cell?_spot this
      obtain ⟨b, off, spot⟩ := a
      simp only at hspot
      subst hspot
      refine ⟨b, off, rfl, ?_⟩
      rw [add_plain, add_plain] at q0 q1 q2 q3 q4
      exact ⟨q0, q1, q2, q3, q4⟩
    refine ⟨some a, len, m, (List.finRange len).map fun i => Classical.choose (hall i), rfl, by simp, hl, hm, fun i x h => ?_⟩
    rw [List.getElem?_map] at h
    cases hq : (List.finRange len)[i]? with
    | none => rw [hq] at h; cases h
    | some j =>
      rw [hq] at h
      have hj : j.val = i := by
        have hi : i < (List.finRange len).length := (List.getElem?_eq_some_iff.1 hq).1
        have := (List.getElem?_eq_some_iff.1 hq).2
        rw [← this]; simp
      simp at h
      subst h
      obtain ⟨⟨b, off, e, h1⟩, h2⟩ := Classical.choose_spec (hall j)
      exact ⟨⟨b, off, by rw [e], by rw [← hj]; exact h1⟩, h2⟩

set_option maxHeartbeats 1000000 in
set_option maxRecDepth 100000 in
theorem inverse_lifted (os : Os) (started : os.Started) (H : Type) (enc : TypeId × Value → H) :
    ReturnsInHanded {} Try.checked os 5 .any (Rows.wireInverseSpec.pre6 enc Try.prog Try.f5 Rows.wireInverseRow.domain false) (Rows.wireInverseSpec.post enc Try.prog Try.f5 false true false false) := by
  refine returnsInHanded_of_change (C := Try.checked) own started (by kernel_rfl) Try.func5
    (ChangeSpec.witness6 (enc := enc) (C := Try.checked) false ⟨#[], #[.slice none 0 0], []⟩ 8 (by kernel_rfl) (by kernel_rfl) (by kernel_rfl) (by kernel_rfl)) ?_
  intro W base args ds gs before hval0 hW hcnd _
  have hval : ∀ (j : Nat) t v, Try.f5.params[j]? = some t → args[j]? = some v → Value.okWide Try.prog W .any base t v := hval0
  have hW' := hW
  obtain ⟨p, q, hA0, hV, rfl, hfz, hnd⟩ := hW
  have hA : DataW.TrodAll enc Try.prog W 0 (fun _ => true) true Try.f5.params.toList args.toList ds p := hA0
  rw [Try.params5] at hA hval
  obtain ⟨v0, d0, rfl, rfl, h0⟩ := trodAll_one hA
  obtain ⟨rfl, rfl⟩ := trodVars_none hV
  clear hA0 hval0
  simp only [List.append_nil] at hW'
  obtain ⟨a, n, c, l, rfl, hn, hnc, hc, hl⟩ := open_values (hval 0 43 v0 rfl rfl) h0
  refine (Wr.inverse_any a l n c hn hnc W hl (by unfold maxLen at hc; omega)).mono fun e W' ⟨he, hb⟩ => ?_
  subst he
  refine ⟨_, rfl, _, _, _, [], p, [], hW', ?_, ?_, rfl, hb.frame _, fun h => by cases h⟩
  · exact trodAll_mk1 (shut_bool Try.underlying4 true)
  · exact trodAll_mk1 (Below.trod laidOut (by kernel_rfl) (of_decide_eq_true (by kernel_rfl)) h0 hb (fun x hx => by simpa using hW'.lt x (by simp [hx])))

theorem inverse_holds : Rows.WireInverseSaid :=
  OpenClaim.holds_of_wide 5 Try.f5 rfl rfl rfl rfl rfl rfl rfl ⟨rfl, rfl, rfl, rfl, rfl⟩ rfl rfl rfl rfl rfl (by kernel_rfl) Try.func5 (by kernel_rfl)
    (of_decide_eq_true (by kernel_rfl)) (by unfold Func.isWrapper; rw [if_neg (of_decide_eq_false (by kernel_rfl))]; exact ⟨rfl, rfl⟩)
    (fun os started H enc _ => inverse_lifted os started H enc)

end Go.Proofs.Ytadnkofbgifliaa
