/-
  Layer 2 (wire): the law's values as they come in; WirePrefix. For every two values WirePrefix returns true, and what it was given reads as before. No condition.
-/
import Derived.Test.YtadnkofbgifliaaWrY
import Derived.Test.YtadnkofbgifliaaWrN
import Derived.ProofKit
import Derived.Carry
namespace Go.Proofs.Ytadnkofbgifliaa
open Go.ChangeShapes Go.WideShapes Go.ChangeAt Go.RowKit

/-- A slice of numbers of a kind, as cells. -/
theorem read_nums {t e : TypeId} {k : IntKind} (ht : Try.prog.underlying t = some (.slice e)) (he : Try.prog.underlying e = some (.int k)) (hc : Try.prog.cellsOf e = 1) {H : Type} {enc : TypeId × Value → H} {W : World} {fuel : Nat} {cs : List Value} {x : DataW H × List MemPlace}
    (hf : DataW.trod enc Try.prog W 0 (fun _ => true) true fuel t cs = some x) :
    ∃ (a : Option Addr) (n c : Nat) (l : List Int), cs = [.slice a n c] ∧ l.length = n ∧ n ≤ c ∧ c ≤ maxLen ∧ (∀ i x, l[i]? = some x → ∃ b off, a = some ⟨b, off, none⟩ ∧ W.cell? ⟨b, off + i, none⟩ = some (.int k x)) ∧ ∀ x ∈ l, (Lit.int k x).wf = true := by
  rcases open_ints ht he hc hf with ⟨hcs, hx⟩ | ⟨a, len', cap', zs, hcs, _, hl, hm, hz, hx, hcell, hwz⟩
  · exact ⟨none, 0, 0, [], hcs, rfl, Nat.le_refl _, Nat.zero_le _, fun i x h => by simp at h, fun x h => by simp at h⟩
  · simp only [if_true] at hz
    refine ⟨some a, len', cap', zs.take len', hcs, by simp; omega, hl, hm, fun i x h => ?_, fun x h => hwz x (List.mem_of_mem_take h)⟩
    rw [List.getElem?_take] at h
    split at h
    · rename_i hi
      obtain ⟨b, off, spot⟩ := a
      have hspot : spot = none := by simpa [Addr.add] using World.cell?_spot (hcell 0 (by omega))
      subst hspot
      refine ⟨b, off, rfl, ?_⟩
      have := hcell i (by omega)
      rw [add_plain] at this
      rw [this]
      simp [List.getD, h]
    · cases h
/-- A slice of strings, as cells. -/
theorem read_texts {H : Type} {enc : TypeId × Value → H} {W : World} {fuel : Nat} {cs : List Value} {x : DataW H × List MemPlace}
    (hf : DataW.trod enc Try.prog W 0 (fun _ => true) true fuel 23 cs = some x) :
    ∃ (a : Option Addr) (n c : Nat) (l : List ByteArray), cs = [.slice a n c] ∧ l.length = n ∧ n ≤ c ∧ c ≤ maxLen ∧ Wr.StrsAt W a l ∧ ∀ x ∈ l, x.size ≤ maxLen := by
  rcases Go.Deep.open_strs Try.underlying23 Try.underlying9 cellsS hf with ⟨hcs, hx⟩ | ⟨a, len', cap', m, Sx, hcs, _, hl, hm, hmm, hx, hcell⟩
  · exact ⟨none, 0, 0, [], hcs, rfl, Nat.le_refl _, Nat.zero_le _, fun i x h => by simp at h, fun x h => by simp at h⟩
  · simp only [if_true] at hmm
    subst hmm
    refine ⟨some a, len', m, (List.range len').map Sx, hcs, by simp, hl, hm, fun i x h => ?_, fun x h => ?_⟩
    · rw [List.getElem?_map] at h
      cases hq : (List.range len')[i]? with
      | none => rw [hq] at h; cases h
      | some j =>
        rw [hq] at h
        have hi : i < len' := by
          rcases Nat.lt_or_ge i len' with q | q
          · exact q
          · rw [List.getElem?_eq_none (by simpa using q)] at hq; cases hq
        have hj : j = i := by rw [List.getElem?_range hi] at hq; injection hq with hq; exact hq.symm
        subst hj
        simp at h
        obtain ⟨b, off, spot⟩ := a
        have hspot : spot = none := by simpa [Addr.add] using World.cell?_spot (hcell 0 (by omega)).1
        subst hspot
        refine ⟨b, off, rfl, ?_⟩
        have := (hcell j (by omega)).1
        rw [add_plain] at this
        rw [this, h]
    · simp at h
      obtain ⟨i, hi, rfl⟩ := h
      exact (hcell i (by omega)).2

theorem cellsV : Try.prog.cellsOf 45 = 5 := by kernel_rfl
theorem cellsU8 : Try.prog.cellsOf 5 = 1 := by kernel_rfl
theorem cellsLI : Try.prog.cellsOf 22 = 1 := by kernel_rfl
theorem cellsLS : Try.prog.cellsOf 23 = 1 := by kernel_rfl
/-- A value of the law, as cells, and what its lists hold. -/
theorem read_value {H : Type} {enc : TypeId × Value → H} {W : World} {fuel : Nat} {cs : List Value} {x : DataW H × List MemPlace}
    (hf : DataW.trod enc Try.prog W 0 (fun _ => true) true fuel 45 cs = some x) :
    ∃ (K n : Int) (s : ByteArray) (a a' : Option Addr) (L : List Int) (T : List ByteArray) (l l' c c' : Nat), cs = [.int .u8 K, .int .i64 n, .string s, .slice a l c, .slice a' l' c'] ∧ L.length = l ∧ T.length = l' ∧ l ≤ c ∧
      s.size ≤ 9223372036854775807 ∧ c ≤ 9223372036854775807 ∧ l' ≤ 9223372036854775807 ∧ Wr.IntsAt W a L ∧ Wr.StrsAt W a' T ∧ (∀ x ∈ T, x.size ≤ 9223372036854775807) ∧ 0 ≤ K ∧ K < 256 ∧ Wr.inI n ∧ ∀ x ∈ L, Wr.inI x := by
  obtain ⟨xs, n, _, _, hl, hlen, hg⟩ := DataW.trod_struct Try.underlying45 hf
  rw [cellsV] at hl
  match cs, hl with
  | [e0, e1, e2, e3, e4], _ =>
    match xs, hlen with
    | [y0, y1, y2, y3, y4], _ =>
      have g0 := hg 0 _ rfl
      have g1 := hg 1 _ rfl
      have g2 := hg 2 _ rfl
      have g3 := hg 3 _ rfl
      have g4 := hg 4 _ rfl
      simp only [cellsU8, cellsI, cellsS, cellsLI, cellsLS, List.drop_zero, List.drop_succ_cons, List.take_succ_cons, List.take_zero, List.getElem?_cons_zero, List.getElem?_cons_succ] at g0 g1 g2 g3 g4
      obtain ⟨K, h0, _, w0⟩ := DataW.trod_int Try.underlying5 g0
      obtain ⟨m, h1, _, w1⟩ := DataW.trod_int Try.underlying3 g1
      obtain ⟨s, h2, _, w2⟩ := DataW.trod_string Try.underlying9 g2
      obtain ⟨a, l, c, L, h3, q1, q2, q3, q4, q5⟩ := read_nums Try.underlying22 Try.underlying3 cellsI g3
      obtain ⟨a', l', c', T, h4, r1, r2, r3, r4, r5⟩ := read_texts g4
      cases h0; cases h1; cases h2; cases h3; cases h4
      have u0 := u8_wf w0
      unfold maxLen at w2 q3 r3
      refine ⟨K, m, s, a, a', L, T, l, l', c, c', rfl, q1, r1, q2, by omega, by omega, by omega, q4, r4, fun x hx => ?_, u0.1, u0.2, i64_wf w1, fun x hx => i64_wf (q5 x hx)⟩
      have := r5 x hx
      unfold maxLen at this
      omega
/-- A value of the law that was handed in. -/
theorem open_value {H : Type} {enc : TypeId × Value → H} {W : World} {base : Nat} {v : Value} {d : DataW H} {p : List MemPlace}
    (hv : Value.okWide Try.prog W .any base 45 v) (h : DataW.Trod enc Try.prog W 0 (fun _ => true) true 45 v d p) :
    ∃ (K n : Int) (s : ByteArray) (a a' : Option Addr) (L : List Int) (T : List ByteArray) (l l' c c' : Nat), v = .agg #[.int .u8 K, .int .i64 n, .string s, .slice a l c, .slice a' l' c'] ∧ L.length = l ∧ T.length = l' ∧ l ≤ c ∧
      s.size ≤ 9223372036854775807 ∧ c ≤ 9223372036854775807 ∧ l' ≤ 9223372036854775807 ∧ Wr.IntsAt W a L ∧ Wr.StrsAt W a' T ∧ (∀ x ∈ T, x.size ≤ 9223372036854775807) ∧ 0 ≤ K ∧ K < 256 ∧ Wr.inI n ∧ ∀ x ∈ L, Wr.inI x := by
  obtain ⟨cs, rfl, _⟩ := okWide_struct Try.underlying45 hv
  obtain ⟨fuel, hf⟩ := h
  obtain ⟨K, n, s, a, a', L, T, l, l', c, c', hcs, r⟩ := read_value hf
  have : cs = #[.int .u8 K, .int .i64 n, .string s, .slice a l c, .slice a' l' c'] := Array.toList_inj.1 hcs
  exact ⟨K, n, s, a, a', L, T, l, l', c, c', by rw [this], r⟩

set_option maxHeartbeats 1000000 in
set_option maxRecDepth 100000 in
theorem prefix_lifted (os : Os) (started : os.Started) (H : Type) (enc : TypeId × Value → H) :
    ReturnsInHanded {} Try.checked os 8 .any (Rows.wirePrefixSpec.pre6 enc Try.prog Try.f8 Rows.wirePrefixRow.domain false) (Rows.wirePrefixSpec.post enc Try.prog Try.f8 false true false false) := by
  refine returnsInHanded_of_change (C := Try.checked) own started (by kernel_rfl) Try.func8
    (ChangeSpec.witness6 (enc := enc) (C := Try.checked) false ⟨#[], #[.agg #[.int .u8 0, .int .i64 0, .string ⟨#[]⟩, .slice none 0 0, .slice none 0 0], .agg #[.int .u8 0, .int .i64 0, .string ⟨#[]⟩, .slice none 0 0, .slice none 0 0]], []⟩ 8 (by kernel_rfl) (by kernel_rfl) (by kernel_rfl) (by kernel_rfl)) ?_
  intro W base args ds gs before hval0 hW hcnd _
  have hval : ∀ (j : Nat) t v, Try.f8.params[j]? = some t → args[j]? = some v → Value.okWide Try.prog W .any base t v := hval0
  have hW' := hW
  obtain ⟨p, q, hA0, hV, rfl, hfz, hnd⟩ := hW
  have hA : DataW.TrodAll enc Try.prog W 0 (fun _ => true) true Try.f8.params.toList args.toList ds p := hA0
  rw [Try.params8] at hA hval
  obtain ⟨v0, v1, d0, d1, p0, p1, rfl, rfl, rfl, h0, h1⟩ := trodAll_two hA
  obtain ⟨rfl, rfl⟩ := trodVars_none hV
  clear hA0 hval0
  simp only [List.append_nil] at hW'
  obtain ⟨K, n, s, a, a', L, T, l, l', c, c', rfl, x1, x2, x3, x4, x5, x6, x7, x8, x9, x10, x11, x12, x13⟩ := open_value (hval 0 45 v0 rfl rfl) h0
  obtain ⟨K2, n2, s2, e2, e2', L2, T2, l2, l2', c2, c2', rfl, y1, y2, y3, y4, y5, y6, y7, y8, y9, y10, y11, y12, y13⟩ := open_value (hval 1 45 v1 rfl rfl) h1
  refine (Wr.prefix_any K n s a a' L T l l' c c' x1 x2 x3 x4 x5 x6 W x7 x8 x9 K2 n2 s2 e2 e2' L2 T2 l2 l2' c2 c2' y1 y2 y3 y4 y5 y6 y7 y8 y9 x10 x11 x12 y12 x13 y13).mono fun e W' ⟨he, hb⟩ => ?_
  subst he
  refine ⟨_, rfl, _, _, _, [], p0 ++ p1, [], hW', ?_, ?_, rfl, hb.frame _, fun h => by cases h⟩
  · exact trodAll_mk1 (shut_bool Try.underlying4 true)
  · exact trodAll_mk2 (Below.trod laidOut (by kernel_rfl) (of_decide_eq_true (by kernel_rfl)) h0 hb (fun x hx => by simpa using hW'.lt x (by simp [hx])))
      (Below.trod laidOut (by kernel_rfl) (of_decide_eq_true (by kernel_rfl)) h1 hb (fun x hx => by simpa using hW'.lt x (by simp [hx])))

theorem prefix_holds : Rows.WirePrefixSaid :=
  OpenClaim.holds_of_wide 8 Try.f8 rfl rfl rfl rfl rfl rfl rfl ⟨rfl, rfl, rfl, rfl, rfl⟩ rfl rfl rfl rfl rfl (by kernel_rfl) Try.func8 (by kernel_rfl)
    (of_decide_eq_true (by kernel_rfl)) (by unfold Func.isWrapper; rw [if_neg (of_decide_eq_false (by kernel_rfl))]; exact ⟨rfl, rfl⟩)
    (fun os started H enc _ => prefix_lifted os started H enc)

end Go.Proofs.Ytadnkofbgifliaa
