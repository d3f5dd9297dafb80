/-
  Layer 2 (wire): no serialization of a value begins another one of the same kind.
-/
import Derived.Test.YtadnkofbgifliaaWrX
namespace Go.Proofs.Ytadnkofbgifliaa.Wr
open Go.RowKit

theorem bytes_eq {x y : ByteArray} (h : x.data.toList = y.data.toList) : x = y := ByteArray.ext (Array.toList_inj.1 h)
theorem strI_list (n : Int) : (strI n).data.toList = encI n := by unfold strI; simp
theorem strIs_list (l : List Int) : (strIs l).data.toList = encI l.length ++ l.flatMap encI := by unfold strIs encIs; simp
theorem strTs_list (l : List ByteArray) : (strTs l).data.toList = encI l.length ++ l.flatMap (fun s => encT s.data.toList) := by unfold strTs encTb; simp
theorem encB_prefix (x y : ByteArray) (s t : List UInt8) (h : encT x.data.toList ++ s = encT y.data.toList ++ t) : x = y ∧ s = t := by
  obtain ⟨h1, h2⟩ := encT_prefix h
  exact ⟨bytes_eq h1, h2⟩

theorem by_prefix (k n n2 : Int) (s s2 : ByteArray) (L L2 : List Int) (T T2 : List ByteArray) (k0 : 0 ≤ k) (t u : List UInt8)
    (h : (byK k n s L T).data.toList ++ t = (byK k n2 s2 L2 T2).data.toList ++ u) : smK k n n2 s s2 L L2 T T2 = true ∧ t = u := by
  rcases kind4 k k0 with hk | hk | hk | hk
  · rw [byK0 hk, byK0 hk, strI_list, strI_list] at h
    obtain ⟨h1, h2⟩ := encI_prefix h
    rw [smK0 hk]; exact ⟨decide_eq_true h1, h2⟩
  · rw [byK1 hk, byK1 hk, strT_list, strT_list] at h
    obtain ⟨h1, h2⟩ := encB_prefix _ _ _ _ h
    rw [smK1 hk]; exact ⟨decide_eq_true h1, h2⟩
  · rw [byK2 hk, byK2 hk, strIs_list, strIs_list] at h
    obtain ⟨h1, h2⟩ := list_prefix (fun x y s t h => encI_prefix h) h
    rw [smK2 hk]; exact ⟨decide_eq_true h1, h2⟩
  · rw [byK3 hk, byK3 hk, strTs_list, strTs_list] at h
    obtain ⟨h1, h2⟩ := list_prefix encB_prefix h
    rw [smK3 hk]; exact ⟨decide_eq_true h1, h2⟩
theorem by_same (k n n2 : Int) (s s2 : ByteArray) (L L2 : List Int) (T T2 : List ByteArray) (k0 : 0 ≤ k) (h : smK k n n2 s s2 L L2 T T2 = true) : byK k n s L T = byK k n2 s2 L2 T2 := by
  rcases kind4 k k0 with hk | hk | hk | hk
  · rw [smK0 hk] at h; rw [byK0 hk, byK0 hk, of_decide_eq_true h]
  · rw [smK1 hk] at h; rw [byK1 hk, byK1 hk, of_decide_eq_true h]
  · rw [smK2 hk] at h; rw [byK2 hk, byK2 hk, of_decide_eq_true h]
  · rw [smK3 hk] at h; rw [byK3 hk, byK3 hk, of_decide_eq_true h]

theorem extract_split (x : ByteArray) (m : Nat) : (x.extract 0 m).data.toList = x.data.toList.take m := by rw [Lib.extract_data]; simp
/-- What the law compares. -/
theorem prefix_facts (X Y : ByteArray) (E : Bool) (hs : E = true → X = Y) (hp : ∀ t u, X.data.toList ++ t = Y.data.toList ++ u → E = true) :
    ((X.extract 0 (min (X.size : Int) (Y.size : Int)).toNat).toList == (Y.extract 0 (min (X.size : Int) (Y.size : Int)).toNat).toList) = E ∧ (X.toList == Y.toList) = E := by
  rw [show (min (X.size : Int) (Y.size : Int)).toNat = min X.size Y.size by omega]
  cases E with
  | true =>
    have := hs rfl
    subst this
    exact ⟨beq_self_eq_true _, beq_self_eq_true _⟩
  | false =>
    refine ⟨str_ne fun e => ?_, str_ne fun e => ?_⟩
    · have e' := congrArg (fun z => z.data.toList) e
      simp only [extract_split] at e'
      rcases Nat.le_total X.size Y.size with h | h
      · have h1 : X.data.toList.take (min X.size Y.size) = X.data.toList := List.take_of_length_le (by rw [← size_list]; omega)
        rw [h1] at e'
        have := hp (Y.data.toList.drop (min X.size Y.size)) [] (by rw [e', List.take_append_drop, List.append_nil])
        cases this
      · have h1 : Y.data.toList.take (min X.size Y.size) = Y.data.toList := List.take_of_length_le (by rw [← size_list]; omega)
        rw [h1] at e'
        have := hp [] (X.data.toList.drop (min X.size Y.size)) (by rw [← e', List.take_append_drop, List.append_nil])
        cases this
    · subst e
      have := hp [] [] rfl
      cases this
theorem by_facts (k n n2 : Int) (s s2 : ByteArray) (L L2 : List Int) (T T2 : List ByteArray) (k0 : 0 ≤ k) :
    (((byK k n s L T).extract 0 (min ((byK k n s L T).size : Int) ((byK k n2 s2 L2 T2).size : Int)).toNat).toList == ((byK k n2 s2 L2 T2).extract 0 (min ((byK k n s L T).size : Int) ((byK k n2 s2 L2 T2).size : Int)).toNat).toList) = smK k n n2 s s2 L L2 T T2
    ∧ ((byK k n s L T).toList == (byK k n2 s2 L2 T2).toList) = smK k n n2 s s2 L L2 T T2 :=
  prefix_facts _ _ _ (by_same k n n2 s s2 L L2 T T2 k0) (fun t u h => (by_prefix k n n2 s s2 L L2 T T2 k0 t u h).1)
/-- How long an integer's serialization is. -/
theorem one_facts (n : Int) (h : inI n) : 1 ≤ (strI n).size ∧ (strI n).size ≤ 10 ∧ ((((strI n).size : Int) == 1) = decide (-64 ≤ n ∧ n ≤ 63)) := by
  have h1 := encI_pos n
  have h2 := encI_le n h
  have h3 := encI_one n
  refine ⟨h1, h2, ?_⟩
  rw [strI_size]
  by_cases g : -64 ≤ n ∧ n ≤ 63
  · rw [decide_eq_true g, beq_iff_eq]; have := h3.2 g; omega
  · rw [decide_eq_false g, beq_eq_false_iff_ne]; intro e; exact g (h3.1 (by omega))
end Go.Proofs.Ytadnkofbgifliaa.Wr
