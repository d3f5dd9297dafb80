/-
  Layer 2 (wire): the law WireCanonical, walked.
-/
import Derived.Test.YtadnkofbgifliaaWrN
namespace Go.Proofs.Ytadnkofbgifliaa.Wr
open Go.RowKit

theorem str_eq {x y : ByteArray} (h : x = y) : (x.toList == y.toList) = true := by subst h; exact beq_self_eq_true _
/-- What was read is what the serialization of the result says. -/
theorem canon_facts (S A : ByteArray) (t : List UInt8) (h : S.data.toList = A.data.toList ++ t) :
    A.size ≤ S.size ∧ t.length ≤ S.size ∧ ((A.size : Int) != (S.size : Int) - (t.length : Int)) = false ∧ ((S.extract 0 A.size).toList == A.toList) = true := by
  have hz : S.size = A.size + t.length := by rw [size_list, size_list, h, List.length_append]
  refine ⟨by omega, by omega, ?_, ?_⟩
  · have : (A.size : Int) = (S.size : Int) - (t.length : Int) := by omega
    simp [this]
  · apply str_eq
    apply ByteArray.ext
    apply Array.toList_inj.1
    rw [Lib.extract_data, h]
    rw [size_list A]; simp
theorem tight (A : List UInt8) : (⟨A.toArray⟩ : ByteArray).data.toList = A := by simp
theorem left_mk (b : Nat) (t : List UInt8) (bad : Bool) (w : World) (h : RS w b ⟨t.toArray⟩ bad) :
    Calls Try.prog 32 #[.pointer (some ⟨b, 0, none⟩)] w fun e w' => e = .returned (.int .i64 t.length) ∧ w = w' := by
  have := left_any b ⟨t.toArray⟩ bad w h
  rw [mk_size] at this
  exact this
theorem left_empty (b : Nat) (bad : Bool) (w : World) (h : RS w b empty bad) :
    Calls Try.prog 32 #[.pointer (some ⟨b, 0, none⟩)] w fun e w' => e = .returned (.int .i64 0) ∧ w = w' := left_any b empty bad w h
theorem mkS_list (l : List (List UInt8)) : (mkS l).flatMap (fun s => encT s.data.toList) = l.flatMap encT := by
  unfold mkS; rw [List.flatMap_map]
theorem strTs_mk (l : List (List UInt8)) : (strTs (mkS l)).data.toList = encTs l := by
  show encTb (mkS l) = _
  unfold encTb encTs
  rw [mkS_list]; simp [mkS]

set_option maxRecDepth 100000 in
set_option maxHeartbeats 8000000 in
theorem canonical_any (s : ByteArray) (hs : s.size ≤ 9223372036854775807) (w : World) :
    Calls Try.prog 6 #[.string s] w fun e w' => e = .returned (.bool true) ∧ Below w.heap.size w w' := by
  have SA := Lib.hid sanity_any
  have NW := Lib.hid new_any
  go_enter Try.func6, Try.ntmps6
  go_wp2_with fail
  refine (SA.out _).mono ?_
  rintro e w1 ⟨rfl, hB1⟩
  have hm0 : (0 : Int) ≤ min (s.size : Int) 200 := by omega
  have hm1 : min (s.size : Int) 200 ≤ (s.size : Int) := by omega
  go_wp2_with fail
  have hS1 : (s.extract 0 (min (s.size : Int) 200).toNat).size ≤ 200 := by
    rw [size_list, Lib.extract_data, List.length_take]; omega
  generalize (s.extract 0 (min (s.size : Int) 200).toNat) = S at *
  go_loopw [4] (fun s4 wr => ∃ k : Nat, k ≤ 4 ∧ s4 = .int .i64 k ∧ Below w.heap.size w wr) (fun s4 _ => 4 - (intOf s4).toNat)
  case atStart => exact ⟨0, by omega, rfl, hB1⟩
  case round =>
    obtain ⟨k, hk, rfl, hB⟩ := hrel
    clear hB1
    rcases Nat.lt_or_ge k 4 with hlt | hge
    · have hsz := hB.size
      rcases four k hlt with rfl | rfl | rfl | rfl
      · go_wp2_with fail
        refine (NW.out _ _).mono ?_
        rintro e w2 ⟨rfl, hR, hb, hz⟩
        have hBB := bt hB hb
        generalize wr.heap.size = b1 at *
        have R := Lib.hid (rint_any b1 S false w2 hR (by omega))
        clear hR hb hB
        go_wp2_with fail
        refine R.out.mono ?_
        rintro e w3 H
        clear R
        rcases H with ⟨n, t, hn, he, rfl, hR3, hg3⟩ | ⟨hN, rfl, hR3, hg3⟩
        · have hC : S.data.toList = (strI n).data.toList ++ t := he
          have W := Lib.hid (int_any n hn w3)
          go_wp2_with fail
          refine W.out.mono ?_
          clear W
          rintro e w4 ⟨rfl, hb4⟩
          have hR4 := rs_below hR3 hb4
          have hB4 : Below w.heap.size w w4 := bt (bg hBB hg3 hsz) hb4
          have BA := Lib.hid (bad_any _ _ _ _ hR4)
          have LA := Lib.hid (left_mk _ _ _ _ hR4)
          obtain ⟨f1, f2, f3, f4⟩ := canon_facts S _ t hC
          clear hR3 hg3 hBB hb4 hR4 hC
          generalize strI n = A at *
          have hA : A.size ≤ 200 := by omega
          have ht : t.length ≤ 200 := by omega
          go_wp2_with fail
          refine BA.out.mono ?_
          rintro e w5 ⟨rfl, rfl⟩
          go_wp2_with fail
          refine LA.out.mono ?_
          rintro e w5 ⟨rfl, rfl⟩
          go_wp2_with fail
          refine LA.out.mono ?_
          rintro e w5 ⟨rfl, rfl⟩
          go_wp2_with fail
          refine BA.out.mono ?_
          rintro e w5 ⟨rfl, rfl⟩
          go_wp2_with fail
          go_roundw
          case rel => exact ⟨1, by omega, rfl, hB4⟩
          case measure => simp [intOf]
        · skip
          have W := Lib.hid (int_any 0 (by omega) w3)
          go_wp2_with fail
          refine W.out.mono ?_
          clear W
          rintro e w4 ⟨rfl, hb4⟩
          have hR4 := rs_below hR3 hb4
          have hB4 : Below w.heap.size w w4 := bt (bg hBB hg3 hsz) hb4
          have BA := Lib.hid (bad_any _ _ _ _ hR4)
          have LA := Lib.hid (left_empty _ _ _ hR4)
          clear hR3 hg3 hBB hb4 hR4
          go_wp2_with fail
          refine BA.out.mono ?_
          rintro e w5 ⟨rfl, rfl⟩
          go_wp2_with fail
          refine BA.out.mono ?_
          rintro e w5 ⟨rfl, rfl⟩
          go_wp2_with fail
          refine LA.out.mono ?_
          rintro e w5 ⟨rfl, rfl⟩
          go_wp2_with fail
          go_roundw
          case rel => exact ⟨1, by omega, rfl, hB4⟩
          case measure => simp [intOf]
      · go_wp2_with fail
        refine (NW.out _ _).mono ?_
        rintro e w2 ⟨rfl, hR, hb, hz⟩
        have hBB := bt hB hb
        generalize wr.heap.size = b1 at *
        have R := Lib.hid (rtext_any b1 S false w2 hR (by omega) (by simp))
        clear hR hb hB
        go_wp2_with fail
        refine R.out.mono ?_
        rintro e w3 H
        clear R
        rcases H with ⟨x, t, he, rfl, hR3, hg3⟩ | ⟨hN, rfl, hR3, hg3⟩
        · have hC : S.data.toList = (strT ⟨x.toArray⟩).data.toList ++ t := by rw [strT_list]; exact he
          have hxl : x.length ≤ 200 := by
            have := congrArg List.length he
            rw [← size_list, List.length_append] at this
            unfold encT at this
            rw [List.length_append] at this
            omega
          have W := Lib.hid (text_any ⟨x.toArray⟩ (by rw [mk_size]; omega) w3)
          go_wp2_with fail
          refine W.out.mono ?_
          clear W
          rintro e w4 ⟨rfl, hb4⟩
          have hR4 := rs_below hR3 hb4
          have hB4 : Below w.heap.size w w4 := bt (bg hBB hg3 hsz) hb4
          have BA := Lib.hid (bad_any _ _ _ _ hR4)
          have LA := Lib.hid (left_mk _ _ _ _ hR4)
          obtain ⟨f1, f2, f3, f4⟩ := canon_facts S _ t hC
          clear hR3 hg3 hBB hb4 hR4 hC
          generalize strT ⟨x.toArray⟩ = A at *
          have hA : A.size ≤ 200 := by omega
          have ht : t.length ≤ 200 := by omega
          go_wp2_with fail
          refine BA.out.mono ?_
          rintro e w5 ⟨rfl, rfl⟩
          go_wp2_with fail
          refine LA.out.mono ?_
          rintro e w5 ⟨rfl, rfl⟩
          go_wp2_with fail
          refine LA.out.mono ?_
          rintro e w5 ⟨rfl, rfl⟩
          go_wp2_with fail
          refine BA.out.mono ?_
          rintro e w5 ⟨rfl, rfl⟩
          go_wp2_with fail
          go_roundw
          case rel => exact ⟨2, by omega, rfl, hB4⟩
          case measure => simp [intOf]
        · skip
          have W := Lib.hid (text_any ⟨#[]⟩ (by decide) w3)
          go_wp2_with fail
          refine W.out.mono ?_
          clear W
          rintro e w4 ⟨rfl, hb4⟩
          have hR4 := rs_below hR3 hb4
          have hB4 : Below w.heap.size w w4 := bt (bg hBB hg3 hsz) hb4
          have BA := Lib.hid (bad_any _ _ _ _ hR4)
          have LA := Lib.hid (left_empty _ _ _ hR4)
          clear hR3 hg3 hBB hb4 hR4
          go_wp2_with fail
          refine BA.out.mono ?_
          rintro e w5 ⟨rfl, rfl⟩
          go_wp2_with fail
          refine BA.out.mono ?_
          rintro e w5 ⟨rfl, rfl⟩
          go_wp2_with fail
          refine LA.out.mono ?_
          rintro e w5 ⟨rfl, rfl⟩
          go_wp2_with fail
          go_roundw
          case rel => exact ⟨2, by omega, rfl, hB4⟩
          case measure => simp [intOf]
      · go_wp2_with fail
        refine (NW.out _ _).mono ?_
        rintro e w2 ⟨rfl, hR, hb, hz⟩
        have hBB := bt hB hb
        generalize wr.heap.size = b1 at *
        have R := Lib.hid (rints_any b1 S false w2 hR (by omega) (by simp))
        clear hR hb hB
        go_wp2_with fail
        refine R.out.mono ?_
        rintro e w3 H
        clear R
        rcases H with ⟨l, t, v, hp, he, rfl, hrow, hR3, hg3⟩ | ⟨hN, rfl, hR3, hg3⟩
        · have hC : S.data.toList = (strIs l).data.toList ++ t := he
          have hll : l.length ≤ 200 ∧ (l.flatMap encI).length ≤ 200 := by
            have h1 := congrArg List.length he
            rw [← size_list, List.length_append, List.length_append] at h1
            have := flat_len encI (fun x => encI_pos x) l
            omega
          obtain ⟨a, c, rfl, hat, _⟩ := row_ints hrow
          clear hrow
          have W := Lib.hid (ints_any a l c l.length rfl w3 hat hp (by omega))
          go_wp2_with fail
          refine W.out.mono ?_
          clear W
          rintro e w4 ⟨rfl, hb4⟩
          have hR4 := rs_below hR3 hb4
          have hB4 : Below w.heap.size w w4 := bt (bg hBB hg3 hsz) hb4
          have BA := Lib.hid (bad_any _ _ _ _ hR4)
          have LA := Lib.hid (left_mk _ _ _ _ hR4)
          obtain ⟨f1, f2, f3, f4⟩ := canon_facts S _ t hC
          clear hR3 hg3 hBB hb4 hR4 hC
          generalize strIs l = A at *
          have hA : A.size ≤ 200 := by omega
          have ht : t.length ≤ 200 := by omega
          go_wp2_with fail
          refine BA.out.mono ?_
          rintro e w5 ⟨rfl, rfl⟩
          go_wp2_with fail
          refine LA.out.mono ?_
          rintro e w5 ⟨rfl, rfl⟩
          go_wp2_with fail
          refine LA.out.mono ?_
          rintro e w5 ⟨rfl, rfl⟩
          go_wp2_with fail
          refine BA.out.mono ?_
          rintro e w5 ⟨rfl, rfl⟩
          go_wp2_with fail
          go_roundw
          case rel => exact ⟨3, by omega, rfl, hB4⟩
          case measure => simp [intOf]
        · skip
          have W := Lib.hid (ints_any none [] 0 0 rfl w3 (fun i x h => by simp at h) (by simp) (by omega))
          go_wp2_with fail
          refine W.out.mono ?_
          clear W
          rintro e w4 ⟨rfl, hb4⟩
          have hR4 := rs_below hR3 hb4
          have hB4 : Below w.heap.size w w4 := bt (bg hBB hg3 hsz) hb4
          have BA := Lib.hid (bad_any _ _ _ _ hR4)
          have LA := Lib.hid (left_empty _ _ _ hR4)
          clear hR3 hg3 hBB hb4 hR4
          go_wp2_with fail
          refine BA.out.mono ?_
          rintro e w5 ⟨rfl, rfl⟩
          go_wp2_with fail
          refine BA.out.mono ?_
          rintro e w5 ⟨rfl, rfl⟩
          go_wp2_with fail
          refine LA.out.mono ?_
          rintro e w5 ⟨rfl, rfl⟩
          go_wp2_with fail
          go_roundw
          case rel => exact ⟨3, by omega, rfl, hB4⟩
          case measure => simp [intOf]
      · go_wp2_with fail
        refine (NW.out _ _).mono ?_
        rintro e w2 ⟨rfl, hR, hb, hz⟩
        have hBB := bt hB hb
        generalize wr.heap.size = b1 at *
        have R := Lib.hid (rtexts_any b1 S false w2 hR (by omega) (by simp))
        clear hR hb hB
        go_wp2_with fail
        refine R.out.mono ?_
        rintro e w3 H
        clear R
        rcases H with ⟨l, t, v, hp, he, rfl, hrow, hR3, hg3⟩ | ⟨hN, rfl, hR3, hg3⟩
        · have hC : S.data.toList = (strTs (mkS l)).data.toList ++ t := by rw [strTs_mk]; exact he
          have hll : l.length ≤ 200 ∧ (l.flatMap encT).length ≤ 200 := by
            have h1 := congrArg List.length he
            rw [← size_list, List.length_append, List.length_append] at h1
            have := flat_len encT (fun x => encT_pos x) l
            omega
          obtain ⟨a, c, rfl, hat, _⟩ := row_strs hrow
          clear hrow
          have W := Lib.hid (texts_any a (mkS l) c l.length (by simp [mkS]) w3 hat (by omega) (by rw [mkS_list]; omega))
          go_wp2_with fail
          refine W.out.mono ?_
          clear W
          rintro e w4 ⟨rfl, hb4⟩
          have hR4 := rs_below hR3 hb4
          have hB4 : Below w.heap.size w w4 := bt (bg hBB hg3 hsz) hb4
          have BA := Lib.hid (bad_any _ _ _ _ hR4)
          have LA := Lib.hid (left_mk _ _ _ _ hR4)
          obtain ⟨f1, f2, f3, f4⟩ := canon_facts S _ t hC
          clear hR3 hg3 hBB hb4 hR4 hC
          generalize strTs (mkS l) = A at *
          have hA : A.size ≤ 200 := by omega
          have ht : t.length ≤ 200 := by omega
          go_wp2_with fail
          refine BA.out.mono ?_
          rintro e w5 ⟨rfl, rfl⟩
          go_wp2_with fail
          refine LA.out.mono ?_
          rintro e w5 ⟨rfl, rfl⟩
          go_wp2_with fail
          refine LA.out.mono ?_
          rintro e w5 ⟨rfl, rfl⟩
          go_wp2_with fail
          refine BA.out.mono ?_
          rintro e w5 ⟨rfl, rfl⟩
          go_wp2_with fail
          go_roundw
          case rel => exact ⟨4, by omega, rfl, hB4⟩
          case measure => simp [intOf]
        · skip
          have W := Lib.hid (texts_any none [] 0 0 rfl w3 (fun i x h => by simp at h) (by omega) (by simp))
          go_wp2_with fail
          refine W.out.mono ?_
          clear W
          rintro e w4 ⟨rfl, hb4⟩
          have hR4 := rs_below hR3 hb4
          have hB4 : Below w.heap.size w w4 := bt (bg hBB hg3 hsz) hb4
          have BA := Lib.hid (bad_any _ _ _ _ hR4)
          have LA := Lib.hid (left_empty _ _ _ hR4)
          clear hR3 hg3 hBB hb4 hR4
          go_wp2_with fail
          refine BA.out.mono ?_
          rintro e w5 ⟨rfl, rfl⟩
          go_wp2_with fail
          refine BA.out.mono ?_
          rintro e w5 ⟨rfl, rfl⟩
          go_wp2_with fail
          refine LA.out.mono ?_
          rintro e w5 ⟨rfl, rfl⟩
          go_wp2_with fail
          go_roundw
          case rel => exact ⟨4, by omega, rfl, hB4⟩
          case measure => simp [intOf]
    · go_wp2_with fail
      go_ret
      exact ⟨rfl, hB⟩
end Go.Proofs.Ytadnkofbgifliaa.Wr
