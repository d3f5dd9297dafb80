/-
  Layer 3 (digest): the law DigestGrows, walked.
-/
import Derived.Test.YtflpemagbempaaaDgGr
namespace Go.Proofs.Ytflpemagbempaaa.Dg
open Go.RowKit
theorem own_none (V : World) : (V.alloc (.cells #[] 9)).ownsRow V.heap.size 9 1 (.slice (some ⟨V.heap.size, 0, none⟩) 0 0) 0 [] := World.ownsRow_lit V #[] 0 (Nat.le_refl _) (by decide) rfl
theorem own_none' (V : World) (o : Obj) : ((V.alloc o).alloc (.cells #[] 9)).ownsRow V.heap.size 9 1 (.slice (some ⟨V.heap.size + 1, 0, none⟩) 0 0) 0 [] := by
  have := World.ownsRow_lit (base := V.heap.size) (e := 9) (size := 1) (V.alloc o) #[] 0 (by simp) (by decide) rfl
  rw [World.size_alloc] at this
  exact this
theorem news_at {V : World} {bb off : Nat} {l : List ByteArray} (h : StrsAt V (some ⟨bb, off, none⟩) l) (W : World) (hB : Below V.heap.size V W) : ∀ j u, (l.map Value.string)[j]? = some u → W.cell? ((⟨bb, off, none⟩ : Addr).add j) = some u := fun j u hj => by
  rw [List.getElem?_map] at hj
  cases hl : l[j]? with
  | none => rw [hl] at hj; cases hj
  | some x =>
    rw [hl] at hj
    cases hj
    obtain ⟨b, o, e, hc⟩ := h j x hl
    cases e
    rw [Addr.add_mid]
    exact kc hB (block_lt_of_cell hc) hc
theorem news_one (l : List ByteArray) : ∀ u ∈ l.map Value.string, u.oneCell' = true := fun u hu => by
  obtain ⟨x, _, rfl⟩ := List.mem_map.1 hu
  rfl
theorem diffs_le (a b : List ByteArray) : ∀ n, diffs a b n ≤ n
  | 0 => Nat.le_refl _
  | n + 1 => by have := diffs_le a b n; rw [diffs]; split <;> omega
def GrRel (W0 : World) (A BB : List ByteArray) (H : Nat) (s14 s74 : Value) (wr : World) : Prop := ∃ k : Nat, k ≤ H ∧ s14 = .int .i64 (diffs A BB k : Nat) ∧ s74 = .int .i64 k ∧ Below W0.heap.size W0 wr
theorem one_kept {W w3 : World} {r : Option Nat} {b : Nat} {v : Value} (hc : W.cell? ⟨b, 0, none⟩ = some v) (hg : W.grownBy w3 r) (hn : r ≠ some b) : ∀ j u, [v][j]? = some u → w3.cell? ((⟨b, 0, none⟩ : Addr).add j) = some u := by
  intro j u hj
  match j, hj with
  | 0, hj =>
    simp at hj; subst hj
    rw [Addr.add_mid]
    exact gco hg hc hn
set_option maxRecDepth 100000 in
set_option maxHeartbeats 8000000 in
theorem lawGrows_any (l0 : List ByteArray) (a0 : Option Addr) (n0 c0 : Nat) (hn0 : l0.length = n0) (s0 : ByteArray) (hs0 : s0.size ≤ 9223372036854775807) (y : Nat) (hy : y < 256) (w : World) (hl0 : StrsAt w a0 l0) (hnc : n0 ≤ 9223372036854775807) (hz0 : ∀ x ∈ l0, x.size ≤ 9223372036854775807) :
    Calls Try.prog 9 #[.slice a0 n0 c0, .string s0, .int .u8 y] w fun e w' => e = .returned (.bool true) ∧ Below w.heap.size w w' := by
  have SA := Lib.hid sanity_any
  have LI := Lib.hid (fun W (h : Below w.heap.size w W) => list_any a0 l0 c0 n0 hn0 W (sat_below hl0 h) hnc hz0)
  have hlen : (cutL l0).length ≤ 20 := by rw [cutL_length]; omega
  have hcz := cutL_sizes l0
  clear hl0 hz0 hn0
  generalize cutL l0 = l at *
  go_enter Try.func9, Try.ntmps9
  go_wp2_with fail
  refine (SA.out _).mono ?_
  rintro e w1 ⟨rfl, k1⟩
  clear SA
  go_wp2_with fail
  refine (LI.out _ k1).mono ?_
  rintro e V ⟨v, rfl, hown, k2⟩
  clear LI
  obtain ⟨a, c, rfl, hl, _⟩ := row_bytes rfl hown
  clear hown
  replace k2 := bt k1 k2
  clear k1
  generalize hN : l.length = N at *
  rcases Nat.eq_zero_or_pos N with h0 | h0
  · subst h0
    go_wp2_with fail
    go_ret
    exact ⟨rfl, k2⟩
  · have hi : y % N < N := Nat.mod_lt _ h0
    have m1 : (y : Int) % (N : Int) = ((y % N : Nat) : Int) := by omega
    have m2 : (y : Int).tmod (N : Int) = ((y % N : Nat) : Int) := by rw [Int.tmod_eq_emod_of_nonneg (by omega)]; omega
    have hN0 : ¬ (N : Int) = 0 := by omega
    generalize y % N = i at *
    have hxi : l[0]? = some (l[0]'(by rw [hN]; exact h0)) := List.getElem?_eq_getElem _
    obtain ⟨bb, off, rfl, _⟩ := hl 0 _ hxi
    have HL := Lib.hid hl
    have HNW := Lib.hid (news_at hl)
    have hml : (l.map Value.string).length = N * 1 := by rw [List.length_map, hN, Nat.mul_one]
    have sm0 : (0 : Int) ≤ min (s0.size : Int) 30 := by omega
    have sm1 : min (s0.size : Int) 30 ≤ (s0.size : Int) := by omega
    have hsz : (s0.extract 0 (min (s0.size : Int) 30).toNat).size ≤ 30 := by rw [extract_size _ _ _ (by omega)]; omega
    generalize hss : s0.extract 0 (min (s0.size : Int) 30).toNat = s at *
    obtain ⟨i0, hi1, hz0, hz1, hz2⟩ := info_parts infoS
    have KI := Lib.hid (And.intro hi1 (And.intro hz0 (And.intro hz1 hz2)))
    clear hi1 hz0 hz1 hz2 hl hxi
    go_wp2_with fail
    go_region_law (first
      | (refine step_append_lies _ (by rfl) _ _ 28 (by rfl) V.heap.size 9 i0 (.string ⟨#[]⟩) 1 16 Try.underlying28 KI.out.1 KI.out.2.1 KI.out.2.2.1 KI.out.2.2.2 rfl (by decide) _ 0 [] (by rfl) (by first | exact own_none V | exact own_none' V _ | exact (own_none V).alloc _) ⟨bb, off, none⟩ N c (l.map Value.string) (by rfl) hml (HNW.out _ (by first | exact bd1 (ba (Below.refl _ _) _) | exact bd1 (ba (ba (Below.refl _ _) _) _))) (news_one l) h0 (by unfold maxLen; omega) (by omega) (by simp; try omega) _ (by rfl) ?_; intro g cap w3 hown3 hgrow3 hat3 hlt3; simp only [Nat.zero_add, List.nil_append] at hown3)
      | (refine step_append_lies _ (by rfl) _ _ 28 (by rfl) V.heap.size 9 i0 (.string ⟨#[]⟩) 1 16 Try.underlying28 KI.out.1 KI.out.2.1 KI.out.2.2.1 KI.out.2.2.2 rfl (by decide) _ N (l.map Value.string) (by rfl) (hown3.alloc _) ⟨w3.heap.size, 0, none⟩ 1 1 [.string s] (by rfl) rfl (one_new w3 _ _) (by intro u hu; simp at hu; subst hu; rfl) (by omega) (by unfold maxLen; omega) (by omega) (by have := hgrow3.size; simp at this; simp; omega) _ (by rfl) ?_; intro g' cap' w4 hown4 hgrow4 hat4 hlt4)
      | (refine step_append_lies _ (by rfl) _ _ 28 (by rfl) V.heap.size 9 i0 (.string ⟨#[]⟩) 1 16 Try.underlying28 KI.out.1 KI.out.2.1 KI.out.2.2.1 KI.out.2.2.2 rfl (by decide) _ N (l.map Value.string) (by rfl) (hown3) ⟨V.heap.size, 0, none⟩ 1 1 [.string s] (by rfl) rfl (one_kept (by go_cell) hgrow3 (fun e => by have e2 : (some (V.heap.size + 1) : Option Nat) = some V.heap.size := e; simp at e2)) (by intro u hu; simp at hu; subst hu; rfl) (by omega) (by unfold maxLen; omega) (by omega) (by have := hgrow3.size; simp at this; simp; omega) _ (by rfl) ?_; intro g' cap' w4 hown4 hgrow4 hat4 hlt4)
      | (refine step_append_lies _ (by rfl) _ _ 28 (by rfl) V.heap.size 9 i0 (.string ⟨#[]⟩) 1 16 Try.underlying28 KI.out.1 KI.out.2.1 KI.out.2.2.1 KI.out.2.2.2 rfl (by decide) _ N (l.map Value.string) (by rfl) (hown3) ⟨V.heap.size + 1, 0, none⟩ 1 1 [.string s] (by rfl) rfl (one_kept (by go_cell) hgrow3 (fun e => by have e2 : (some V.heap.size : Option Nat) = some (V.heap.size + 1) := e; simp at e2)) (by intro u hu; simp at hu; subst hu; rfl) (by omega) (by unfold maxLen; omega) (by omega) (by have := hgrow3.size; simp at this; simp; omega) _ (by rfl) ?_; intro g' cap' w4 hown4 hgrow4 hat4 hlt4))
    all_goals
      have hB3 : Below V.heap.size V w3 := by
        first
          | exact (show Below V.heap.size V (V.alloc (.cells #[] 9)).drew from bd1 (ba (Below.refl _ _) _)).grown hgrow3 (by simp) (fun g hg => ((own_none V).lt g hg).1)
          | exact (show Below V.heap.size V ((V.alloc (.cells #[.string s] 9)).alloc (.cells #[] 9)).drew from bd1 (ba (ba (Below.refl _ _) _) _)).grown hgrow3 (by simp; omega) (fun g hg => ((own_none' V (.cells #[.string s] 9)).lt g hg).1)
          | exact (show Below V.heap.size V ((V.alloc (.cells #[] 9)).alloc (.cells #[.string s] 9)).drew from bd1 (ba (ba (Below.refl _ _) _) _)).grown hgrow3 (by simp; omega) (fun g hg => (((own_none V).alloc (.cells #[.string s] 9)).lt g hg).1)
      have hB4 : Below V.heap.size V w4 := by
        first
          | exact (ba hB3 (.cells #[.string s] 9)).grown hgrow4 (ba hB3 (.cells #[.string s] 9)).size (fun g hg => (hown3.lt g hg).1)
          | exact hB3.grown hgrow4 hB3.size (fun g hg => (hown3.lt g hg).1)
      have hrow : w4.ownsRow V.heap.size 9 1 (.slice (some ⟨g', 0, none⟩) (N + 1) cap') (N + 1) ((l ++ [s]).map Value.string) := by rw [List.map_append]; exact hown4
      have hN1 : (l ++ [s]).length = N + 1 := by rw [List.length_append, hN]; rfl
      clear hown3 hown4 hgrow3 hgrow4 hat3 hat4 hlt3 hlt4
      obtain ⟨ma, mc, hme, hst2, _⟩ := row_bytes hN1 hrow
      cases hme
      clear hrow
      have hzl : ∀ x ∈ l, x.size ≤ 100000 := fun x hx => Nat.le_trans (hcz x hx) (by omega)
      have hzm : ∀ x ∈ l ++ [s], x.size ≤ 100000 := fun x hx => by
        rcases List.mem_append.1 hx with h | h
        · exact hzl x h
        · rw [List.mem_singleton] at h; subst h; omega
      have PA := Lib.hid (Prove_any l (some ⟨bb, off, none⟩) N c i hN (by omega) hzl hi w4 (sat_below HL.out hB4))
      have PB := Lib.hid (fun W h => Prove_any (l ++ [s]) (some ⟨g', 0, none⟩) (N + 1) cap' i hN1 (by omega) hzm (by omega) W (sat_below hst2 h))
      have kT := bt k2 hB4
      clear hzl hzm hst2 HL HNW
      have hA := pfl_length l (ht N) i
      have hBl := pfl_length (l ++ [s]) (ht (N + 1)) i
      have hD : if N = 2 ^ ht N then diffs (pfl l (ht N) i) (pfl (l ++ [s]) (ht (N + 1)) i) (ht N) = 0 else diffs (pfl l (ht N) i) (pfl (l ++ [s]) (ht (N + 1)) i) (ht N) ≤ 1 := by
        have hm := ht_more N (by omega) h0
        split
        · rename_i hf
          rw [if_pos hf] at hm
          subst hN
          exact grows_full l s i _ hi hf (by omega)
        · rename_i hf
          rw [if_neg hf] at hm
          exact grows_same l s i _ _ (by omega)
      have hm := ht_more N (by omega) h0
      have hfull := full_is N (by omega) h0
      have hht : ht N ≤ 20 := ht_bound (by omega)
      generalize pfl l (ht N) i = A at *
      generalize pfl (l ++ [s]) (ht (N + 1)) i = BB at *
      generalize ht N = H at *
      generalize ht (N + 1) = H' at *
      have hHH : H ≤ H' ∧ H' ≤ H + 1 := by split at hm <;> omega
      go_wp2_with fail
      refine PA.out.mono ?_
      rintro e w5 ⟨v1, rfl, hown5, k5⟩
      obtain ⟨pa, pc, rfl, hpa, _⟩ := row_bytes hA hown5
      clear hown5 PA
      go_wp2_with fail
      refine (PB.out _ k5).mono ?_
      rintro e w6 ⟨v2, rfl, hown6, k6⟩
      obtain ⟨qa, qc, rfl, hqa, _⟩ := row_bytes hBl hown6
      clear hown6 PB
      have HPA := Lib.hid (sat_below hpa k6)
      have HQA := Lib.hid hqa
      replace kT := bt (bt kT k5) k6
      clear hpa hqa k5 k6
      have b1 : decide (H' < H) = false := decide_eq_false (by omega)
      have b2 : decide ((H' : Int) < (H : Int)) = false := decide_eq_false (by omega)
      have b3 : decide ((H : Int) + 1 < (H' : Int)) = false := decide_eq_false (by omega)
      have b4 : decide (H + 1 < H') = false := decide_eq_false (by omega)
      go_wp2_with fail
      go_loopw [14, 74] (fun s14 s74 wr => GrRel w6 A BB H s14 s74 wr) (fun _ s74 _ => H - (intOf s74).toNat)
      case atStart => exact ⟨0, by omega, rfl, rfl, Below.refl _ _⟩
      case round =>
        rename World => V5
        obtain ⟨k, hk, rfl, rfl, hB⟩ := hrel
        rcases Nat.lt_or_ge k H with hlt | hge
        · have ha : A[k]? = some (A[k]'(by omega)) := List.getElem?_eq_getElem _
          have hb : BB[k]? = some (BB[k]'(by omega)) := List.getElem?_eq_getElem _
          obtain ⟨b1', o1', rfl, hc1⟩ := HPA.out k _ ha
          obtain ⟨b2', o2', rfl, hc2⟩ := HQA.out k _ hb
          have ck1 := kc hB (block_lt_of_cell hc1) hc1
          have ck2 := kc hB (block_lt_of_cell hc2) hc2
          have hdf : diffs A BB (k + 1) = diffs A BB k + (if (A[k]'(by omega)) = (BB[k]'(by omega)) then 0 else 1) := by rw [diffs, ha, hb]; simp only [Option.some.injEq]
          clear hc1 hc2 ha hb
          generalize A[k]'(by omega) = xa at *
          generalize BB[k]'(by omega) = xb at *
          have hdk : diffs A BB k ≤ k := diffs_le A BB k
          by_cases hx : xa = xb
          · rw [if_pos hx] at hdf
            have hE := str_eq hx
            go_wp2_with fail
            go_quiet (fail)
            go_wp2_with fail
            go_roundw
            case rel => exact ⟨k + 1, by omega, by rw [hdf, Nat.add_zero], by congr 1, bd hB _⟩
            case measure => simp [intOf]; omega
          · rw [if_neg hx] at hdf
            have hE := str_ne hx
            go_wp2_with fail
            go_quiet (fail)
            go_wp2_with fail
            go_roundw
            case rel => exact ⟨k + 1, by omega, by rw [hdf]; congr 1, by congr 1, bd hB _⟩
            case measure => simp [intOf]; omega
        · have hkH : k = H := by omega
          subst hkH
          have kE := bt kT hB
          by_cases hf : N = 2 ^ k
          · rw [if_pos hf] at hm hD
            rw [decide_eq_true hf] at hfull
            have c1 : decide (k < H') = true := decide_eq_true (by omega)
            have c2 : decide ((k : Int) < (H' : Int)) = true := decide_eq_true (by omega)
            rw [hD]
            clear hm hD hf
            go_wp2_with fail
            go_ret
            exact ⟨rfl, kE⟩
          · rw [if_neg hf] at hm hD
            rw [decide_eq_false hf] at hfull
            have c1 : decide (k < H') = false := decide_eq_false (by omega)
            have c2 : decide ((k : Int) < (H' : Int)) = false := decide_eq_false (by omega)
            have hd : diffs A BB k = 0 ∨ diffs A BB k = 1 := by omega
            rcases hd with hd | hd
            · rw [hd]
              clear hm hD hf hd
              go_wp2_with fail
              go_ret
              exact ⟨rfl, kE⟩
            · rw [hd]
              clear hm hD hf hd
              go_wp2_with fail
              go_ret
              exact ⟨rfl, kE⟩
end Go.Proofs.Ytflpemagbempaaa.Dg
