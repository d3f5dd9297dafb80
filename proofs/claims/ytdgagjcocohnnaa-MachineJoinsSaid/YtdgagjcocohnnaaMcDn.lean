/-
  Layer 9 (machine): made programs run well.
-/
import Derived.Test.YtdgagjcocohnnaaMcDm
namespace Go.Proofs.Ytdgagjcocohnnaa.Mc
open Go.RowKit
open Go.Proofs.Ytdgagjcocohnnaa.Ot (Pt pre shP p0)
theorem nx_shape (k : Nat) (n sz : Int) (l' t : List Int) (st : Int) (f : Nat → Pt) (h : t.length = (kd k).ta) : ∃ v f', nxK sz k n ⟨l' ++ t, st, f⟩ = ⟨if (kd k).pu = 0 then l' else l' ++ [v], st + 1, f'⟩ := by
  have e : lowL k (l' ++ t) = l' := by
    unfold lowL
    rw [List.length_append, h, Nat.add_sub_cancel]
    exact List.take_left
  refine ⟨lim (resR sz k n ⟨l' ++ t, st, f⟩), (nxK sz k n ⟨l' ++ t, st, f⟩).f, ?_⟩
  unfold nxK
  simp only [e]
theorem op_k (k : Nat) (n : Int) {C sz enc st : Int} {l' t : List Int} {f : Nat → Pt} {rest : List Opn} (hk : 1 ≤ k ∧ k < 14) (hst : st < 2000) (hn : n = 0 ∨ (kd k).uN = true) (ht : t.length = (kd k).ta) (h8 : l'.length + (kd k).pu ≤ 8) (ho : (kd k).oP = true → 0 ≤ n ∧ n < C) :
    ∃ v f', runL C sz (⟨(k : Int), n, 0⟩ :: rest) enc ⟨l' ++ t, st, f⟩ = runL C sz rest enc ⟨if (kd k).pu = 0 then l' else l' ++ [v], st + 1, f'⟩ := by
  obtain ⟨v, f', e⟩ := nx_shape k n sz l' t st f ht
  refine ⟨v, f', ?_⟩
  rw [← e]
  exact one k n hk hst hn (by rw [List.length_append]; omega) (by rw [List.length_append]; omega) ho
/-- A number is put onto the stack. -/
theorem op_put {c n C sz enc st : Int} {l : List Int} {f : Nat → Pt} {rest : List Opn} (hc : c = 1 ∨ (c = 9 ∧ n = 0) ∨ ((c = 10 ∨ c = 11) ∧ 0 ≤ n ∧ n < C)) (hst : st < 2000) (hl : l.length < 8) :
    ∃ v f', runL C sz (⟨c, n, 0⟩ :: rest) enc ⟨l, st, f⟩ = runL C sz rest enc ⟨l ++ [v], st + 1, f'⟩ := by
  rcases hc with rfl | ⟨rfl, rfl⟩ | ⟨rfl | rfl, h1, h2⟩
  · have := op_k (sz := sz) (C := C) (enc := enc) (f := f) (rest := rest) 1 n (l' := l) (t := []) (by decide) hst (.inr rfl) rfl (show l.length + 1 ≤ 8 by omega) (fun h => by cases h)
    rw [List.append_nil] at this
    exact this
  · have := op_k (sz := sz) (C := C) (enc := enc) (f := f) (rest := rest) 9 0 (l' := l) (t := []) (by decide) hst (.inl rfl) rfl (show l.length + 1 ≤ 8 by omega) (fun h => by cases h)
    rw [List.append_nil] at this
    exact this
  · have := op_k (sz := sz) (C := C) (enc := enc) (f := f) (rest := rest) 10 n (l' := l) (t := []) (by decide) hst (.inr rfl) rfl (show l.length + 1 ≤ 8 by omega) (fun _ => ⟨h1, h2⟩)
    rw [List.append_nil] at this
    exact this
  · have := op_k (sz := sz) (C := C) (enc := enc) (f := f) (rest := rest) 11 n (l' := l) (t := []) (by decide) hst (.inr rfl) rfl (show l.length + 1 ≤ 8 by omega) (fun _ => ⟨h1, h2⟩)
    rw [List.append_nil] at this
    exact this
/-- .. is changed. -/
theorem op_un {c C sz enc st x : Int} {l : List Int} {f : Nat → Pt} {rest : List Opn} (hc : 6 ≤ c ∧ c ≤ 8) (hst : st < 2000) (hl : l.length < 8) :
    ∃ v f', runL C sz (⟨c, 0, 0⟩ :: rest) enc ⟨l ++ [x], st, f⟩ = runL C sz rest enc ⟨l ++ [v], st + 1, f'⟩ := by
  obtain rfl | rfl | rfl : c = 6 ∨ c = 7 ∨ c = 8 := by omega
  · exact op_k 6 0 (by decide) hst (.inl rfl) rfl (show l.length + 1 ≤ 8 by omega) (fun h => by cases h)
  · exact op_k 7 0 (by decide) hst (.inl rfl) rfl (show l.length + 1 ≤ 8 by omega) (fun h => by cases h)
  · exact op_k 8 0 (by decide) hst (.inl rfl) rfl (show l.length + 1 ≤ 8 by omega) (fun h => by cases h)
/-- Two numbers become one. -/
theorem op_bin {c C sz enc st x y : Int} {l : List Int} {f : Nat → Pt} {rest : List Opn} (hc : 2 ≤ c ∧ c ≤ 5) (hst : st < 2000) (hl : l.length < 8) :
    ∃ v f', runL C sz (⟨c, 0, 0⟩ :: rest) enc ⟨l ++ [x] ++ [y], st, f⟩ = runL C sz rest enc ⟨l ++ [v], st + 1, f'⟩ := by
  rw [List.append_assoc]
  obtain rfl | rfl | rfl | rfl : c = 2 ∨ c = 3 ∨ c = 4 ∨ c = 5 := by omega
  · exact op_k 2 0 (by decide) hst (.inl rfl) rfl (show l.length + 1 ≤ 8 by omega) (fun h => by cases h)
  · exact op_k 3 0 (by decide) hst (.inl rfl) rfl (show l.length + 1 ≤ 8 by omega) (fun h => by cases h)
  · exact op_k 4 0 (by decide) hst (.inl rfl) rfl (show l.length + 1 ≤ 8 by omega) (fun h => by cases h)
  · exact op_k 5 0 (by decide) hst (.inl rfl) rfl (show l.length + 1 ≤ 8 by omega) (fun h => by cases h)
/-- A number becomes a coordinate. -/
theorem op_set {c n C sz enc st x : Int} {l : List Int} {f : Nat → Pt} {rest : List Opn} (hc : c = 12 ∨ c = 13) (hn : 0 ≤ n ∧ n < C) (hst : st < 2000) (hl : l.length < 8) :
    ∃ f', runL C sz (⟨c, n, 0⟩ :: rest) enc ⟨l ++ [x], st, f⟩ = runL C sz rest enc ⟨l, st + 1, f'⟩ := by
  rcases hc with rfl | rfl
  · obtain ⟨v, f', e⟩ := op_k (sz := sz) (C := C) (enc := enc) (st := st) (f := f) (rest := rest) 12 n (l' := l) (t := [x]) (by decide) hst (.inr rfl) rfl (show l.length + 0 ≤ 8 by omega) (fun _ => hn)
    exact ⟨f', e⟩
  · obtain ⟨v, f', e⟩ := op_k (sz := sz) (C := C) (enc := enc) (st := st) (f := f) (rest := rest) 13 n (l' := l) (t := [x]) (by decide) hst (.inr rfl) rfl (show l.length + 0 ≤ 8 by omega) (fun _ => hn)
    exact ⟨f', e⟩
theorem bal_unit {C : Int} {u : List Opn} (h : UForm C u) (enc : Int) : Bal C u 6 enc := fun sz s hl hs => by
  obtain ⟨l, st, f⟩ := s
  simp only at hl hs
  obtain ⟨a, b, g, a0, a1, b0, b1, hg, h⟩ := h
  have hG : ∀ n, 0 ≤ n → n < C → (g = 1 ∨ (g = 9 ∧ n = 0) ∨ ((g = 10 ∨ g = 11) ∧ 0 ≤ n ∧ n < C)) := fun n h1 h2 => .inr (.inr ⟨hg, h1, h2⟩)
  have hs2 : g + 2 = 12 ∨ g + 2 = 13 := by omega
  have l1 : ∀ v : Int, (l ++ [v]).length = l.length + 1 := fun v => by rw [List.length_append]; rfl
  have l2 : ∀ v w : Int, (l ++ [v] ++ [w]).length = l.length + 2 := fun v w => by rw [List.length_append, l1]; rfl
  rcases h with rfl | ⟨j, j0, j1, rfl⟩ | ⟨j, c, j0, j1, rfl⟩ | rfl
  · obtain ⟨v1, f1, e1⟩ := op_put (sz := sz) (enc := enc) (f := f) (rest := [⟨8, 0, 0⟩, ⟨g + 2, a, 0⟩]) (hG a a0 a1) (show st < 2000 by omega) (show l.length < 8 by omega)
    obtain ⟨v2, f2, e2⟩ := op_un (C := C) (sz := sz) (enc := enc) (x := v1) (f := f1) (c := 8) (rest := [⟨g + 2, a, 0⟩]) (by omega) (show st + 1 < 2000 by omega) (show l.length < 8 by omega)
    obtain ⟨f3, e3⟩ := op_set (C := C) (sz := sz) (enc := enc) (x := v2) (f := f2) (rest := []) hs2 ⟨a0, a1⟩ (show st + 1 + 1 < 2000 by omega) (show l.length < 8 by omega)
    exact ⟨⟨l, st + 1 + 1 + 1, f3⟩, by rw [e1, e2, e3, runL_nil], rfl, by simp only; omega⟩
  · obtain ⟨v1, f1, e1⟩ := op_put (sz := sz) (enc := enc) (f := f) (rest := [⟨g, b, 0⟩, ⟨j, 0, 0⟩, ⟨g + 2, a, 0⟩]) (hG a a0 a1) (show st < 2000 by omega) (show l.length < 8 by omega)
    obtain ⟨v2, f2, e2⟩ := op_put (sz := sz) (enc := enc) (f := f1) (rest := [⟨j, 0, 0⟩, ⟨g + 2, a, 0⟩]) (hG b b0 b1) (show st + 1 < 2000 by omega) (show (l ++ [v1]).length < 8 by rw [l1]; omega)
    obtain ⟨v3, f3, e3⟩ := op_bin (C := C) (sz := sz) (enc := enc) (x := v1) (y := v2) (f := f2) (c := j) (rest := [⟨g + 2, a, 0⟩]) (by omega) (show st + 1 + 1 < 2000 by omega) (show l.length < 8 by omega)
    obtain ⟨f4, e4⟩ := op_set (C := C) (sz := sz) (enc := enc) (x := v3) (f := f3) (rest := []) hs2 ⟨a0, a1⟩ (show st + 1 + 1 + 1 < 2000 by omega) (show l.length < 8 by omega)
    exact ⟨⟨l, st + 1 + 1 + 1 + 1, f4⟩, by rw [e1, e2, e3, e4, runL_nil], rfl, by simp only; omega⟩
  · obtain ⟨v1, f1, e1⟩ := op_put (sz := sz) (enc := enc) (f := f) (rest := [⟨j, 0, 0⟩, ⟨1, c, 0⟩, ⟨3, 0, 0⟩, ⟨g + 2, b, 0⟩]) (hG a a0 a1) (show st < 2000 by omega) (show l.length < 8 by omega)
    obtain ⟨v2, f2, e2⟩ := op_un (C := C) (sz := sz) (enc := enc) (x := v1) (f := f1) (c := j) (rest := [⟨1, c, 0⟩, ⟨3, 0, 0⟩, ⟨g + 2, b, 0⟩]) (by omega) (show st + 1 < 2000 by omega) (show l.length < 8 by omega)
    obtain ⟨v3, f3, e3⟩ := op_put (C := C) (sz := sz) (enc := enc) (f := f2) (c := 1) (n := c) (l := l ++ [v2]) (rest := [⟨3, 0, 0⟩, ⟨g + 2, b, 0⟩]) (.inl rfl) (show st + 1 + 1 < 2000 by omega) (show (l ++ [v2]).length < 8 by rw [l1]; omega)
    obtain ⟨v4, f4, e4⟩ := op_bin (C := C) (sz := sz) (enc := enc) (x := v2) (y := v3) (f := f3) (c := 3) (rest := [⟨g + 2, b, 0⟩]) (by omega) (show st + 1 + 1 + 1 < 2000 by omega) (show l.length < 8 by omega)
    obtain ⟨f5, e5⟩ := op_set (C := C) (sz := sz) (enc := enc) (x := v4) (f := f4) (rest := []) hs2 ⟨b0, b1⟩ (show st + 1 + 1 + 1 + 1 < 2000 by omega) (show l.length < 8 by omega)
    exact ⟨⟨l, st + 1 + 1 + 1 + 1 + 1, f5⟩, by rw [e1, e2, e3, e4, e5, runL_nil], rfl, by simp only; omega⟩
  · obtain ⟨v1, f1, e1⟩ := op_put (C := C) (sz := sz) (enc := enc) (f := f) (c := 9) (n := 0) (l := l) (rest := [⟨9, 0, 0⟩, ⟨2, 0, 0⟩, ⟨g, a, 0⟩, ⟨5, 0, 0⟩, ⟨g + 2, b, 0⟩]) (.inr (.inl ⟨rfl, rfl⟩)) (show st < 2000 by omega) (show l.length < 8 by omega)
    obtain ⟨v2, f2, e2⟩ := op_put (C := C) (sz := sz) (enc := enc) (f := f1) (c := 9) (n := 0) (l := l ++ [v1]) (rest := [⟨2, 0, 0⟩, ⟨g, a, 0⟩, ⟨5, 0, 0⟩, ⟨g + 2, b, 0⟩]) (.inr (.inl ⟨rfl, rfl⟩)) (show st + 1 < 2000 by omega) (show (l ++ [v1]).length < 8 by rw [l1]; omega)
    obtain ⟨v3, f3, e3⟩ := op_bin (C := C) (sz := sz) (enc := enc) (x := v1) (y := v2) (f := f2) (c := 2) (rest := [⟨g, a, 0⟩, ⟨5, 0, 0⟩, ⟨g + 2, b, 0⟩]) (by omega) (show st + 1 + 1 < 2000 by omega) (show l.length < 8 by omega)
    obtain ⟨v4, f4, e4⟩ := op_put (sz := sz) (enc := enc) (f := f3) (l := l ++ [v3]) (rest := [⟨5, 0, 0⟩, ⟨g + 2, b, 0⟩]) (hG a a0 a1) (show st + 1 + 1 + 1 < 2000 by omega) (show (l ++ [v3]).length < 8 by rw [l1]; omega)
    obtain ⟨v5, f5, e5⟩ := op_bin (C := C) (sz := sz) (enc := enc) (x := v3) (y := v4) (f := f4) (c := 5) (rest := [⟨g + 2, b, 0⟩]) (by omega) (show st + 1 + 1 + 1 + 1 < 2000 by omega) (show l.length < 8 by omega)
    obtain ⟨f6, e6⟩ := op_set (C := C) (sz := sz) (enc := enc) (x := v5) (f := f5) (rest := []) hs2 ⟨b0, b1⟩ (show st + 1 + 1 + 1 + 1 + 1 < 2000 by omega) (show l.length < 8 by omega)
    exact ⟨⟨l, st + 1 + 1 + 1 + 1 + 1 + 1, f6⟩, by rw [e1, e2, e3, e4, e5, e6, runL_nil], rfl, by simp only; omega⟩
/-- A block, some times over. -/
theorem bal_itr {C : Int} {u : List Opn} {c enc : Int} (h0 : 0 ≤ c) (hb : Bal C u c enc) (sz : Int) : ∀ (n : Nat) (s : MS), s.l.length + 3 ≤ 8 → s.st + c * n ≤ 2000 → ∃ s', itr (runL C sz u enc) n s = .ok s' ∧ s'.l = s.l ∧ s'.st ≤ s.st + c * n
  | 0, s, _, _ => ⟨s, rfl, rfl, by simp⟩
  | n + 1, s, hl, hs => by
    have hm : c * ((n + 1 : Nat) : Int) = c * n + c := by rw [Int.natCast_add]; simp [Int.mul_add]
    have hp : 0 ≤ c * (n : Int) := Int.mul_nonneg h0 (by omega)
    rw [hm] at hs
    obtain ⟨s1, e1, l1, k1⟩ := hb sz s hl (by omega)
    obtain ⟨s2, e2, l2, k2⟩ := bal_itr h0 hb sz n s1 (by rw [l1]; exact hl) (by omega)
    exact ⟨s2, by rw [itr, e1]; exact e2, by rw [l2, l1], by rw [hm]; omega⟩
theorem bal_pc1 {C : Int} {u : List Opn} (h : Pc1 C u) {enc : Int} (he : enc < 3) : Bal C u 10 enc := by
  obtain ⟨u0, h0, h⟩ := h
  have hlen := uform_len h0
  rcases h with rfl | ⟨c, rfl⟩
  · intro sz s hl hs
    obtain ⟨s', e, l1, k⟩ := bal_unit h0 enc sz s hl (by omega)
    exact ⟨s', e, l1, by omega⟩
  · intro sz s hl hs
    obtain ⟨l, st, f⟩ := s
    simp only at hl hs
    have l1 : ∀ v : Int, (l ++ [v]).length = l.length + 1 := fun v => by rw [List.length_append]; rfl
    obtain ⟨v1, f1, e1⟩ := op_put (C := C) (sz := sz) (enc := enc) (f := f) (c := 9) (n := 0) (l := l) (rest := ⟨1, c, 0⟩ :: ⟨3, 0, 0⟩ :: ⟨14, (u0.length : Nat), 0⟩ :: u0) (.inr (.inl ⟨rfl, rfl⟩)) (show st < 2000 by omega) (show l.length < 8 by omega)
    obtain ⟨v2, f2, e2⟩ := op_put (C := C) (sz := sz) (enc := enc) (f := f1) (c := 1) (n := c) (l := l ++ [v1]) (rest := ⟨3, 0, 0⟩ :: ⟨14, (u0.length : Nat), 0⟩ :: u0) (.inl rfl) (show st + 1 < 2000 by omega) (show (l ++ [v1]).length < 8 by rw [l1]; omega)
    obtain ⟨v3, f3, e3⟩ := op_bin (C := C) (sz := sz) (enc := enc) (x := v1) (y := v2) (f := f2) (c := 3) (rest := ⟨14, (u0.length : Nat), 0⟩ :: u0) (by omega) (show st + 1 + 1 < 2000 by omega) (show l.length < 8 by omega)
    have hE : chkE C ((l ++ [v3]).length : Nat) (st + 1 + 1 + 1) ⟨14, (u0.length : Nat), 0⟩ (u0.length : Nat) enc = 0 := by
      refine chk_yes (by omega) (show (1 : Int) ≤ 14 by decide) (show (14 : Int) ≤ 15 by decide) (.inr rfl) (.inl rfl) (fun _ => ⟨?_, he⟩) ?_ ?_ (fun h => by cases h)
      · unfold fitB blkL
        simp only [if_true, decide_true, Bool.true_or, Bool.true_and]
        rw [Bool.and_eq_true, decide_eq_true_iff, decide_eq_true_iff]
        omega
      · rw [l1]
        show (1 : Int) ≤ ((l.length + 1 : Nat) : Int)
        omega
      · rw [l1]
        show ((l.length + 1 : Nat) : Int) - 1 + 0 ≤ 8
        omega
    have hgo := runL_go (sz := sz) (s := ⟨l ++ [v3], st + 1 + 1 + 1, f3⟩) (rest := u0) hE
    have hbl : (blkL ⟨14, (u0.length : Nat), 0⟩).toNat = u0.length := by
      unfold blkL
      simp
    rw [hbl, List.take_length, List.drop_length] at hgo
    have hnx : ∃ f', nxS sz ⟨14, (u0.length : Nat), 0⟩ ⟨l ++ [v3], st + 1 + 1 + 1, f3⟩ = ⟨l, st + 1 + 1 + 1 + 1, f'⟩ := by
      obtain ⟨v, f', e⟩ := nx_shape 14 (u0.length : Nat) sz l [v3] (st + 1 + 1 + 1) f3 rfl
      exact ⟨f', e⟩
    obtain ⟨f', hnx⟩ := hnx
    have hr : (rndS sz ⟨14, (u0.length : Nat), 0⟩ ⟨l ++ [v3], st + 1 + 1 + 1, f3⟩).toNat = 0 ∨ (rndS sz ⟨14, (u0.length : Nat), 0⟩ ⟨l ++ [v3], st + 1 + 1 + 1, f3⟩).toNat = 1 := by
      have e : rndS sz ⟨14, (u0.length : Nat), 0⟩ ⟨l ++ [v3], st + 1 + 1 + 1, f3⟩ = if 0 < (topL 14 (l ++ [v3])).getD 0 0 then 1 else 0 := rfl
      rw [e]
      split
      · exact .inr rfl
      · exact .inl rfl
    rw [hnx] at hgo
    have hall : runL C sz ([⟨9, 0, 0⟩, ⟨1, c, 0⟩, ⟨3, 0, 0⟩, ⟨14, (u0.length : Nat), 0⟩] ++ u0) enc ⟨l, st, f⟩ = bindR (itr (runL C sz u0 (enc + 1)) (rndS sz ⟨14, (u0.length : Nat), 0⟩ ⟨l ++ [v3], st + 1 + 1 + 1, f3⟩).toNat ⟨l, st + 1 + 1 + 1 + 1, f'⟩) (runL C sz [] enc) := by
      show runL C sz (⟨9, 0, 0⟩ :: ⟨1, c, 0⟩ :: ⟨3, 0, 0⟩ :: ⟨14, (u0.length : Nat), 0⟩ :: u0) enc ⟨l, st, f⟩ = _
      rw [e1, e2, e3, hgo]
    rcases hr with hr | hr
    · rw [hr] at hall
      exact ⟨⟨l, st + 1 + 1 + 1 + 1, f'⟩, hall, rfl, by simp only; omega⟩
    · rw [hr] at hall
      obtain ⟨s', x1, x2, x3⟩ := bal_unit h0 (enc + 1) sz ⟨l, st + 1 + 1 + 1 + 1, f'⟩ (by simp only; omega) (by simp only; omega)
      rw [itr, x1] at hall
      exact ⟨s', hall, x2, by simp only at x3 ⊢; omega⟩
/-- A loop at the beginning. -/
theorem run_loop {C sz enc st : Int} {l : List Int} {f : Nat → Pt} {u : List Opn} {r : Int} (hr : 1 ≤ r ∧ r ≤ 16) (hu : 1 ≤ u.length) (he : enc < 3) (hst : st < 2000) (hl : l.length ≤ 8) :
    runL C sz ([⟨15, r, (u.length : Nat)⟩] ++ u) enc ⟨l, st, f⟩ = itr (runL C sz u (enc + 1)) r.toNat ⟨l, st + 1, f⟩ := by
  have hE : chkE C (l.length : Nat) st ⟨15, r, (u.length : Nat)⟩ (u.length : Nat) enc = 0 := by
    refine chk_yes hst (show (1 : Int) ≤ 15 by decide) (show (15 : Int) ≤ 15 by decide) (.inr rfl) (.inr rfl) (fun _ => ⟨?_, he⟩) ?_ ?_ (fun h => by cases h)
    · unfold fitB blkL
      rw [Bool.and_eq_true, Bool.and_eq_true, Bool.or_eq_true, Bool.and_eq_true, decide_eq_true_iff, decide_eq_true_iff, decide_eq_true_iff, decide_eq_true_iff, decide_eq_true_iff]
      refine ⟨.inr hr, ?_, ?_⟩
      · show (1 : Int) ≤ (u.length : Nat)
        omega
      · show ((u.length : Nat) : Int) ≤ (u.length : Nat)
        omega
    · show (0 : Int) ≤ (l.length : Nat)
      omega
    · show ((l.length : Nat) : Int) - 0 + 0 ≤ 8
      omega
  have hgo := runL_go (sz := sz) (s := ⟨l, st, f⟩) (rest := u) hE
  have hbl : (blkL ⟨15, r, (u.length : Nat)⟩).toNat = u.length := by
    unfold blkL
    simp
  rw [hbl, List.take_length, List.drop_length] at hgo
  obtain ⟨v, f', e⟩ := nx_shape 15 r sz l [] st f rfl
  have hnx : nxS sz ⟨15, r, (u.length : Nat)⟩ ⟨l, st, f⟩ = ⟨l, st + 1, f⟩ := by
    have e2 : lowL 15 l = l := by
      unfold lowL
      exact List.take_length
    show nxK sz 15 r ⟨l, st, f⟩ = _
    unfold nxK
    simp only [e2]
    rfl
  have hrd : rndS sz ⟨15, r, (u.length : Nat)⟩ ⟨l, st, f⟩ = r := rfl
  rw [hnx, hrd] at hgo
  show runL C sz (⟨15, r, (u.length : Nat)⟩ :: u) enc ⟨l, st, f⟩ = _
  rw [hgo]
  cases itr (runL C sz u (enc + 1)) r.toNat ⟨l, st + 1, f⟩ with
  | ok s => rfl
  | er E => rfl
theorem bal_pc2 {C : Int} {u : List Opn} (h : Pc2 C u) {enc : Int} (he : enc < 2) : Bal C u 31 enc := by
  obtain ⟨u1, h1, h⟩ := h
  have hlen := pc1_len h1
  rcases h with rfl | ⟨r, r1, r2, rfl⟩
  · intro sz s hl hs
    obtain ⟨s', e, l1, k⟩ := bal_pc1 h1 (show enc < 3 by omega) sz s hl (by omega)
    exact ⟨s', e, l1, by omega⟩
  · intro sz s hl hs
    obtain ⟨l, st, f⟩ := s
    simp only at hl hs
    rw [run_loop ⟨r1, by omega⟩ hlen.1 (by omega) (by omega) (by omega)]
    obtain ⟨s', e, l1, k⟩ := bal_itr (by omega) (bal_pc1 h1 (show enc + 1 < 3 by omega)) sz r.toNat ⟨l, st + 1, f⟩ hl (by simp only; omega)
    exact ⟨s', e, l1, by simp only at k ⊢; omega⟩
theorem bal_flat {C : Int} {enc : Int} (he : enc < 2) : ∀ (ps : List (List Opn)), (∀ p ∈ ps, Pc2 C p) → Bal C ps.flatten (31 * ps.length) enc
  | [], _ => fun sz s _ _ => ⟨s, rfl, rfl, by simp⟩
  | p :: r, h => by
    have h1 := bal_app (c1 := 31) (c2 := 31 * r.length) (by omega) (bal_pc2 (h p List.mem_cons_self) he) (bal_flat he r (fun q hq => h q (List.mem_cons_of_mem _ hq)))
    rw [List.flatten_cons, List.length_cons, show (31 : Int) * ((r.length + 1 : Nat) : Int) = 31 + 31 * r.length by omega]
    exact h1
theorem bal_made {C : Int} {p : List Opn} (h : MadeP C p) {enc : Int} (he : enc < 2) : Bal C p 93 enc := by
  obtain ⟨ps, h1, h2, rfl⟩ := h
  intro sz s hl hs
  obtain ⟨s', e, l1, k⟩ := bal_flat he ps h2 sz s hl (by omega)
  exact ⟨s', e, l1, by omega⟩
end Go.Proofs.Ytdgagjcocohnnaa.Mc
