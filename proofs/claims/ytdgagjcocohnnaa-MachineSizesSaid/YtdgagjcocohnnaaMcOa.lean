/-
  Layer 9 (machine): the document's Odd, by an existential contract.
-/
import Derived.Test.YtdgagjcocohnnaaMcDOne
namespace Go.Proofs.Ytdgagjcocohnnaa.Mc
open Go.RowKit
/-- One operation of a program changes. -/
theorem pra_one {V W : World} {b : Nat} {l : List Opn} {i : Nat} {q' : Opn} (h : PrA V.heap.size V (some ⟨b, 0, none⟩) l) (hi : i < l.length) (hs : V.heap.size ≤ W.heap.size) (he : ∀ o, (o < i * 3 ∨ i * 3 + 3 ≤ o) → W.cell? ⟨b, o, none⟩ = V.cell? ⟨b, o, none⟩)
    (h0 : W.cell? ⟨b, i * 3, none⟩ = some (.int .i64 q'.c)) (h1 : W.cell? ⟨b, i * 3 + 1, none⟩ = some (.int .i64 q'.n)) (h2 : W.cell? ⟨b, i * 3 + 2, none⟩ = some (.int .i64 q'.m)) : PrA W.heap.size W (some ⟨b, 0, none⟩) (l.set i q') := fun j p hp => by
  by_cases e : j = i
  · subst e
    rw [List.getElem?_set_self hi] at hp
    injection hp with hp
    subst hp
    have hlt := block_lt_of_cell h0
    exact ⟨b, 0, rfl, hlt, by rw [Nat.zero_add]; exact h0, by rw [Nat.zero_add]; exact h1, by rw [Nat.zero_add]; exact h2⟩
  · rw [List.getElem?_set_ne (Ne.symm e)] at hp
    obtain ⟨b', o', e', hb, k0, k1, k2⟩ := h j p hp
    cases e'
    refine ⟨b, 0, rfl, Nat.lt_of_lt_of_le hb hs, ?_, ?_, ?_⟩
    · rw [he _ (by omega)]; exact k0
    · rw [he _ (by omega)]; exact k1
    · rw [he _ (by omega)]; exact k2
theorem set_at {V : World} {b o : Nat} {v : Value} (o' : Nat) (h : o ≠ o') : (V.setCell ⟨b, o, none⟩ v).cell? ⟨b, o', none⟩ = V.cell? ⟨b, o', none⟩ := by rw [World.cell?_setCell_other]; exact fun e => h (by injection e)
theorem own_take {W : World} {S g n qc i : Nat} {l : List Opn} (h : W.ownsRow S 45 3 (.slice (some ⟨g, 0, none⟩) n qc) n (opCells l)) (hi : i < l.length) : W.ownsRow S 45 3 (.slice (some ⟨g, 0, none⟩) i qc) i (opCells (l.take i)) := by
  have hl : (opCells (l.take i)).length = i * 3 := by rw [opCells_len, List.length_take]; omega
  have hln : l.length = n := by have := h.1; rw [opCells_len] at this; omega
  refine ⟨hl, .inr ?_⟩
  rcases h.2 with ⟨e, _⟩ | ⟨g', cap, cur, e, hg, hh, h1, h2, h3, h4⟩
  · cases e
  · injection e with e1 e2 e3
    injection e1 with e1
    injection e1 with e1
    subst e1
    subst e3
    refine ⟨g, qc, cur, rfl, hg, hh, by omega, h2, h3, ?_⟩
    have e : opCells l = opCells (l.take i) ++ opCells (l.drop i) := by rw [← opCells_app, List.take_append_drop]
    have h5 : (cur.toList.take (n * 3)).take (i * 3) = opCells (l.take i) := by rw [h4, e, List.take_append_of_le_length (by omega), List.take_of_length_le (by omega)]
    rwa [List.take_take, Nat.min_eq_left (by omega)] at h5
/-- What Odd answers. -/
def OddP (w : World) (n : Nat) (e : Ending) (w' : World) : Prop := ∃ (b : Option Addr) (m c' : Nat) (out : List Opn), e = .returned (.slice b m c') ∧ out.length = m ∧ m ≤ n + 1 ∧ m ≤ c' ∧ c' ≤ 9223372036854775807 ∧ PrA w'.heap.size w' b out ∧ Below w.heap.size w w'
theorem odd_end {w W : World} {n g qc : Nat} {out : List Opn} (hl : out.length = n) (q1 : n ≤ qc) (q2 : qc ≤ 9223372036854775807) (hP : PrA W.heap.size W (some ⟨g, 0, none⟩) out) (hB : Below w.heap.size w W) : OddP w n (.returned (.slice (some ⟨g, 0, none⟩) n qc)) W :=
  ⟨_, n, qc, out, rfl, hl, by omega, q1, q2, hP, hB⟩
set_option maxRecDepth 100000 in
set_option maxHeartbeats 16000000 in
theorem odd_any (a : Option Addr) (n c : Nat) (l : List Opn) (x y z : Int) (hn : l.length = n) (hn2 : n ≤ 1000) (hx : Ax.R64 x) (hy : Ax.R64 y) (hz : Ax.R64 z) (w : World) (hp : PrA w.heap.size w a l) :
    Calls Try.prog 23 #[.slice a n c, .agg #[.int .i64 x, .int .i64 y, .int .i64 z]] w (OddP w n) := by
  have hB0 : Below w.heap.size w (w.alloc (.cells #[.int .i64 x, .int .i64 y, .int .i64 z] 24)) := ba (Below.refl _ _) _
  have hp0 := Lib.hid (pra_up hp hB0)
  have c0 : (w.alloc (.cells #[.int .i64 x, .int .i64 y, .int .i64 z] 24)).cell? ⟨w.heap.size, 0, none⟩ = some (.int .i64 x) := by go_cell
  have c1 : (w.alloc (.cells #[.int .i64 x, .int .i64 y, .int .i64 z] 24)).cell? ⟨w.heap.size, 1, none⟩ = some (.int .i64 y) := by go_cell
  have c2 : (w.alloc (.cells #[.int .i64 x, .int .i64 y, .int .i64 z] 24)).cell? ⟨w.heap.size, 2, none⟩ = some (.int .i64 z) := by go_cell
  have HX := Lib.hid hx
  have HY := Lib.hid hy
  have HZ := Lib.hid hz
  clear hx hy hz hp
  go_enter Try.func23, Try.ntmps23
  go_upto_region 1 with (fail)
  generalize (w.alloc (.cells #[.int .i64 x, .int .i64 y, .int .i64 z] 24)) = V0 at *
  obtain ⟨B, hBw⟩ : ∃ B, w.heap.size = B := ⟨_, rfl⟩
  rw [hBw] at c0 c1 c2 ⊢
  have HBw := Lib.hid hBw
  clear hBw
  have HE := Lib.hid (own_e V0 (Nat.le_refl V0.heap.size))
  have b1 : Below V0.heap.size V0 (V0.alloc (.cells #[] 45)) := ba (Below.refl _ _) _
  have hP1 := Lib.hid (pra_up hp0.out b1)
  have HB1 := Lib.hid b1
  have hs1 := Lib.hid b1.size
  have Hn := Lib.hid hn
  clear b1 hn
  go_upto_region 2 with (at_builtin; refine wpList_ops (l := []) (l2 := l) (n := 0) (m := n) V0.heap.size rfl _ _ rfl rfl rfl rfl Hn.out HE.out hP1.out (by omega) (by omega) hs1.out ?_; intro v1 W1 ho1 hg1)
  have hw1 := gBo HB1.out hg1 (fun q e => (HE.out.lt q e).1)
  rw [Nat.zero_add] at ho1
  replace ho1 : W1.ownsRow V0.heap.size 45 3 v1 n (opCells l) := ho1
  replace c0 := kc hw1 c0
  replace c1 := kc hw1 c1
  replace c2 := kc hw1 c2
  have hBW := Lib.hid (bt hB0 hw1)
  have hsW := Lib.hid (Nat.le_trans hB0.size hw1.size)
  obtain ⟨qa, qc, e1, q1, q2, hQ⟩ := own_pra Hn.out ho1
  by_cases hn0 : n = 0
  · subst hn0
    have e0 : l = [] := List.length_eq_zero_iff.1 Hn.out
    subst e0
    subst e1
    have ho2 := Lib.hid ho1
    have M := Lib.hid (Ax.mod_any x 17 HX.out (by decide) W1)
    have hv0 := HB1.out.size
    have hw0 := hw1.size
    have hv9 := hB0.size
    clear ho1 hg1 hw1 HE hP1 HB1 hs1 hp0 hQ hB0
    go_wp2_with fail
    refine M.out.mono ?_
    rintro e _ ⟨rfl, rfl⟩
    rename World => W1
    clear M
    obtain ⟨md, hmd⟩ : ∃ md, x % 17 = md := ⟨_, rfl⟩
    rw [hmd]
    have hE2 : (W1.alloc (.cells #[.int .i64 md, .int .i64 0, .int .i64 0] 45)).ownsRow V0.heap.size 45 3 (.slice qa 0 qc) 0 (opCells []) := own_v ho2.out (ba (Below.refl _ _) _)
    have hP2 : PrA (W1.alloc (.cells #[.int .i64 md, .int .i64 0, .int .i64 0] 45)).heap.size (W1.alloc (.cells #[.int .i64 md, .int .i64 0, .int .i64 0] 45)) (some ⟨W1.heap.size, 0, none⟩) [⟨md, 0, 0⟩] := pra_lit W1 [⟨md, 0, 0⟩] 45
    have b2 : Below W1.heap.size W1 (W1.alloc (.cells #[.int .i64 md, .int .i64 0, .int .i64 0] 45)) := ba (Below.refl _ _) _
    have hs2 : V0.heap.size ≤ (W1.alloc (.cells #[.int .i64 md, .int .i64 0, .int .i64 0] 45)).heap.size := Nat.le_trans hw0 b2.size
    go_wp2_with (at_builtin; refine wpList_ops (l := []) (l2 := [⟨md, 0, 0⟩]) (n := 0) (m := 1) V0.heap.size rfl _ _ rfl rfl rfl rfl rfl hE2 hP2 (by omega) (by omega) hs2 ?_; intro v2 W2 ho3 hg3)
    go_ret
    have hB3 : Below w.heap.size w W2 := gBo (bt hBW.out b2) hg3 (fun q e => by have := (hE2.lt q e).1; omega)
    obtain ⟨ra, rc, rfl, r1, r2, hR⟩ := own_pra (n := 1) rfl ho3
    exact ⟨ra, 1, rc, [⟨md, 0, 0⟩], rfl, rfl, by omega, r1, r2, hR, hB3⟩
  · obtain ⟨g, e2, hgV, hfz⟩ : ∃ g, v1 = .slice (some ⟨g, 0, none⟩) n qc ∧ V0.heap.size ≤ g ∧ ∀ o, W1.frozen? ⟨g, o, none⟩ = false := by
      rcases ho1.2 with ⟨_, h0⟩ | ⟨g, cap, cur, e2, hg, hh, _⟩
      · exact absurd h0 hn0
      · rw [e1] at e2
        injection e2 with e3 e4 e5
        exact ⟨g, by rw [e1, e3], hg, fun o => by simp [World.frozen?, hh]⟩
    rw [e1] at e2
    injection e2 with e3
    subst e3
    subst e1
    have hgw : w.heap.size ≤ g := Nat.le_trans hB0.size hgV
    have HO := Lib.hid ho1
    have HQ := Lib.hid hQ
    have hlt : g < W1.heap.size := by
      obtain ⟨q, hq⟩ : ∃ q, l[0]? = some q := ⟨_, List.getElem?_eq_getElem (by have := Hn.out; omega)⟩
      obtain ⟨b', o', e', hb', _⟩ := hQ 0 q hq
      cases e'
      exact hb'
    clear ho1 hg1 hw1 HE hP1 HB1 hs1 hp0 hQ hB0
    have M1 := Lib.hid (Ax.mod_any y n HY.out ⟨by omega, by omega⟩ W1)
    have M2 := Lib.hid (Ax.mod_any z 20 HZ.out (by decide) W1)
    have M3 := Lib.hid (Ax.mod_any x 7 HX.out (by decide) W1)
    go_wp2_with fail
    refine M1.out.mono ?_
    rintro e W2 ⟨rfl, hW2⟩
    subst hW2
    clear M1
    obtain ⟨i, hi⟩ : ∃ i : Nat, y % (n : Int) = (i : Int) := ⟨(y % (n : Int)).toNat, by
      have := Int.emod_nonneg y (show (n : Int) ≠ 0 by omega)
      omega⟩
    have hin : i < n := by
      have := Int.emod_lt_of_pos y (show (0 : Int) < (n : Int) by omega)
      omega
    rw [hi]
    have Hi := Lib.hid hi
    clear hi
    go_wp2_with fail
    refine M2.out.mono ?_
    rintro e W2 ⟨rfl, hW2⟩
    subst hW2
    clear M2
    obtain ⟨t, ht⟩ : ∃ t, z % 20 = t := ⟨_, rfl⟩
    have t1 : 0 ≤ t := by omega
    have t2 : t < 20 := by omega
    rw [ht]
    clear ht
    go_wp2_with fail
    refine M3.out.mono ?_
    rintro e W2 ⟨rfl, hW2⟩
    subst hW2
    clear M3
    have i1 : (0 : Int) ≤ (i : Int) := by omega
    have i2 : (i : Int) < (n : Int) := by omega
    have hk : x % 7 = 0 ∨ x % 7 = 1 ∨ x % 7 = 2 ∨ x % 7 = 3 ∨ x % 7 = 4 ∨ x % 7 = 5 ∨ x % 7 = 6 := by omega
    rename World => W1
    obtain ⟨q, hq⟩ : ∃ q, l[i]? = some q := ⟨_, List.getElem?_eq_getElem (by have := Hn.out; omega)⟩
    obtain ⟨b', o', e', _, k0, k1, k2⟩ := HQ.out i q hq
    cases e'
    rw [Nat.zero_add] at k0 k1 k2
    have hil : Hid (i < l.length) := Lib.hid (by rw [Hn.out]; exact hin)
    have f0 := hfz (i * 3)
    have f1 := hfz (i * 3 + 1)
    have f2 := hfz (i * 3 + 2)
    clear hfz
    rcases hk with hk | hk | hk | hk | hk | hk | hk
    · rw [hk]
      have P : Hid (OddP w n (.returned (.slice (some ⟨g, 0, none⟩) n qc)) (W1.setCell ⟨g, i * 3, none⟩ (.int .i64 (t - 1)))) := Lib.hid (odd_end (by rw [List.length_set, Hn.out]) q1 q2 (pra_one (q' := ⟨t - 1, q.n, q.m⟩) HQ.out hil.out (by simp) (fun o ho => set_at o (by omega)) (World.cell?_setCell_same _ _ _ k0) (by rw [set_at _ (by omega)]; exact k1) (by rw [set_at _ (by omega)]; exact k2)) (bs hBW.out hgw _))
      go_wp2_with fail
      go_ret
      exact P.out
    · rw [hk]
      have P : Hid (OddP w n (.returned (.slice (some ⟨g, 0, none⟩) n qc)) (W1.setCell ⟨g, i * 3 + 1, none⟩ (.int .i64 (t - 2)))) := Lib.hid (odd_end (by rw [List.length_set, Hn.out]) q1 q2 (pra_one (q' := ⟨q.c, t - 2, q.m⟩) HQ.out hil.out (by simp) (fun o ho => set_at o (by omega)) (by rw [set_at _ (by omega)]; exact k0) (World.cell?_setCell_same _ _ _ k1) (by rw [set_at _ (by omega)]; exact k2)) (bs hBW.out hgw _))
      go_wp2_with fail
      go_ret
      exact P.out
    · rw [hk]
      have P : Hid (OddP w n (.returned (.slice (some ⟨g, 0, none⟩) n qc)) (W1.setCell ⟨g, i * 3 + 2, none⟩ (.int .i64 (t - 2)))) := Lib.hid (odd_end (by rw [List.length_set, Hn.out]) q1 q2 (pra_one (q' := ⟨q.c, q.n, t - 2⟩) HQ.out hil.out (by simp) (fun o ho => set_at o (by omega)) (by rw [set_at _ (by omega)]; exact k0) (by rw [set_at _ (by omega)]; exact k1) (World.cell?_setCell_same _ _ _ k2)) (bs hBW.out hgw _))
      go_wp2_with fail
      go_ret
      exact P.out
    · rw [hk]
      have hE3 := Lib.hid (own_v (own_take HO.out hil.out) (bd1 (Below.refl W1.heap.size W1)))
      have hL3 := pra_up (pra_drop HQ.out (i + 1)) (bd1 (Below.refl W1.heap.size W1))
      rw [Nat.zero_add] at hL3
      have HL0 := Lib.hid hL3
      have n1 : (0 : Int) ≤ (i : Int) + 1 := by omega
      have n2 : (i : Int) + 1 ≤ (n : Int) := by omega
      have ht1 : Hid ((l.take i).length = i) := Lib.hid (by rw [List.length_take, Hn.out]; omega)
      have ht2 : Hid ((l.drop (i + 1)).length = n - (i + 1)) := Lib.hid (by rw [List.length_drop, Hn.out])
      have FIN : Hid (∀ v2 W2, W2.ownsRow V0.heap.size 45 3 v2 (i + (n - (i + 1))) (opCells (l.take i ++ l.drop (i + 1))) → W1.grownBy W2 (some g) → OddP w n (.returned v2) W2) := Lib.hid (fun v2 W2 ho hg => by
        obtain ⟨ra, rc, rfl, r1, r2, hR⟩ := own_pra (n := i + (n - (i + 1))) (by rw [List.length_append, ht1.out, ht2.out]) ho
        exact ⟨ra, _, rc, _, rfl, by rw [List.length_append, ht1.out, ht2.out], by omega, r1, r2, hR, gBo hBW.out hg (fun q e => by injection e with e; omega)⟩)
      have hs3 : V0.heap.size ≤ W1.drew.heap.size := Nat.le_trans (show V0.heap.size ≤ W1.heap.size by omega) (bd1 (Below.refl W1.heap.size W1)).size
      clear hL3
      have iqc : i ≤ qc := by omega
      have wi : IntKind.i64.wrap ((i : Int) + 1) = (i : Int) + 1 := IntWalk.i64_in _ ⟨by omega, by omega⟩
      have iqc2 : (i : Int) ≤ (i : Int) + 1 := by omega
      have ti : ((i : Int) + 1).toNat = i + 1 := by omega
      by_cases hqc : qc = i + 1
      · have HL3 : Hid (PrA W1.drew.heap.size W1.drew (some ⟨g, 0, none⟩) (l.drop (i + 1))) := Lib.hid (by
          rw [List.drop_eq_nil_of_le (by rw [Hn.out]; omega)]
          intro j p hp
          cases hp)
        have e0 : n - (i + 1) = 0 := by omega
        subst hqc
        rw [e0] at FIN ht2
        clear HL0 e0
        go_upto_region 14 with (fail)
        refine wp_region_held_drew (S := fun w' => W1.grownBy w' (some g)) (by kernel_rfl) (gd1 (gr _ _)) (fun hHeld => ?_)
        refine wpAnyH_take (i := 0) (v := ?_) rfl (by kernel_rfl) (by kernel_rfl) (by kernel_rfl) (fun _ _ _ h => h) (Or.inl ⟨by rfl, ?_⟩) (by assumption) ?_
        rotate_left
        · intro w hSw; (try dsimp only at hSw); go_simp; try with_reducible rfl
        try simp only [Act.put, List.getElem_toArray, List.getElem_cons_zero, List.getElem_cons_succ, List.setIfInBounds_toArray, List.set_cons_zero, List.set_cons_succ]
        refine wpAnyH_take (i := 1) (v := ?_) rfl (by kernel_rfl) (by kernel_rfl) (by kernel_rfl) (fun _ _ _ h => h) (Or.inl ⟨by rfl, ?_⟩) (by assumption) ?_
        rotate_left
        · intro w hSw; (try dsimp only at hSw); go_simp; try with_reducible rfl
        try simp only [Act.put, List.getElem_toArray, List.getElem_cons_zero, List.getElem_cons_succ, List.setIfInBounds_toArray, List.set_cons_zero, List.set_cons_succ]
        refine wpAnyH_take (i := 2) (v := ?_) rfl (by kernel_rfl) (by kernel_rfl) (by kernel_rfl) (fun _ _ _ h => h) (Or.inl ⟨by rfl, ?_⟩) (by assumption) ?_
        rotate_left
        · intro w hSw; (try dsimp only at hSw); go_simp; try with_reducible rfl
        try simp only [Act.put, List.getElem_toArray, List.getElem_cons_zero, List.getElem_cons_succ, List.setIfInBounds_toArray, List.set_cons_zero, List.set_cons_succ]
        refine wpAnyH_take (i := 3) (v := ?_) rfl (by kernel_rfl) (by kernel_rfl) (by kernel_rfl) (fun _ _ _ h => h) (Or.inl ⟨by rfl, ?_⟩) (by assumption) ?_
        rotate_left
        · intro w hSw; (try dsimp only at hSw); go_simp; try with_reducible rfl
        try simp only [Act.put, List.getElem_toArray, List.getElem_cons_zero, List.getElem_cons_succ, List.setIfInBounds_toArray, List.set_cons_zero, List.set_cons_succ]
        refine wpAnyH_take (i := 4) (v := ?_) rfl (by kernel_rfl) (by kernel_rfl) (by kernel_rfl) (fun _ _ _ h => h) (Or.inl ⟨by rfl, ?_⟩) (by assumption) ?_
        rotate_left
        · intro w hSw; (try dsimp only at hSw); go_simp; try with_reducible rfl
        try simp only [Act.put, List.getElem_toArray, List.getElem_cons_zero, List.getElem_cons_succ, List.setIfInBounds_toArray, List.set_cons_zero, List.set_cons_succ]
        refine wpAnyH_take (i := 5) (v := ?_) rfl (by kernel_rfl) (by kernel_rfl) (by kernel_rfl) (fun _ _ _ h => h) (Or.inl ⟨by rfl, ?_⟩) (by assumption) ?_
        rotate_left
        · intro w hSw; (try dsimp only at hSw); go_simp; try with_reducible rfl
        try simp only [Act.put, List.getElem_toArray, List.getElem_cons_zero, List.getElem_cons_succ, List.setIfInBounds_toArray, List.set_cons_zero, List.set_cons_succ]
        refine wpAnyH_take (i := 6) (v := ?_) rfl (by kernel_rfl) (by kernel_rfl) (by kernel_rfl) (fun _ _ _ h => h) (Or.inl ⟨by rfl, ?_⟩) (by assumption) ?_
        rotate_left
        · intro w hSw; (try dsimp only at hSw); go_simp; try with_reducible rfl
        try simp only [Act.put, List.getElem_toArray, List.getElem_cons_zero, List.getElem_cons_succ, List.setIfInBounds_toArray, List.set_cons_zero, List.set_cons_succ]
        refine wpAnyH_ready (rs := [7]) (by kernel_rfl) (by simp) ?_
        refine AllReadyH.cons rfl (fun K hK => ?_) AllReadyH.nil
        refine (if_pos (by kernel_rfl)).mpr ?_
        obtain ⟨v5, w5, hr5, ho5, hg5⟩ := run_ops V0.heap.size 27 (l := l.take i) (l2 := l.drop (i + 1)) (n := i) (m := 0) 0 ht1.out ht2.out hE3.out HL3.out (by omega) (by omega) hs3
        refine wp_val_of (app_ex rfl rfl rfl hr5) ?_
        have hg6 := World.grownBy.trans hHeld hg5
        refine hK.out _ _ hg6 (fun hHeld => ?_)
        clear hK K
        try simp only [Act.put, List.getElem_toArray, List.getElem_cons_zero, List.getElem_cons_succ, List.setIfInBounds_toArray, List.set_cons_zero, List.set_cons_succ]
        refine wpAnyH_take (i := 8) (v := ?_) rfl (by kernel_rfl) (by kernel_rfl) (by kernel_rfl) (fun _ _ _ h => h) (Or.inl ⟨by rfl, ?_⟩) (by assumption) ?_
        rotate_left
        · intro w hSw; (try dsimp only at hSw); go_simp; try with_reducible rfl
        try simp only [Act.put, List.getElem_toArray, List.getElem_cons_zero, List.getElem_cons_succ, List.setIfInBounds_toArray, List.set_cons_zero, List.set_cons_succ]
        refine wpAnyH_done (by kernel_rfl) ?_ _
        have R := Lib.hid (FIN.out _ _ ho5 hg6)
        clear FIN ho5 hg5 hg6 hHeld
        go_wp2_with fail
        go_ret
        exact R.out
      · have HL3 := Lib.hid HL0.out
        clear HL0
        go_upto_region 14 with (fail)
        refine wp_region_held_drew (S := fun w' => W1.grownBy w' (some g)) (by kernel_rfl) (gd1 (gr _ _)) (fun hHeld => ?_)
        refine wpAnyH_take (i := 0) (v := ?_) rfl (by kernel_rfl) (by kernel_rfl) (by kernel_rfl) (fun _ _ _ h => h) (Or.inl ⟨by rfl, ?_⟩) (by assumption) ?_
        rotate_left
        · intro w hSw; (try dsimp only at hSw); go_simp; try with_reducible rfl
        try simp only [Act.put, List.getElem_toArray, List.getElem_cons_zero, List.getElem_cons_succ, List.setIfInBounds_toArray, List.set_cons_zero, List.set_cons_succ]
        refine wpAnyH_take (i := 1) (v := ?_) rfl (by kernel_rfl) (by kernel_rfl) (by kernel_rfl) (fun _ _ _ h => h) (Or.inl ⟨by rfl, ?_⟩) (by assumption) ?_
        rotate_left
        · intro w hSw; (try dsimp only at hSw); go_simp; try with_reducible rfl
        try simp only [Act.put, List.getElem_toArray, List.getElem_cons_zero, List.getElem_cons_succ, List.setIfInBounds_toArray, List.set_cons_zero, List.set_cons_succ]
        refine wpAnyH_take (i := 2) (v := ?_) rfl (by kernel_rfl) (by kernel_rfl) (by kernel_rfl) (fun _ _ _ h => h) (Or.inl ⟨by rfl, ?_⟩) (by assumption) ?_
        rotate_left
        · intro w hSw; (try dsimp only at hSw); go_simp; try with_reducible rfl
        try simp only [Act.put, List.getElem_toArray, List.getElem_cons_zero, List.getElem_cons_succ, List.setIfInBounds_toArray, List.set_cons_zero, List.set_cons_succ]
        refine wpAnyH_take (i := 3) (v := ?_) rfl (by kernel_rfl) (by kernel_rfl) (by kernel_rfl) (fun _ _ _ h => h) (Or.inl ⟨by rfl, ?_⟩) (by assumption) ?_
        rotate_left
        · intro w hSw; (try dsimp only at hSw); go_simp; try with_reducible rfl
        try simp only [Act.put, List.getElem_toArray, List.getElem_cons_zero, List.getElem_cons_succ, List.setIfInBounds_toArray, List.set_cons_zero, List.set_cons_succ]
        refine wpAnyH_take (i := 4) (v := ?_) rfl (by kernel_rfl) (by kernel_rfl) (by kernel_rfl) (fun _ _ _ h => h) (Or.inl ⟨by rfl, ?_⟩) (by assumption) ?_
        rotate_left
        · intro w hSw; (try dsimp only at hSw); go_simp; try with_reducible rfl
        try simp only [Act.put, List.getElem_toArray, List.getElem_cons_zero, List.getElem_cons_succ, List.setIfInBounds_toArray, List.set_cons_zero, List.set_cons_succ]
        refine wpAnyH_take (i := 5) (v := ?_) rfl (by kernel_rfl) (by kernel_rfl) (by kernel_rfl) (fun _ _ _ h => h) (Or.inl ⟨by rfl, ?_⟩) (by assumption) ?_
        rotate_left
        · intro w hSw; (try dsimp only at hSw); go_simp; try with_reducible rfl
        try simp only [Act.put, List.getElem_toArray, List.getElem_cons_zero, List.getElem_cons_succ, List.setIfInBounds_toArray, List.set_cons_zero, List.set_cons_succ]
        refine wpAnyH_take (i := 6) (v := ?_) rfl (by kernel_rfl) (by kernel_rfl) (by kernel_rfl) (fun _ _ _ h => h) (Or.inl ⟨by rfl, ?_⟩) (by assumption) ?_
        rotate_left
        · intro w hSw; (try dsimp only at hSw); go_simp; try with_reducible rfl
        try simp only [Act.put, List.getElem_toArray, List.getElem_cons_zero, List.getElem_cons_succ, List.setIfInBounds_toArray, List.set_cons_zero, List.set_cons_succ]
        refine wpAnyH_ready (rs := [7]) (by kernel_rfl) (by simp) ?_
        refine AllReadyH.cons rfl (fun K hK => ?_) AllReadyH.nil
        refine (if_pos (by kernel_rfl)).mpr ?_
        obtain ⟨v5, w5, hr5, ho5, hg5⟩ := run_ops V0.heap.size 27 (l := l.take i) (l2 := l.drop (i + 1)) (n := i) (m := n - (i + 1)) (qc - (i + 1)) ht1.out ht2.out hE3.out HL3.out (by omega) (by omega) hs3
        refine wp_val_of (app_ex rfl rfl rfl hr5) ?_
        have hg6 := World.grownBy.trans hHeld hg5
        refine hK.out _ _ hg6 (fun hHeld => ?_)
        clear hK K
        try simp only [Act.put, List.getElem_toArray, List.getElem_cons_zero, List.getElem_cons_succ, List.setIfInBounds_toArray, List.set_cons_zero, List.set_cons_succ]
        refine wpAnyH_take (i := 8) (v := ?_) rfl (by kernel_rfl) (by kernel_rfl) (by kernel_rfl) (fun _ _ _ h => h) (Or.inl ⟨by rfl, ?_⟩) (by assumption) ?_
        rotate_left
        · intro w hSw; (try dsimp only at hSw); go_simp; try with_reducible rfl
        try simp only [Act.put, List.getElem_toArray, List.getElem_cons_zero, List.getElem_cons_succ, List.setIfInBounds_toArray, List.set_cons_zero, List.set_cons_succ]
        refine wpAnyH_done (by kernel_rfl) ?_ _
        have R := Lib.hid (FIN.out _ _ ho5 hg6)
        clear FIN ho5 hg5 hg6 hHeld
        go_wp2_with fail
        go_ret
        exact R.out
    · rw [hk]
      have hE2 : (W1.alloc (.cells #[.int .i64 q.c, .int .i64 q.n, .int .i64 q.m] 45)).ownsRow V0.heap.size 45 3 (.slice (some ⟨g, 0, none⟩) n qc) n (opCells l) := own_v HO.out (ba (Below.refl _ _) _)
      have hP2 : PrA (W1.alloc (.cells #[.int .i64 q.c, .int .i64 q.n, .int .i64 q.m] 45)).heap.size (W1.alloc (.cells #[.int .i64 q.c, .int .i64 q.n, .int .i64 q.m] 45)) (some ⟨W1.heap.size, 0, none⟩) [⟨q.c, q.n, q.m⟩] := pra_lit W1 [⟨q.c, q.n, q.m⟩] 45
      have b2 : Below W1.heap.size W1 (W1.alloc (.cells #[.int .i64 q.c, .int .i64 q.n, .int .i64 q.m] 45)) := ba (Below.refl _ _) _
      have hs2 : V0.heap.size ≤ (W1.alloc (.cells #[.int .i64 q.c, .int .i64 q.n, .int .i64 q.m] 45)).heap.size := Nat.le_trans (by omega) b2.size
      have HE2 := Lib.hid hE2
      have HP2 := Lib.hid hP2
      have Hs2 := Lib.hid hs2
      have FIN : Hid (∀ v2 W2, W2.ownsRow V0.heap.size 45 3 v2 (n + 1) (opCells (l ++ [⟨q.c, q.n, q.m⟩])) → (W1.alloc (.cells #[.int .i64 q.c, .int .i64 q.n, .int .i64 q.m] 45)).grownBy W2 (some g) → OddP w n (.returned v2) W2) := Lib.hid (fun v2 W2 ho hg => by
        obtain ⟨ra, rc, rfl, r1, r2, hR⟩ := own_pra (n := n + 1) (by rw [List.length_append, Hn.out]; rfl) ho
        exact ⟨ra, n + 1, rc, _, rfl, by rw [List.length_append, Hn.out]; rfl, Nat.le_refl _, r1, r2, hR, gBo (bt hBW.out b2) hg (fun q e => by injection e with e; omega)⟩)
      clear hE2 hP2 hs2 b2
      go_wp2_with (at_builtin; refine wpList_ops (l := l) (l2 := [⟨q.c, q.n, q.m⟩]) (n := n) (m := 1) V0.heap.size rfl _ _ rfl rfl rfl Hn.out rfl HE2.out HP2.out (by omega) (by omega) Hs2.out ?_; intro v2 W2 ho3 hg3)
      go_ret
      exact FIN.out _ _ ho3 hg3
    · rw [hk]
      have P : Hid (OddP w n (.returned (.slice (some ⟨g, 0, none⟩) i qc)) W1) := Lib.hid ⟨_, i, qc, l.take i, rfl, by rw [List.length_take, Hn.out]; omega, by omega, by omega, q2, pra_take HQ.out i, hBW.out⟩
      go_wp2_with fail
      go_ret
      exact P.out
    · rw [hk]
      have P : Hid (OddP w n (.returned (.slice (some ⟨g, 0, none⟩) n qc)) (((W1.setCell ⟨g, i * 3, none⟩ (.int .i64 15)).setCell ⟨g, i * 3 + 1, none⟩ (.int .i64 t)).setCell ⟨g, i * 3 + 2, none⟩ (.int .i64 ((n : Int) - 1 - i)))) := Lib.hid (odd_end (by rw [List.length_set, Hn.out]) q1 q2 (pra_one (q' := ⟨15, t, (n : Int) - 1 - i⟩) HQ.out hil.out (by simp) (fun o ho => by rw [set_at _ (by omega), set_at _ (by omega), set_at _ (by omega)])
        (by rw [set_at _ (by omega), set_at _ (by omega)]; exact World.cell?_setCell_same _ _ _ k0) (by rw [set_at _ (by omega)]; exact World.cell?_setCell_same _ _ _ (by rw [set_at _ (by omega)]; exact k1)) (World.cell?_setCell_same _ _ _ (by rw [set_at _ (by omega), set_at _ (by omega)]; exact k2))) (bs (bs (bs hBW.out hgw _) hgw _) hgw _))
      go_wp2_with fail
      go_ret
      exact P.out
end Go.Proofs.Ytdgagjcocohnnaa.Mc
