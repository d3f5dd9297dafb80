/-
  The walk of the law ExactUnits, up to the first two tests.
-/
import Derived.Test.YtijpkacjbnijoaaExP
import Derived.Test.YtijpkacjbnijoaaExEq
import Derived.Lib.QuietBelow
import Derived.BigQuiet
namespace Go.Proofs.Ytijpkacjbnijoaa.Ex
open Go.RowKit Go.Sort

set_option maxRecDepth 100000 in
set_option maxHeartbeats 4000000 in
theorem units_walk (n d m e p q a b su sv mu mv tu tv zu zv : Int) (vB sB mB F G : Bool)
    (L : Hid (∀ w, Calls Try.prog 24 #[.agg #[.int .i64 n, .int .i64 d]] w fun en w' => en = .returned (.tuple #[.agg #[.int .i64 a, .int .i64 b], .bool vB]) ∧ Below w.heap.size w w'))
    (S0 : Hid (∀ w, Calls Try.prog 20 #[.agg #[.int .i64 n, .int .i64 d], .agg #[.int .i64 0, .int .i64 5]] w fun en w' => en = .returned (.tuple #[.agg #[.int .i64 a, .int .i64 b], .bool vB]) ∧ Below w.heap.size w w'))
    (M0 : Hid (∀ w, Calls Try.prog 22 #[.agg #[.int .i64 3, .int .i64 3], .agg #[.int .i64 n, .int .i64 d]] w fun en w' => en = .returned (.tuple #[.agg #[.int .i64 a, .int .i64 b], .bool vB]) ∧ Below w.heap.size w w'))
    (S1 : Hid (∀ w, Calls Try.prog 20 #[.agg #[.int .i64 n, .int .i64 d], .agg #[.int .i64 m, .int .i64 e]] w fun en w' => en = .returned (.tuple #[.agg #[.int .i64 su, .int .i64 sv], .bool sB]) ∧ Below w.heap.size w w'))
    (S2 : Hid (∀ w, Calls Try.prog 20 #[.agg #[.int .i64 m, .int .i64 e], .agg #[.int .i64 n, .int .i64 d]] w fun en w' => en = .returned (.tuple #[.agg #[.int .i64 su, .int .i64 sv], .bool sB]) ∧ Below w.heap.size w w'))
    (M1 : Hid (∀ w, Calls Try.prog 22 #[.agg #[.int .i64 n, .int .i64 d], .agg #[.int .i64 m, .int .i64 e]] w fun en w' => en = .returned (.tuple #[.agg #[.int .i64 mu, .int .i64 mv], .bool mB]) ∧ Below w.heap.size w w'))
    (M2 : Hid (∀ w, Calls Try.prog 22 #[.agg #[.int .i64 m, .int .i64 e], .agg #[.int .i64 n, .int .i64 d]] w fun en w' => en = .returned (.tuple #[.agg #[.int .i64 mu, .int .i64 mv], .bool mB]) ∧ Below w.heap.size w w'))
    (SI : Hid (∀ w, Calls Try.prog 20 #[.agg #[.int .i64 p, .int .i64 1], .agg #[.int .i64 q, .int .i64 1]] w fun en w' => en = .returned (.tuple #[.agg #[.int .i64 tu, .int .i64 tv], .bool F]) ∧ Below w.heap.size w w'))
    (MI : Hid (∀ w, Calls Try.prog 22 #[.agg #[.int .i64 p, .int .i64 1], .agg #[.int .i64 q, .int .i64 1]] w fun en w' => en = .returned (.tuple #[.agg #[.int .i64 zu, .int .i64 zv], .bool G]) ∧ Below w.heap.size w w'))
    (MD : Hid (∀ w, Calls Try.prog 14 #[.int .i64 p, .int .i64 q, .int .i64 1] w fun en w' => en = .returned (.tuple #[.int .i64 zu, .bool G]) ∧ Below w.heap.size w w'))
    (hv : vB = decide (1 ≤ d)) (hs : sB = true → 1 ≤ d ∧ 1 ≤ e)
    (hp : -9223372036854775808 ≤ p ∧ p ≤ 9223372036854775807) (hq : -9223372036854775808 ≤ q ∧ q ≤ 9223372036854775807)
    (f1 : F = true → tu = p + q ∧ tv = 1 ∧ -9223372036854775808 ≤ p + q ∧ p + q ≤ 9223372036854775807) (f0 : F = false → tu = 0 ∧ tv = 0 ∧ (p + q < -9223372036854775808 ∨ 9223372036854775807 < p + q))
    (g1 : G = true → zv = 1) (g0 : G = false → zu = 0 ∧ zv = 0) (w : World) :
    Calls Try.prog 8 #[.agg #[.int .i64 n, .int .i64 d], .agg #[.int .i64 m, .int .i64 e], .agg #[.int .i64 p, .int .i64 q]] w fun en w' => en = .returned (.bool true) ∧ Below w.heap.size w w' := by
  have S := Lib.hid sanity_any
  have O := Lib.hid of_agg
  have HV := Lib.hid hv
  have HS := Lib.hid hs
  have F1 := Lib.hid f1
  have F0 := Lib.hid f0
  have G1 := Lib.hid g1
  have G0 := Lib.hid g0
  obtain ⟨hp0, hp1⟩ := hp
  obtain ⟨hq0, hq1⟩ := hq
  clear hv hs f1 f0 g1 g0
  go_enter Try.func8, Try.ntmps8
  go_wp2_with fail
  refine (S.out _).mono ?_
  rintro en w1 ⟨rfl, hb⟩
  have xn := kc hb (b := w.heap.size) (o := 0) (v := .int .i64 n) (by go_cell)
  have xd := kc hb (b := w.heap.size) (o := 1) (v := .int .i64 d) (by go_cell)
  have yn := kc hb (b := w.heap.size + 1) (o := 0) (v := .int .i64 m) (by go_cell)
  have yd := kc hb (b := w.heap.size + 1) (o := 1) (v := .int .i64 e) (by go_cell)
  have lp := kc hb (b := w.heap.size + 1 + 1) (o := 0) (v := .int .i64 p) (by go_cell)
  have lq := kc hb (b := w.heap.size + 1 + 1) (o := 1) (v := .int .i64 q) (by go_cell)
  have hB : Below w.heap.size w w1 := bt (ba (ba (ba (Below.refl _ _) _) _) _) hb
  clear hb
  go_wp2_with fail
  go_quiet (fail)
  replace hB := bd hB nq
  obtain ⟨w2, hw2⟩ : ∃ w2 : World, w2 = w1.drewN nq := ⟨_, rfl⟩
  replace xn : w2.cell? ⟨w.heap.size, 0, none⟩ = some (.int .i64 n) := by rw [hw2]; exact xn
  replace xd : w2.cell? ⟨w.heap.size, 1, none⟩ = some (.int .i64 d) := by rw [hw2]; exact xd
  replace yn : w2.cell? ⟨w.heap.size + 1, 0, none⟩ = some (.int .i64 m) := by rw [hw2]; exact yn
  replace yd : w2.cell? ⟨w.heap.size + 1, 1, none⟩ = some (.int .i64 e) := by rw [hw2]; exact yd
  replace lp : w2.cell? ⟨w.heap.size + 1 + 1, 0, none⟩ = some (.int .i64 p) := by rw [hw2]; exact lp
  replace lq : w2.cell? ⟨w.heap.size + 1 + 1, 1, none⟩ = some (.int .i64 q) := by rw [hw2]; exact lq
  rw [← hw2] at hB ⊢
  clear hw2
  go_wp2_with fail
  refine (L.out _).mono ?_
  rintro en w3 ⟨rfl, hb⟩
  replace xn := kc hb xn
  replace xd := kc hb xd
  replace yn := kc hb yn
  replace yd := kc hb yd
  replace lp := kc hb lp
  replace lq := kc hb lq
  replace hB := bt hB hb
  clear hb
  go_upto_region 4 with (fail)
  obtain ⟨w4, hw4⟩ : ∃ w4 : World, w4 = w3.alloc (.cells #[.int .i64 a, .int .i64 b] 33) := ⟨_, rfl⟩
  have k0 : w4.cell? ⟨w3.heap.size, 0, none⟩ = some (.int .i64 a) := by rw [hw4]; go_cell
  have k1 : w4.cell? ⟨w3.heap.size, 1, none⟩ = some (.int .i64 b) := by rw [hw4]; go_cell
  replace xn : w4.cell? ⟨w.heap.size, 0, none⟩ = some (.int .i64 n) := by rw [hw4]; exact kc (ba (Below.refl _ _) _) xn
  replace xd : w4.cell? ⟨w.heap.size, 1, none⟩ = some (.int .i64 d) := by rw [hw4]; exact kc (ba (Below.refl _ _) _) xd
  replace yn : w4.cell? ⟨w.heap.size + 1, 0, none⟩ = some (.int .i64 m) := by rw [hw4]; exact kc (ba (Below.refl _ _) _) yn
  replace yd : w4.cell? ⟨w.heap.size + 1, 1, none⟩ = some (.int .i64 e) := by rw [hw4]; exact kc (ba (Below.refl _ _) _) yd
  replace lp : w4.cell? ⟨w.heap.size + 1 + 1, 0, none⟩ = some (.int .i64 p) := by rw [hw4]; exact kc (ba (Below.refl _ _) _) lp
  replace lq : w4.cell? ⟨w.heap.size + 1 + 1, 1, none⟩ = some (.int .i64 q) := by rw [hw4]; exact kc (ba (Below.refl _ _) _) lq
  replace hB : Below w.heap.size w w4 := by rw [hw4]; exact ba hB _
  rw [← hw4]
  clear hw4
  generalize w3.heap.size = b10 at *
  go_cut [12, 13] (fun s t wx => ∃ b' : Nat, s = .pointer (some ⟨b', 0, none⟩) ∧ t = .bool vB ∧ wx.cell? ⟨b', 0, none⟩ = some (.int .i64 a) ∧ wx.cell? ⟨b', 1, none⟩ = some (.int .i64 b) ∧ Below w4.heap.size w4 wx)
  case first => as_aux_lemma =>
    have A3 : ∀ w', Below w4.heap.size w4 w' → w'.cell? ⟨w.heap.size, 0, none⟩ = some (.int .i64 n) := fun _ h => kc h xn
    have B3 : ∀ w', Below w4.heap.size w4 w' → w'.cell? ⟨w.heap.size, 1, none⟩ = some (.int .i64 d) := fun _ h => kc h xd
    clear hB
    go_region_held3 (fun w' => Below w4.heap.size w4 w') (first
      | (with_reducible exact bd1 (Below.refl _ _))
      | (with_reducible exact bd1 (ba (Below.refl _ _) _))
      | (with_reducible exact bt (by assumption) hba)
      | (with_reducible exact ba (by assumption) _)
      | (with_reducible exact bs (bs (by assumption) (Nat.le_refl _) _) (Nat.le_refl _) _)
      | (with_reducible exact bs (bs (by assumption) (Below.size (by assumption)) _) (Below.size (by assumption)) _))
      (first
      | ((with_reducible refine (O.out 0 5 _).mono ?_); rintro en wa ⟨rfl, hba⟩; have hqa : Below w4.heap.size w4 wa := bt (by assumption) hba; obtain ⟨hcc, hff⟩ := bcell hba; have hz := hba.size; (try simp at hz); (try have hz2 := Nat.lt_of_lt_of_le (Nat.lt_succ_self _) hz); (try have hz3 : w4.heap.size < wa.heap.size := by omega))
      | ((with_reducible refine (S0.out _).mono ?_); rintro en wa ⟨rfl, hba⟩; have hqa : Below w4.heap.size w4 wa := bt (by assumption) hba; obtain ⟨hcc, hff⟩ := bcell hba; have hz := hba.size; (try simp at hz); (try have hz2 := Nat.lt_of_lt_of_le (Nat.lt_succ_self _) hz); (try have hz3 : w4.heap.size < wa.heap.size := by omega))
      )
    all_goals (go_wp2_with fail; go_meet; exact ⟨_, rfl, rfl, by go_simp, by go_simp, by with_reducible assumption⟩)
  case rest => as_aux_lemma =>
  obtain ⟨b12, rfl, rfl, b12x, b12y, hb⟩ := hcut
  obtain ⟨w5, rfl⟩ : ∃ w5 : World, w5 = wc := ⟨_, rfl⟩
  replace xn := kc hb xn
  replace xd := kc hb xd
  replace yn := kc hb yn
  replace yd := kc hb yd
  replace lp := kc hb lp
  replace lq := kc hb lq
  replace k0 := kc hb k0
  replace k1 := kc hb k1
  replace hB := bt hB hb
  clear hb
  go_upto_region 5 with (fail)
  go_cut [14, 15] (fun s t wx => ∃ b' : Nat, s = .pointer (some ⟨b', 0, none⟩) ∧ t = .bool vB ∧ wx.cell? ⟨b', 0, none⟩ = some (.int .i64 a) ∧ wx.cell? ⟨b', 1, none⟩ = some (.int .i64 b) ∧ Below w5.heap.size w5 wx)
  case first => as_aux_lemma =>
    have A3 : ∀ w', Below w5.heap.size w5 w' → w'.cell? ⟨w.heap.size, 0, none⟩ = some (.int .i64 n) := fun _ h => kc h xn
    have B3 : ∀ w', Below w5.heap.size w5 w' → w'.cell? ⟨w.heap.size, 1, none⟩ = some (.int .i64 d) := fun _ h => kc h xd
    clear hB
    go_region_held3 (fun w' => Below w5.heap.size w5 w') (first
      | (with_reducible exact bd1 (Below.refl _ _))
      | (with_reducible exact bd1 (ba (Below.refl _ _) _))
      | (with_reducible exact bt (by assumption) hba)
      | (with_reducible exact ba (by assumption) _)
      | (with_reducible exact bs (bs (by assumption) (Nat.le_refl _) _) (Nat.le_refl _) _)
      | (with_reducible exact bs (bs (by assumption) (Below.size (by assumption)) _) (Below.size (by assumption)) _))
      (first
      | ((with_reducible refine (O.out 3 3 _).mono ?_); rintro en wa ⟨rfl, hba⟩; have hqa : Below w5.heap.size w5 wa := bt (by assumption) hba; obtain ⟨hcc, hff⟩ := bcell hba; have hz := hba.size; (try simp at hz); (try have hz2 := Nat.lt_of_lt_of_le (Nat.lt_succ_self _) hz); (try have hz3 : w5.heap.size < wa.heap.size := by omega))
      | ((with_reducible refine (M0.out _).mono ?_); rintro en wa ⟨rfl, hba⟩; have hqa : Below w5.heap.size w5 wa := bt (by assumption) hba; obtain ⟨hcc, hff⟩ := bcell hba; have hz := hba.size; (try simp at hz); (try have hz2 := Nat.lt_of_lt_of_le (Nat.lt_succ_self _) hz); (try have hz3 : w5.heap.size < wa.heap.size := by omega))
      )
    all_goals (go_wp2_with fail; go_meet; exact ⟨_, rfl, rfl, by go_simp, by go_simp, by with_reducible assumption⟩)
  case rest => as_aux_lemma =>
  obtain ⟨b14, rfl, rfl, b14x, b14y, hb⟩ := hcut
  obtain ⟨w6, rfl⟩ : ∃ w6 : World, w6 = wc := ⟨_, rfl⟩
  replace xn := kc hb xn
  replace xd := kc hb xd
  replace yn := kc hb yn
  replace yd := kc hb yd
  replace lp := kc hb lp
  replace lq := kc hb lq
  replace k0 := kc hb k0
  replace k1 := kc hb k1
  replace b12x := kc hb b12x
  replace b12y := kc hb b12y
  replace hB := bt hB hb
  clear hb
  go_upto_region 6 with (fail)
  go_cut [77] (fun s wx => s = .bool false ∧ w6 = wx)
  case first => as_aux_lemma =>
    clear hB
    have hv := HV.out
    cases vB
    · have hd : decide (1 ≤ d) = false := hv.symm
      clear hv
      go_wp2_with fail
      go_meet
      exact ⟨rfl, rfl⟩
    · have hd : 1 ≤ d := of_decide_eq_true hv.symm
      clear hv
      go_wp2_with fail
      go_meet
      exact ⟨rfl, rfl⟩
  case rest => as_aux_lemma =>
  obtain ⟨rfl, rfl⟩ := hcut
  clear k0 k1 b12x b12y b14x b14y
  go_wp2_with fail
  refine (S1.out _).mono ?_
  rintro en w7 ⟨rfl, hb⟩
  replace xn := kc hb xn
  replace xd := kc hb xd
  replace yn := kc hb yn
  replace yd := kc hb yd
  replace lp := kc hb lp
  replace lq := kc hb lq
  replace hB := bt hB hb
  clear hb
  have la7 : w.heap.size < w7.heap.size := block_lt_of_cell xn
  have lb7 : w.heap.size + 1 < w7.heap.size := block_lt_of_cell yn
  have lc7 : w.heap.size + 1 + 1 < w7.heap.size := block_lt_of_cell lp
  go_wp2_with fail
  refine (S2.out _).mono ?_
  rintro en w8 ⟨rfl, hb⟩
  replace xn := kc hb (kc (ba (Below.refl _ _) _) xn)
  replace xd := kc hb (kc (ba (Below.refl _ _) _) xd)
  replace yn := kc hb (kc (ba (Below.refl _ _) _) yn)
  replace yd := kc hb (kc (ba (Below.refl _ _) _) yd)
  replace lp := kc hb (kc (ba (Below.refl _ _) _) lp)
  replace lq := kc hb (kc (ba (Below.refl _ _) _) lq)
  have c0 := kc hb (b := w7.heap.size) (o := 0) (v := .int .i64 su) (by go_cell)
  have c1 := kc hb (b := w7.heap.size) (o := 1) (v := .int .i64 sv) (by go_cell)
  replace hB := bt (ba hB _) hb
  clear hb
  clear la7 lb7 lc7
  generalize w7.heap.size = b16 at *
  have la8 : w.heap.size < w8.heap.size := block_lt_of_cell xn
  have lb8 : w.heap.size + 1 < w8.heap.size := block_lt_of_cell yn
  have lc8 : w.heap.size + 1 + 1 < w8.heap.size := block_lt_of_cell lp
  have lc08 : b16 < w8.heap.size := block_lt_of_cell c0
  go_wp2_with fail
  refine (M1.out _).mono ?_
  rintro en w9 ⟨rfl, hb⟩
  replace xn := kc hb (kc (ba (Below.refl _ _) _) xn)
  replace xd := kc hb (kc (ba (Below.refl _ _) _) xd)
  replace yn := kc hb (kc (ba (Below.refl _ _) _) yn)
  replace yd := kc hb (kc (ba (Below.refl _ _) _) yd)
  replace lp := kc hb (kc (ba (Below.refl _ _) _) lp)
  replace lq := kc hb (kc (ba (Below.refl _ _) _) lq)
  replace c0 := kc hb (kc (ba (Below.refl _ _) _) c0)
  replace c1 := kc hb (kc (ba (Below.refl _ _) _) c1)
  have d0 := kc hb (b := w8.heap.size) (o := 0) (v := .int .i64 su) (by go_cell)
  have d1 := kc hb (b := w8.heap.size) (o := 1) (v := .int .i64 sv) (by go_cell)
  replace hB := bt (ba hB _) hb
  clear hb
  clear la8 lb8 lc8 lc08
  generalize w8.heap.size = b18 at *
  have la9 : w.heap.size < w9.heap.size := block_lt_of_cell xn
  have lb9 : w.heap.size + 1 < w9.heap.size := block_lt_of_cell yn
  have lc9 : w.heap.size + 1 + 1 < w9.heap.size := block_lt_of_cell lp
  have lc09 : b16 < w9.heap.size := block_lt_of_cell c0
  have ld09 : b18 < w9.heap.size := block_lt_of_cell d0
  go_wp2_with fail
  refine (M2.out _).mono ?_
  rintro en w10 ⟨rfl, hb⟩
  replace xn := kc hb (kc (ba (Below.refl _ _) _) xn)
  replace xd := kc hb (kc (ba (Below.refl _ _) _) xd)
  replace yn := kc hb (kc (ba (Below.refl _ _) _) yn)
  replace yd := kc hb (kc (ba (Below.refl _ _) _) yd)
  replace lp := kc hb (kc (ba (Below.refl _ _) _) lp)
  replace lq := kc hb (kc (ba (Below.refl _ _) _) lq)
  replace c0 := kc hb (kc (ba (Below.refl _ _) _) c0)
  replace c1 := kc hb (kc (ba (Below.refl _ _) _) c1)
  replace d0 := kc hb (kc (ba (Below.refl _ _) _) d0)
  replace d1 := kc hb (kc (ba (Below.refl _ _) _) d1)
  have e0 := kc hb (b := w9.heap.size) (o := 0) (v := .int .i64 mu) (by go_cell)
  have e1 := kc hb (b := w9.heap.size) (o := 1) (v := .int .i64 mv) (by go_cell)
  replace hB := bt (ba hB _) hb
  clear hb
  clear la9 lb9 lc9 lc09 ld09
  generalize w9.heap.size = b20 at *
  have la10 : w.heap.size < w10.heap.size := block_lt_of_cell xn
  have lb10 : w.heap.size + 1 < w10.heap.size := block_lt_of_cell yn
  have lc10 : w.heap.size + 1 + 1 < w10.heap.size := block_lt_of_cell lp
  have lc010 : b16 < w10.heap.size := block_lt_of_cell c0
  have ld010 : b18 < w10.heap.size := block_lt_of_cell d0
  have le010 : b20 < w10.heap.size := block_lt_of_cell e0
  go_upto_region 12 with (fail)
  obtain ⟨w11, hw11⟩ : ∃ w11 : World, w11 = w10.alloc (.cells #[.int .i64 mu, .int .i64 mv] 33) := ⟨_, rfl⟩
  have g0 : w11.cell? ⟨w10.heap.size, 0, none⟩ = some (.int .i64 mu) := by rw [hw11]; go_cell
  have g1 : w11.cell? ⟨w10.heap.size, 1, none⟩ = some (.int .i64 mv) := by rw [hw11]; go_cell
  replace xn : w11.cell? ⟨w.heap.size, 0, none⟩ = some (.int .i64 n) := by rw [hw11]; exact kc (ba (Below.refl _ _) _) xn
  replace xd : w11.cell? ⟨w.heap.size, 1, none⟩ = some (.int .i64 d) := by rw [hw11]; exact kc (ba (Below.refl _ _) _) xd
  replace yn : w11.cell? ⟨w.heap.size + 1, 0, none⟩ = some (.int .i64 m) := by rw [hw11]; exact kc (ba (Below.refl _ _) _) yn
  replace yd : w11.cell? ⟨w.heap.size + 1, 1, none⟩ = some (.int .i64 e) := by rw [hw11]; exact kc (ba (Below.refl _ _) _) yd
  replace lp : w11.cell? ⟨w.heap.size + 1 + 1, 0, none⟩ = some (.int .i64 p) := by rw [hw11]; exact kc (ba (Below.refl _ _) _) lp
  replace lq : w11.cell? ⟨w.heap.size + 1 + 1, 1, none⟩ = some (.int .i64 q) := by rw [hw11]; exact kc (ba (Below.refl _ _) _) lq
  replace c0 : w11.cell? ⟨b16, 0, none⟩ = some (.int .i64 su) := by rw [hw11]; exact kc (ba (Below.refl _ _) _) c0
  replace c1 : w11.cell? ⟨b16, 1, none⟩ = some (.int .i64 sv) := by rw [hw11]; exact kc (ba (Below.refl _ _) _) c1
  replace d0 : w11.cell? ⟨b18, 0, none⟩ = some (.int .i64 su) := by rw [hw11]; exact kc (ba (Below.refl _ _) _) d0
  replace d1 : w11.cell? ⟨b18, 1, none⟩ = some (.int .i64 sv) := by rw [hw11]; exact kc (ba (Below.refl _ _) _) d1
  replace e0 : w11.cell? ⟨b20, 0, none⟩ = some (.int .i64 mu) := by rw [hw11]; exact kc (ba (Below.refl _ _) _) e0
  replace e1 : w11.cell? ⟨b20, 1, none⟩ = some (.int .i64 mv) := by rw [hw11]; exact kc (ba (Below.refl _ _) _) e1
  replace hB : Below w.heap.size w w11 := by rw [hw11]; exact ba hB _
  rw [← hw11]
  clear hw11
  clear la10 lb10 lc10 lc010 ld010 le010
  generalize w10.heap.size = b22 at *
  go_cut [132] (fun s wx => s = .bool false ∧ w11 = wx)
  case first => as_aux_lemma =>
    clear hB
    have hs := HS.out
    cases sB
    · clear hs
      go_wp2_with fail
      go_meet
      exact ⟨rfl, rfl⟩
    · obtain ⟨hd', he'⟩ := hs rfl
      have hd : decide (d < 1) = false := decide_eq_false (by omega)
      have he : decide (e < 1) = false := decide_eq_false (by omega)
      clear hs hd' he'
      go_wp2_with fail
      go_meet
      exact ⟨rfl, rfl⟩
  case rest => as_aux_lemma =>
  obtain ⟨rfl, rfl⟩ := hcut
  clear xn xd yn yd c0 c1 d0 d1 e0 e1 g0 g1
  go_upto_region 14 with (fail)
  go_cut [24] (fun s wx => s = .bool F ∧ w11 = wx)
  case first => as_aux_lemma =>
    clear hB lp lq
    have f1 := F1.out
    have f0 := F0.out
    cases F
    · obtain ⟨_, _, h⟩ := f0 rfl
      clear f0 f1
      rcases Int.lt_or_le q 0 with hq | hq
      · have h2 : decide (-9223372036854775808 - q ≤ p) = false := decide_eq_false (by omega)
        clear h
        go_wp2_with fail
        go_meet
        exact ⟨rfl, rfl⟩
      · have h2 : decide (p ≤ 9223372036854775807 - q) = false := decide_eq_false (by omega)
        clear h
        go_wp2_with fail
        go_meet
        exact ⟨rfl, rfl⟩
    · obtain ⟨_, _, h3, h4⟩ := f1 rfl
      clear f0 f1
      rcases Int.lt_or_le q 0 with hq | hq
      · have h2 : -9223372036854775808 - q ≤ p := by omega
        clear h3 h4
        go_wp2_with fail
        go_meet
        exact ⟨rfl, rfl⟩
      · have h2 : p ≤ 9223372036854775807 - q := by omega
        clear h3 h4
        go_wp2_with fail
        go_meet
        exact ⟨rfl, rfl⟩
  case rest => as_aux_lemma =>
  obtain ⟨rfl, rfl⟩ := hcut
  go_wp2_with fail
  refine (O.out p 1 _).mono ?_
  rintro en w12 ⟨rfl, hb⟩
  replace hB := bt hB hb
  clear hb
  go_wp2_with fail
  refine (O.out q 1 _).mono ?_
  rintro en w13 ⟨rfl, hb⟩
  replace hB := bt hB hb
  clear hb
  go_wp2_with fail
  refine (SI.out _).mono ?_
  rintro en w14 ⟨rfl, hb⟩
  replace hB := bt hB hb
  clear hb lp lq
  go_wp2_with fail
  refine (O.out p 1 _).mono ?_
  rintro en w15 ⟨rfl, hb⟩
  have c0 := kc hb (b := w14.heap.size) (o := 0) (v := .int .i64 tu) (by go_cell)
  have c1 := kc hb (b := w14.heap.size) (o := 1) (v := .int .i64 tv) (by go_cell)
  replace hB := bt (ba hB _) hb
  clear hb
  generalize w14.heap.size = b25 at *
  go_wp2_with fail
  refine (O.out q 1 _).mono ?_
  rintro en w16 ⟨rfl, hb⟩
  replace c0 := kc hb c0
  replace c1 := kc hb c1
  replace hB := bt hB hb
  clear hb
  go_wp2_with fail
  refine (MI.out _).mono ?_
  rintro en w17 ⟨rfl, hb⟩
  replace c0 := kc hb c0
  replace c1 := kc hb c1
  replace hB := bt hB hb
  clear hb
  go_wp2_with fail
  refine (MD.out _).mono ?_
  rintro en w18 ⟨rfl, hb⟩
  replace c0 := kc hb (kc (ba (Below.refl _ _) _) c0)
  replace c1 := kc hb (kc (ba (Below.refl _ _) _) c1)
  have d0 := kc hb (b := w17.heap.size) (o := 0) (v := .int .i64 zu) (by go_cell)
  have d1 := kc hb (b := w17.heap.size) (o := 1) (v := .int .i64 zv) (by go_cell)
  replace hB := bt (ba hB _) hb
  clear hb
  generalize w17.heap.size = b27 at *
  go_upto_region 18 with (fail)
  go_cut [195] (fun s wx => s = .bool false ∧ Below w18.heap.size w18 wx)
  case first => as_aux_lemma =>
    clear hB d0 d1
    have c0' := cell_regrown c0
    have c1' := cell_regrown c1
    clear c0 c1
    have f1 := F1.out
    have f0 := F0.out
    cases F
    · obtain ⟨h1, h2, _⟩ := f0 rfl
      subst h1 h2
      clear f0 f1
      refine wp_region_quiet_below (by kernel_rfl) (by kernel_rfl) ?_
      repeat (go_big_quiet_step ((with_reducible exact Calls.regrown_of (O.out _ _ _))))
      refine wpQuiet_nil ?_
      intro _ hw'
      obtain ⟨⟨dq, osq⟩, hw''⟩ := hw'
      subst hw''
      go_wp2_with fail
      go_meet
      exact ⟨rfl, below_regrown w18 dq osq⟩
    · obtain ⟨h1, h2, h3, h4⟩ := f1 rfl
      subst h1 h2
      have hw : IntKind.i64.wrap (p + q) = p + q := IntWalk.i64_in _ ⟨h3, h4⟩
      have hw2 : wrap64 (p + q) = p + q := IntWalk.wrap64_in _ ⟨h3, h4⟩
      clear f0 f1
      refine wp_region_quiet_below (by kernel_rfl) (by kernel_rfl) ?_
      repeat (go_big_quiet_step ((with_reducible exact Calls.regrown_of (O.out _ _ _))))
      refine wpQuiet_nil ?_
      intro _ hw'
      obtain ⟨⟨dq, osq⟩, hw''⟩ := hw'
      subst hw''
      go_wp2_with fail
      go_meet
      exact ⟨rfl, below_regrown w18 dq osq⟩
  case rest => as_aux_lemma =>
  obtain ⟨rfl, hb⟩ := hcut
  obtain ⟨w19, rfl⟩ : ∃ w19 : World, w19 = wc := ⟨_, rfl⟩
  replace d0 := kc hb d0
  replace d1 := kc hb d1
  replace hB := bt hB hb
  clear hb c0 c1
  go_upto_region 20 with (fail)
  have d0' := cell_regrown d0
  have d1' := cell_regrown d1
  have g1 := G1.out
  have g0 := G0.out
  clear F1 F0 d0 d1
  cases G
  · obtain ⟨h1, h2⟩ := g0 rfl
    subst h1 h2
    clear g0 g1
    refine wp_region_quiet_below (by kernel_rfl) (by kernel_rfl) ?_
    repeat (go_big_quiet_step ((with_reducible exact Calls.regrown_of (O.out _ _ _))))
    refine wpQuiet_nil ?_
    intro _ hw'
    obtain ⟨⟨dq, osq⟩, hw''⟩ := hw'
    subst hw''
    go_wp2
    go_ret
    exact ⟨rfl, bt hB (below_regrown w19 dq osq)⟩
  · have h1 := g1 rfl
    subst h1
    clear g0 g1
    refine wp_region_quiet_below (by kernel_rfl) (by kernel_rfl) ?_
    repeat (go_big_quiet_step ((with_reducible exact Calls.regrown_of (O.out _ _ _))))
    refine wpQuiet_nil ?_
    intro _ hw'
    obtain ⟨⟨dq, osq⟩, hw''⟩ := hw'
    subst hw''
    go_wp2
    go_ret
    exact ⟨rfl, bt hB (below_regrown w19 dq osq)⟩

end Go.Proofs.Ytijpkacjbnijoaa.Ex
