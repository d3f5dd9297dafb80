/-
  Layer 3 (digest): the examples of the chapter.
-/
import Derived.Test.YtflpemagbempaaaDgT
namespace Go.Proofs.Ytflpemagbempaaa.Dg
open Go.RowKit
theorem s_one : D ⟨#[]⟩ = ⟨#[0, 0, 0, 41, 0, 0, 0, 43]⟩ := by decide
theorem s_zero : D ⟨#[0]⟩ = ⟨#[0, 25, 8, 127, 0, 26, 178, 253]⟩ := by decide
theorem s_chain : D ⟨#[99, 0, 0, 0, 0]⟩ = B (chain ⟨#[]⟩ ⟨#[]⟩) := by decide
theorem s_mark : D ⟨#[109, 0, 0, 0, 1, 107, 109, 107]⟩ = B (mark ⟨#[107]⟩ ⟨#[109]⟩) := by decide
abbrev A1 : ByteArray := ⟨#[97]⟩
abbrev A2 : ByteArray := ⟨#[98]⟩
abbrev A3 : ByteArray := ⟨#[99]⟩
theorem s_la : D ⟨#[108, 97]⟩ = B (leaf A1) := rfl
theorem s_lb : D ⟨#[108, 98]⟩ = B (leaf A2) := rfl
theorem nils_at (w : World) : StrsAt w none [] := fun i x h => by simp at h
theorem ht0 : ht 0 = 0 := by decide
theorem ht1 : ht 1 = 0 := by decide
theorem ht2 : ht 2 = 1 := by decide
theorem ht3 : ht 3 = 2 := by decide
theorem root0 : lv (g0 []) (ht 0) 0 = rest := by rw [ht0]; rfl
theorem root1 : lv (g0 [A1]) (ht 1) 0 = leaf A1 := by rw [ht1]; rfl
theorem root2 : lv (g0 [A1, A2]) (ht 2) 0 = node (leaf A1) (leaf A2) := by rw [ht2]; rfl
theorem proof3 : pfl [A1, A2, A3] (ht 3) 2 = [B rest, B (node (leaf A1) (leaf A2))] := by rw [ht3]; rfl
theorem ck_yes : ck ⟨#[107]⟩ ⟨#[109]⟩ (B (mark ⟨#[107]⟩ ⟨#[109]⟩)) = true := by unfold ck; rw [decide_eq_true_iff]; exact ⟨by decide, rfl⟩
theorem ck_none (x : ByteArray) : ck ⟨#[]⟩ ⟨#[109]⟩ x = false := by unfold ck; rw [decide_eq_false_iff_not]; exact fun h => h.1 rfl
theorem vf_yes : vf (B (leaf A1)) A1 0 [] = true := by
  unfold vf; rw [decide_eq_true_iff]; refine ⟨⟨by decide, by decide, by decide⟩, ?_⟩
  rw [B_toList]; rfl
theorem vf_one : vf (B (leaf A1)) A1 1 [] = false := by
  unfold vf; rw [decide_eq_false_iff_not]; rintro ⟨⟨_, _, h⟩, _⟩; exact absurd h (by decide)
theorem same_rfl (l : List ByteArray) : decide (l = l) = true := decide_eq_true rfl
theorem sz3 : ∀ s ∈ [A1, A2, A3], s.size ≤ 100000 := by decide
theorem sz2 : ∀ s ∈ [A1, A2], s.size ≤ 100000 := by decide
theorem sz1 : ∀ s ∈ [A1], s.size ≤ 100000 := by decide
theorem str_beq (x : ByteArray) : (x.toList == x.toList) = true := beq_self_eq_true _
set_option maxRecDepth 100000 in
set_option maxHeartbeats 16000000 in
theorem sanity_any (w : World) : Calls Try.prog 10 #[] w fun e w' => e = .returned (.bool true) ∧ Below w.heap.size w w' := by
  have O1 := Lib.hid (Of_any ⟨#[]⟩ (by decide))
  have O2 := Lib.hid (Of_any ⟨#[0]⟩ (by decide))
  have O3 := Lib.hid (Chain_any ⟨#[]⟩ ⟨#[]⟩ (by decide) (by decide))
  have O4 := Lib.hid (Of_any ⟨#[99, 0, 0, 0, 0]⟩ (by decide))
  have O5 := Lib.hid (Mark_any ⟨#[107]⟩ ⟨#[109]⟩ (by decide) (by decide))
  have O6 := Lib.hid (Of_any ⟨#[109, 0, 0, 0, 1, 107, 109, 107]⟩ (by decide))
  have O7 := Lib.hid (Check_any ⟨#[107]⟩ ⟨#[109]⟩ (B (mark ⟨#[107]⟩ ⟨#[109]⟩)) (by decide) (by decide))
  have O8 := Lib.hid (Mark_any ⟨#[]⟩ ⟨#[109]⟩ (by decide) (by decide))
  have O9 := Lib.hid (Check_any ⟨#[]⟩ ⟨#[109]⟩ (B (mark ⟨#[]⟩ ⟨#[109]⟩)) (by decide) (by decide))
  have P1 := Lib.hid (Of_any ⟨#[108, 97]⟩ (by decide))
  have P2 := Lib.hid (Of_any ⟨#[108, 98]⟩ (by decide))
  have P3 := Lib.hid (Of_any ⟨#[118]⟩ (by decide))
  have R0 := Lib.hid (fun W => Root_any [] none 0 0 rfl (by omega) (by simp) W (nils_at W))
  have R1 := Lib.hid (fun W a (h : StrsAt W a [A1]) => Root_any [A1] a 1 1 rfl (by omega) sz1 W h)
  have R2 := Lib.hid (fun W a (h : StrsAt W a [A1, A2]) => Root_any [A1, A2] a 2 2 rfl (by omega) sz2 W h)
  have R3 := Lib.hid (fun W a (h : StrsAt W a [A1, A2, A3]) => Prove_any [A1, A2, A3] a 3 3 2 rfl (by omega) sz3 (by omega) W h)
  have N1 := Lib.hid (Of_any (⟨#[110]⟩ ++ B (leaf A1) ++ B (leaf A2)) (by rw [size_append, size_append, one_size, B_size, B_size]; decide))
  have V1 := Lib.hid (fun W => Verify_any (B (leaf A1)) A1 0 [] none 0 0 rfl (by omega) (by omega) (by decide) W (nils_at W))
  have V2 := Lib.hid (fun W => Verify_any (B (leaf A1)) A1 1 [] none 0 0 rfl (by omega) (by omega) (by decide) W (nils_at W))
  have SM := Lib.hid (fun W (a1 a2 : Option Addr) (c1 c2 : Nat) (h1 : StrsAt W a1 [B rest, B (node (leaf A1) (leaf A2))]) (h2 : StrsAt W a2 [B rest, B (node (leaf A1) (leaf A2))]) => rSame_any a1 a2 [B rest, B (node (leaf A1) (leaf A2))] [B rest, B (node (leaf A1) (leaf A2))] 2 2 c1 c2 rfl rfl W h1 h2 (by omega) (by omega))
  have c1 := fun w => run_string_add_sum (P := Try.prog) (w := w) ⟨#[110]⟩ (B (leaf A1)) (by rw [one_size, B_size]; decide)
  have c2 := fun w => run_string_add_sum (P := Try.prog) (w := w) (⟨#[110]⟩ ++ B (leaf A1)) (B (leaf A2)) (by rw [size_append, one_size, B_size, B_size]; decide)
  rw [s_one] at O1
  rw [s_zero] at O2
  rw [s_chain] at O4
  rw [s_mark] at O6
  rw [ck_yes] at O7
  rw [ck_none] at O9
  rw [s_la] at P1
  rw [s_lb] at P2
  rw [D_rest] at P3
  rw [root0] at R0
  rw [root1] at R1
  rw [root2] at R2
  rw [proof3, ht3] at R3
  rw [D_node] at N1
  rw [vf_yes] at V1
  rw [vf_one] at V2
  rw [same_rfl] at SM
  generalize B (chain ⟨#[]⟩ ⟨#[]⟩) = x1 at *
  generalize B (mark ⟨#[107]⟩ ⟨#[109]⟩) = x2 at *
  generalize B (mark ⟨#[]⟩ ⟨#[109]⟩) = x3 at *
  generalize B (leaf A1) = sa at *
  generalize B (leaf A2) = sb at *
  generalize B rest = sv at *
  generalize B (node (leaf A1) (leaf A2)) = sn at *
  have e1 := str_beq x1
  have e2 := str_beq x2
  have e3 := str_beq sa
  have e4 := str_beq sv
  have e5 := str_beq sn
  go_enter Try.func10, Try.ntmps10
  go_wp2_with fail
  refine (O1.out _).mono ?_
  rintro e w1 ⟨rfl, k1⟩
  replace k1 : Below w.heap.size w w1 := k1
  go_wp2_with fail
  refine (O2.out _).mono ?_
  rintro e w2 ⟨rfl, k2⟩
  replace k2 : Below w.heap.size w w2 := bt k1 k2
  clear k1
  go_wp2_with fail
  refine (O3.out _).mono ?_
  rintro e w3 ⟨rfl, k3⟩
  replace k3 : Below w.heap.size w w3 := bt k2 k3
  clear k2
  go_wp2_with fail
  refine (O4.out _).mono ?_
  rintro e w4 ⟨rfl, k4⟩
  replace k4 : Below w.heap.size w w4 := bt k3 k4
  clear k3
  go_wp2_with fail
  refine (O5.out _).mono ?_
  rintro e w5 ⟨rfl, k5⟩
  replace k5 : Below w.heap.size w w5 := bt k4 k5
  clear k4
  go_wp2_with fail
  refine (O6.out _).mono ?_
  rintro e w6 ⟨rfl, k6⟩
  replace k6 : Below w.heap.size w w6 := bt k5 k6
  clear k5
  go_wp2_with fail
  refine (O5.out _).mono ?_
  rintro e w7 ⟨rfl, k7⟩
  replace k7 : Below w.heap.size w w7 := bt k6 k7
  clear k6
  go_wp2_with fail
  refine (O7.out _).mono ?_
  rintro e w8 ⟨rfl, k8⟩
  replace k8 : Below w.heap.size w w8 := bt k7 k8
  clear k7
  go_wp2_with fail
  refine (O8.out _).mono ?_
  rintro e w9 ⟨rfl, k9⟩
  replace k9 : Below w.heap.size w w9 := bt k8 k9
  clear k8
  go_wp2_with fail
  refine (O9.out _).mono ?_
  rintro e w10 ⟨rfl, k10⟩
  replace k10 : Below w.heap.size w w10 := bt k9 k10
  clear k9
  go_wp2_with fail
  refine (P1.out _).mono ?_
  rintro e w11 ⟨rfl, k11⟩
  replace k11 : Below w.heap.size w w11 := bt k10 k11
  clear k10
  go_wp2_with fail
  refine (P2.out _).mono ?_
  rintro e w12 ⟨rfl, k12⟩
  replace k12 : Below w.heap.size w w12 := bt k11 k12
  clear k11
  go_wp2_with fail
  refine (P3.out _).mono ?_
  rintro e w13 ⟨rfl, k13⟩
  replace k13 : Below w.heap.size w w13 := bt k12 k13
  clear k12
  go_wp2_with fail
  refine (R0.out _).mono ?_
  rintro e w14 ⟨rfl, k14⟩
  replace k14 : Below w.heap.size w w14 := bt k13 k14
  clear k13
  go_wp2_with fail
  refine (R1.out _ _ (strs1 (by go_cell))).mono ?_
  rintro e w15 ⟨rfl, k15⟩
  replace k15 : Below w.heap.size w w15 := bt (ba k14 _) k15
  clear k14
  go_wp2_with fail
  refine (R2.out _ _ (strs2 (by go_cell) (by go_cell))).mono ?_
  rintro e w16 ⟨rfl, k16⟩
  replace k16 : Below w.heap.size w w16 := bt (ba k15 _) k16
  clear k15
  go_wp2_with fail
  refine (N1.out _).mono ?_
  rintro e w17 ⟨rfl, k17⟩
  replace k17 : Below w.heap.size w w17 := bt k16 k17
  clear k16
  clear O1 O2 O3 O4 O5 O6 O7 O8 O9 P1 P2 P3 R0 R1 R2
  go_wp2_with fail
  refine (R3.out _ _ (strs3 (by go_cell) (by go_cell) (by go_cell))).mono ?_
  rintro e w18 ⟨v, rfl, hown, k18⟩
  replace k18 : Below w.heap.size w w18 := bt (ba k17 _) k18
  obtain ⟨pa, pc, rfl, hp, _⟩ := row_bytes (l := [sv, sn]) rfl hown
  clear hown k17
  have HP := Lib.hid hp
  clear hp
  go_wp2_with fail
  refine (N1.out _).mono ?_
  rintro e w19 ⟨rfl, k19⟩
  have HP2 := Lib.hid (sat_below HP.out k19)
  replace k19 : Below w.heap.size w w19 := bt k18 k19
  clear k18 HP
  go_wp2_with fail
  refine (SM.out _ _ _ _ _ (sat_below HP2.out (ba (Below.refl _ _) _)) (strs2 (by go_cell) (by go_cell))).mono ?_
  rintro e w20 ⟨rfl, k20⟩
  replace k20 : Below w.heap.size w w20 := bt (ba k19 _) k20
  go_wp2_with fail
  refine (V1.out _).mono ?_
  rintro e w21 ⟨rfl, k21⟩
  replace k21 : Below w.heap.size w w21 := bt k20 k21
  go_wp2_with fail
  refine (V2.out _).mono ?_
  rintro e w22 ⟨rfl, k22⟩
  replace k22 : Below w.heap.size w w22 := bt k21 k22
  go_wp2_with fail
  go_ret
  exact ⟨rfl, k22⟩
end Go.Proofs.Ytflpemagbempaaa.Dg
