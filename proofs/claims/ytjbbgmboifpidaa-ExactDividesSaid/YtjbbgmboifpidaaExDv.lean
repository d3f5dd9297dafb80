/-
  The law ExactDivides, walked.
-/
import Derived.Test.YtjbbgmboifpidaaExP
import Derived.Test.YtjbbgmboifpidaaExRi
import Derived.Deep.QuietTactic
import Derived.BigQuiet
namespace Go.Proofs.Ytjbbgmboifpidaa.Ex
open Go.RowKit

theorem wr_bd (n : Int) : -9223372036854775808 ≤ wrap64 n ∧ wrap64 n ≤ 9223372036854775807 := by unfold wrap64; omega

set_option maxRecDepth 100000 in
set_option maxHeartbeats 4000000 in
theorem divides_any (a b c : Int) (ha : -9223372036854775808 ≤ a ∧ a ≤ 9223372036854775807) (hb : -9223372036854775808 ≤ b ∧ b ≤ 9223372036854775807) (hc : -9223372036854775808 ≤ c ∧ c ≤ 9223372036854775807) (w : World) :
    Calls Try.prog 3 #[.agg #[.int .i64 a, .int .i64 b, .int .i64 c]] w fun e w' => e = .returned (.bool true) ∧ Below w.heap.size w w' := by
  have S := Lib.hid sanity_any
  go_enter Try.func3, Try.ntmps3
  go_wp2_with fail
  refine (S.out _).mono ?_
  rintro e w1 ⟨rfl, hB1⟩
  go_wp2_with fail
  have k0 := kc hB1 (b := w.heap.size) (o := 0) (v := .int .i64 a) (by go_cell)
  have k1 := kc hB1 (b := w.heap.size) (o := 1) (v := .int .i64 b) (by go_cell)
  have k2 := kc hB1 (b := w.heap.size) (o := 2) (v := .int .i64 c) (by go_cell)
  have hB : Below w.heap.size w w1 := bt (ba (Below.refl _ _) _) hB1
  clear hB1
  go_quiet (fail)
  have HB : Hid (Below w.heap.size w (w1.drewN nq)) := Lib.hid ⟨hB.os, hB.tape, hB.output, hB.size, hB.block⟩
  clear k0 k1 k2 hB
  generalize w1.drewN nq = W at *
  go_wp2_with fail
  have w1' := wr_bd (a * b)
  have w2' := wr_bd (wrap64 (a * b) + 1)
  have w3' := wr_bd (wrap64 (a * b) - 1)
  have w4' := wr_bd (-b)
  generalize wrap64 (wrap64 (a * b) + 1) = z2 at *
  generalize wrap64 (wrap64 (a * b) - 1) = z3 at *
  generalize wrap64 (a * b) = z1 at *
  generalize wrap64 (-b) = z4 at *
  generalize hV : W.alloc _ = V
  have HX : Hid (∀ i, i < 33 → ∃ x : Int, (-9223372036854775808 ≤ x ∧ x ≤ 9223372036854775807) ∧ V.cell? ⟨W.heap.size, i, none⟩ = some (.int .i64 x)) := Lib.hid (by
    intro i hi
    have h : i = 0 ∨ i = 1 ∨ i = 2 ∨ i = 3 ∨ i = 4 ∨ i = 5 ∨ i = 6 ∨ i = 7 ∨ i = 8 ∨ i = 9 ∨ i = 10 ∨ i = 11 ∨ i = 12 ∨ i = 13 ∨ i = 14 ∨ i = 15 ∨ i = 16 ∨ i = 17 ∨ i = 18 ∨ i = 19 ∨ i = 20 ∨ i = 21 ∨ i = 22 ∨ i = 23 ∨ i = 24 ∨ i = 25 ∨ i = 26 ∨ i = 27 ∨ i = 28 ∨ i = 29 ∨ i = 30 ∨ i = 31 ∨ i = 32 := by omega
    subst hV
    rcases h with rfl | rfl | rfl | rfl | rfl | rfl | rfl | rfl | rfl | rfl | rfl | rfl | rfl | rfl | rfl | rfl | rfl | rfl | rfl | rfl | rfl | rfl | rfl | rfl | rfl | rfl | rfl | rfl | rfl | rfl | rfl | rfl | rfl
    · exact ⟨a, by omega, by go_cell⟩
    · exact ⟨b, by omega, by go_cell⟩
    · exact ⟨c, by omega, by go_cell⟩
    · exact ⟨b, by omega, by go_cell⟩
    · exact ⟨c, by omega, by go_cell⟩
    · exact ⟨a, by omega, by go_cell⟩
    · exact ⟨c, by omega, by go_cell⟩
    · exact ⟨a, by omega, by go_cell⟩
    · exact ⟨b, by omega, by go_cell⟩
    · exact ⟨z1, by omega, by go_cell⟩
    · exact ⟨b, by omega, by go_cell⟩
    · exact ⟨c, by omega, by go_cell⟩
    · exact ⟨z2, by omega, by go_cell⟩
    · exact ⟨b, by omega, by go_cell⟩
    · exact ⟨c, by omega, by go_cell⟩
    · exact ⟨z3, by omega, by go_cell⟩
    · exact ⟨c, by omega, by go_cell⟩
    · exact ⟨b, by omega, by go_cell⟩
    · exact ⟨(-9223372036854775808), by omega, by go_cell⟩
    · exact ⟨a, by omega, by go_cell⟩
    · exact ⟨b, by omega, by go_cell⟩
    · exact ⟨9223372036854775807, by omega, by go_cell⟩
    · exact ⟨z4, by omega, by go_cell⟩
    · exact ⟨a, by omega, by go_cell⟩
    · exact ⟨a, by omega, by go_cell⟩
    · exact ⟨b, by omega, by go_cell⟩
    · exact ⟨b, by omega, by go_cell⟩
    · exact ⟨a, by omega, by go_cell⟩
    · exact ⟨b, by omega, by go_cell⟩
    · exact ⟨1, by omega, by go_cell⟩
    · exact ⟨a, by omega, by go_cell⟩
    · exact ⟨(-9223372036854775808), by omega, by go_cell⟩
    · exact ⟨9223372036854775807, by omega, by go_cell⟩)
  have HB2 : Hid (Below w.heap.size w V) := Lib.hid (by rw [← hV]; exact bt HB.out (ba (Below.refl _ _) _))
  have hbl : W.heap.size < V.heap.size := by rw [← hV]; simp
  clear hV HB S w1' w2' w3' w4'
  generalize W.heap.size = B0 at *
  go_loopw [78] (fun s78 wr => ∃ k : Nat, k ≤ 11 ∧ s78 = .int .i64 k ∧ Below V.heap.size V wr) (fun s78 _ => 11 - (intOf s78).toNat)
  case atStart => exact ⟨0, by omega, rfl, Below.refl _ _⟩
  case round =>
    obtain ⟨k, hk, rfl, hb⟩ := hrel
    rcases Nat.lt_or_ge k 11 with hlt | hge
    · obtain ⟨x0, hx0, d0⟩ := HX.out (k * 3) (by omega)
      obtain ⟨x1, hx1, d1⟩ := HX.out (k * 3 + 1) (by omega)
      obtain ⟨x2, hx2, d2⟩ := HX.out (k * 3 + 2) (by omega)
      have c0 := kc hb d0
      have c1 := kc hb d1
      have c2 := kc hb d2
      clear d0 d1 d2
      have F1 := Lib.hid (floor_go x0 x1 hx0 hx1)
      have F2 := Lib.hid (floor_ref x0 x1 hx0 hx1)
      have R1 := Lib.hid (round_go x0 x1 hx0 hx1)
      have R2 := Lib.hid (round_ref x0 x1 hx0 hx1)
      have M1 := Lib.hid (muldiv_go x0 x1 x2 hx0 hx1 hx2)
      have M2 := Lib.hid (muldiv_ref x0 x1 x2 hx0 hx1 hx2)
      generalize FlI x0 x1 = p at *
      generalize FlB x0 x1 = pb at *
      generalize RoI x0 x1 = q at *
      generalize RoB x0 x1 = qb at *
      generalize MdI x0 x1 x2 = r at *
      generalize MdB x0 x1 x2 = rb at *
      have hA : Below V.heap.size V (wr.alloc (.cells #[.int .i64 x0, .int .i64 x1, .int .i64 x2] 22)) := bt hb (ba (Below.refl _ _) _)
      go_wp2_with fail
      refine (F1.out _).mono ?_
      rintro e v0 ⟨rfl, hb0⟩
      have e0 := kc hb0 (b := wr.heap.size) (o := 0) (v := .int .i64 x0) (by go_cell)
      have e1 := kc hb0 (b := wr.heap.size) (o := 1) (v := .int .i64 x1) (by go_cell)
      have e2 := kc hb0 (b := wr.heap.size) (o := 2) (v := .int .i64 x2) (by go_cell)
      have hB := bt hA hb0
      clear hb0 c0 c1 c2
      go_wp2_with fail
      refine (F2.out _).mono ?_
      rintro e v1 ⟨rfl, hb1⟩
      replace e0 := kc hb1 e0
      replace e1 := kc hb1 e1
      replace e2 := kc hb1 e2
      replace hB := bt hB hb1
      clear hb1
      go_wp2_with fail
      refine (R1.out _).mono ?_
      rintro e v2 ⟨rfl, hb2⟩
      replace e0 := kc hb2 e0
      replace e1 := kc hb2 e1
      replace e2 := kc hb2 e2
      replace hB := bt hB hb2
      clear hb2
      go_wp2_with fail
      refine (R2.out _).mono ?_
      rintro e v3 ⟨rfl, hb3⟩
      replace e0 := kc hb3 e0
      replace e1 := kc hb3 e1
      replace e2 := kc hb3 e2
      replace hB := bt hB hb3
      clear hb3
      go_wp2_with fail
      refine (M1.out _).mono ?_
      rintro e v4 ⟨rfl, hb4⟩
      replace e0 := kc hb4 e0
      replace e1 := kc hb4 e1
      replace e2 := kc hb4 e2
      replace hB := bt hB hb4
      clear hb4
      go_wp2_with fail
      refine (M2.out _).mono ?_
      rintro e v5 ⟨rfl, hb5⟩
      replace e0 := kc hb5 e0
      replace e1 := kc hb5 e1
      replace e2 := kc hb5 e2
      replace hB := bt hB hb5
      clear hb5
      go_wp2_with fail
      go_roundw
      case rel => exact ⟨k + 1, by omega, by congr 1, hB⟩
      case measure => simp [intOf]; omega
    · have hkm : k = 11 := by omega
      subst hkm
      go_wp2_with fail
      go_ret
      exact ⟨rfl, bt HB2.out hb⟩
end Go.Proofs.Ytjbbgmboifpidaa.Ex
