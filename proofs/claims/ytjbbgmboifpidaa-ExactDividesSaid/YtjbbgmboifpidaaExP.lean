/-
  The examples of the chapter: the program answers them as they are written.
-/
import Derived.Test.YtjbbgmboifpidaaExO
namespace Go.Proofs.Ytjbbgmboifpidaa.Ex
open Go.RowKit

theorem of_agg (n d : Int) (w : World) : Calls Try.prog 19 #[.int .i64 n, .int .i64 d] w fun e w' => e = .returned (.agg #[.int .i64 n, .int .i64 d]) ∧ Below w.heap.size w w' := of_any n d w
theorem ratio_agg (n d : Int) (w : World) : Calls Try.prog 29 #[.agg #[.int .i64 n, .int .i64 d], .bool true, .int .i64 n, .int .i64 d] w fun e w' => e = .returned (.bool true) ∧ Below w.heap.size w w' := ratio_same n d w
theorem none_agg (w : World) : Calls Try.prog 30 #[.agg #[.int .i64 0, .int .i64 0], .bool false] w fun e w' => e = .returned (.bool true) ∧ Below w.heap.size w w' := none_yes w
theorem s1 (w : World) : Calls Try.prog 10 #[.int .i64 (-7), .int .i64 2] w fun e w' => e = .returned (.tuple #[.int .i64 (-4), .bool true]) ∧ Below w.heap.size w w' := by
  have h := floor_go (-7) (2) (by omega) (by omega) w
  exact h
theorem s2 (w : World) : Calls Try.prog 10 #[.int .i64 7, .int .i64 (-2)] w fun e w' => e = .returned (.tuple #[.int .i64 (-4), .bool true]) ∧ Below w.heap.size w w' := by
  have h := floor_go (7) (-2) (by omega) (by omega) w
  exact h
theorem s3 (w : World) : Calls Try.prog 10 #[.int .i64 (-9223372036854775808), .int .i64 (-1)] w fun e w' => e = .returned (.tuple #[.int .i64 0, .bool false]) ∧ Below w.heap.size w w' := by
  have h := floor_go (-9223372036854775808) (-1) (by omega) (by omega) w
  exact h
theorem s4 (w : World) : Calls Try.prog 12 #[.int .i64 5, .int .i64 2] w fun e w' => e = .returned (.tuple #[.int .i64 3, .bool true]) ∧ Below w.heap.size w w' := by
  have h := round_go (5) (2) (by omega) (by omega) w
  exact h
theorem s5 (w : World) : Calls Try.prog 12 #[.int .i64 (-5), .int .i64 2] w fun e w' => e = .returned (.tuple #[.int .i64 (-2), .bool true]) ∧ Below w.heap.size w w' := by
  have h := round_go (-5) (2) (by omega) (by omega) w
  exact h
theorem s6 (w : World) : Calls Try.prog 12 #[.int .i64 (-7), .int .i64 3] w fun e w' => e = .returned (.tuple #[.int .i64 (-2), .bool true]) ∧ Below w.heap.size w w' := by
  have h := round_go (-7) (3) (by omega) (by omega) w
  exact h
theorem s7 (w : World) : Calls Try.prog 12 #[.int .i64 9223372036854775807, .int .i64 2] w fun e w' => e = .returned (.tuple #[.int .i64 4611686018427387904, .bool true]) ∧ Below w.heap.size w w' := by
  have h := round_go (9223372036854775807) (2) (by omega) (by omega) w
  exact h
theorem s8 (w : World) : Calls Try.prog 14 #[.int .i64 4611686018427387904, .int .i64 6, .int .i64 8] w fun e w' => e = .returned (.tuple #[.int .i64 3458764513820540928, .bool true]) ∧ Below w.heap.size w w' := by
  have h := muldiv_go (4611686018427387904) (6) (8) (by omega) (by omega) (by omega) w
  exact h
theorem s9 (w : World) : Calls Try.prog 14 #[.int .i64 (-7), .int .i64 1, .int .i64 2] w fun e w' => e = .returned (.tuple #[.int .i64 (-4), .bool true]) ∧ Below w.heap.size w w' := by
  have h := muldiv_go (-7) (1) (2) (by omega) (by omega) (by omega) w
  exact h
theorem s10 (w : World) : Calls Try.prog 14 #[.int .i64 4611686018427387904, .int .i64 2, .int .i64 1] w fun e w' => e = .returned (.tuple #[.int .i64 0, .bool false]) ∧ Below w.heap.size w w' := by
  have h := muldiv_go (4611686018427387904) (2) (1) (by omega) (by omega) (by omega) w
  exact h
theorem s11 (w : World) : Calls Try.prog 14 #[.int .i64 (-4611686018427387904), .int .i64 2, .int .i64 1] w fun e w' => e = .returned (.tuple #[.int .i64 (-9223372036854775808), .bool true]) ∧ Below w.heap.size w w' := by
  have h := muldiv_go (-4611686018427387904) (2) (1) (by omega) (by omega) (by omega) w
  exact h
theorem s12 (w : World) : Calls Try.prog 18 #[.agg #[.int .i64 1, .int .i64 3], .agg #[.int .i64 2, .int .i64 6]] w fun e w' => e = .returned (.int .i64 0) ∧ Below w.heap.size w w' := by
  have h := cmp_go (1) (3) (2) (6) (by omega) (by omega) (by omega) (by omega) w
  exact h
theorem s13 (w : World) : Calls Try.prog 18 #[.agg #[.int .i64 (-1), .int .i64 2], .agg #[.int .i64 1, .int .i64 3]] w fun e w' => e = .returned (.int .i64 (-1)) ∧ Below w.heap.size w w' := by
  have h := cmp_go (-1) (2) (1) (3) (by omega) (by omega) (by omega) (by omega) w
  exact h
theorem s14 (w : World) : Calls Try.prog 18 #[.agg #[.int .i64 1, .int .i64 0], .agg #[.int .i64 1, .int .i64 1]] w fun e w' => e = .returned (.int .i64 0) ∧ Below w.heap.size w w' := by
  have h := cmp_go (1) (0) (1) (1) (by omega) (by omega) (by omega) (by omega) w
  exact h
theorem s15 (w : World) : Calls Try.prog 18 #[.agg #[.int .i64 9223372036854775807, .int .i64 9223372036854775806], .agg #[.int .i64 9223372036854775806, .int .i64 9223372036854775805]] w fun e w' => e = .returned (.int .i64 (-1)) ∧ Below w.heap.size w w' := by
  have h := cmp_go (9223372036854775807) (9223372036854775806) (9223372036854775806) (9223372036854775805) (by omega) (by omega) (by omega) (by omega) w
  exact h
theorem s16 (w : World) : Calls Try.prog 24 #[.agg #[.int .i64 (-6), .int .i64 4]] w fun e w' => e = .returned (.tuple #[.agg #[.int .i64 (-3), .int .i64 2], .bool true]) ∧ Below w.heap.size w w' := by
  have h := lowest_any (-6) (4) (by omega) (by omega) w
  exact h
theorem s17 (w : World) : Calls Try.prog 24 #[.agg #[.int .i64 0, .int .i64 7]] w fun e w' => e = .returned (.tuple #[.agg #[.int .i64 0, .int .i64 1], .bool true]) ∧ Below w.heap.size w w' := by
  have h := lowest_any (0) (7) (by omega) (by omega) w
  exact h
theorem s18 (w : World) : Calls Try.prog 24 #[.agg #[.int .i64 1, .int .i64 (-2)]] w fun e w' => e = .returned (.tuple #[.agg #[.int .i64 0, .int .i64 0], .bool false]) ∧ Below w.heap.size w w' := by
  have h := lowest_any (1) (-2) (by omega) (by omega) w
  exact h
theorem s19 (w : World) : Calls Try.prog 20 #[.agg #[.int .i64 1, .int .i64 6], .agg #[.int .i64 1, .int .i64 10]] w fun e w' => e = .returned (.tuple #[.agg #[.int .i64 4, .int .i64 15], .bool true]) ∧ Below w.heap.size w w' := by
  have h := sum_go (1) (6) (1) (10) (by omega) (by omega) (by omega) (by omega) w
  exact h
theorem s20 (w : World) : Calls Try.prog 20 #[.agg #[.int .i64 1, .int .i64 4611686018427387904], .agg #[.int .i64 1, .int .i64 3]] w fun e w' => e = .returned (.tuple #[.agg #[.int .i64 0, .int .i64 0], .bool false]) ∧ Below w.heap.size w w' := by
  have h := sum_go (1) (4611686018427387904) (1) (3) (by omega) (by omega) (by omega) (by omega) w
  exact h
theorem s21 (w : World) : Calls Try.prog 22 #[.agg #[.int .i64 2, .int .i64 3], .agg #[.int .i64 3, .int .i64 4]] w fun e w' => e = .returned (.tuple #[.agg #[.int .i64 1, .int .i64 2], .bool true]) ∧ Below w.heap.size w w' := by
  have h := mul_go (2) (3) (3) (4) (by omega) (by omega) (by omega) (by omega) w
  exact h
theorem s22 (w : World) : Calls Try.prog 22 #[.agg #[.int .i64 4611686018427387904, .int .i64 1], .agg #[.int .i64 4, .int .i64 1]] w fun e w' => e = .returned (.tuple #[.agg #[.int .i64 0, .int .i64 0], .bool false]) ∧ Below w.heap.size w w' := by
  have h := mul_go (4611686018427387904) (1) (4) (1) (by omega) (by omega) (by omega) (by omega) w
  exact h

set_option maxRecDepth 100000 in
set_option maxHeartbeats 4000000 in
theorem sanity_any (w : World) : Calls Try.prog 9 #[] w fun e w' => e = .returned (.bool true) ∧ Below w.heap.size w w' := by
  go_enter Try.func9, Try.ntmps9
  go_wp2_with fail
  refine (s1 _).mono ?_
  rintro e v1 ⟨rfl, hb⟩
  have hB := hb
  have ly : w.heap.size ≤ v1.heap.size := hB.size
  go_wp2_with fail
  refine (s2 _).mono ?_
  rintro e v2 ⟨rfl, hb⟩
  replace hB : Below w.heap.size w v2 := bt (hB) hb
  clear hb
  have ly : w.heap.size ≤ v2.heap.size := hB.size
  go_wp2_with fail
  refine (s3 _).mono ?_
  rintro e v3 ⟨rfl, hb⟩
  replace hB : Below w.heap.size w v3 := bt (hB) hb
  clear hb
  have ly : w.heap.size ≤ v3.heap.size := hB.size
  go_wp2_with fail
  refine (s4 _).mono ?_
  rintro e v4 ⟨rfl, hb⟩
  replace hB : Below w.heap.size w v4 := bt (hB) hb
  clear hb
  have ly : w.heap.size ≤ v4.heap.size := hB.size
  go_wp2_with fail
  refine (s5 _).mono ?_
  rintro e v5 ⟨rfl, hb⟩
  replace hB : Below w.heap.size w v5 := bt (hB) hb
  clear hb
  have ly : w.heap.size ≤ v5.heap.size := hB.size
  go_wp2_with fail
  refine (s6 _).mono ?_
  rintro e v6 ⟨rfl, hb⟩
  replace hB : Below w.heap.size w v6 := bt (hB) hb
  clear hb
  have ly : w.heap.size ≤ v6.heap.size := hB.size
  go_wp2_with fail
  refine (s7 _).mono ?_
  rintro e v7 ⟨rfl, hb⟩
  replace hB : Below w.heap.size w v7 := bt (hB) hb
  clear hb
  have ly : w.heap.size ≤ v7.heap.size := hB.size
  go_wp2_with fail
  refine (is_same (-4) _).mono ?_
  rintro e w' ⟨rfl, rfl⟩
  go_wp2_with fail
  refine (is_same (-4) _).mono ?_
  rintro e w' ⟨rfl, rfl⟩
  go_wp2_with fail
  refine (is_same (3) _).mono ?_
  rintro e w' ⟨rfl, rfl⟩
  go_wp2_with fail
  refine (is_same (-2) _).mono ?_
  rintro e w' ⟨rfl, rfl⟩
  go_wp2_with fail
  refine (is_same (-2) _).mono ?_
  rintro e w' ⟨rfl, rfl⟩
  go_wp2_with fail
  refine (is_same (4611686018427387904) _).mono ?_
  rintro e w' ⟨rfl, rfl⟩
  go_wp2_with fail
  refine (s8 _).mono ?_
  rintro e v8 ⟨rfl, hb⟩
  replace hB : Below w.heap.size w v8 := bt (hB) hb
  clear hb
  have ly : w.heap.size ≤ v8.heap.size := hB.size
  go_wp2_with fail
  refine (s9 _).mono ?_
  rintro e v9 ⟨rfl, hb⟩
  replace hB : Below w.heap.size w v9 := bt (hB) hb
  clear hb
  have ly : w.heap.size ≤ v9.heap.size := hB.size
  go_wp2_with fail
  refine (s10 _).mono ?_
  rintro e v10 ⟨rfl, hb⟩
  replace hB : Below w.heap.size w v10 := bt (hB) hb
  clear hb
  have ly : w.heap.size ≤ v10.heap.size := hB.size
  go_wp2_with fail
  refine (s11 _).mono ?_
  rintro e v11 ⟨rfl, hb⟩
  replace hB : Below w.heap.size w v11 := bt (hB) hb
  clear hb
  have ly : w.heap.size ≤ v11.heap.size := hB.size
  go_wp2_with fail
  refine (is_same (3458764513820540928) _).mono ?_
  rintro e w' ⟨rfl, rfl⟩
  go_wp2_with fail
  refine (is_same (-4) _).mono ?_
  rintro e w' ⟨rfl, rfl⟩
  go_wp2_with fail
  refine (is_same (-9223372036854775808) _).mono ?_
  rintro e w' ⟨rfl, rfl⟩
  go_wp2_with fail
  refine (of_agg (1) (3) _).mono ?_
  rintro e v12 ⟨rfl, hb⟩
  replace hB : Below w.heap.size w v12 := bt (hB) hb
  clear hb
  have ly : w.heap.size ≤ v12.heap.size := hB.size
  go_wp2_with fail
  refine (of_agg (2) (6) _).mono ?_
  rintro e v13 ⟨rfl, hb⟩
  replace hB : Below w.heap.size w v13 := bt (hB) hb
  clear hb
  have ly : w.heap.size ≤ v13.heap.size := hB.size
  go_wp2_with fail
  refine (s12 _).mono ?_
  rintro e v14 ⟨rfl, hb⟩
  replace hB : Below w.heap.size w v14 := bt (hB) hb
  clear hb
  have ly : w.heap.size ≤ v14.heap.size := hB.size
  go_wp2_with fail
  refine (of_agg (-1) (2) _).mono ?_
  rintro e v15 ⟨rfl, hb⟩
  replace hB : Below w.heap.size w v15 := bt (hB) hb
  clear hb
  have ly : w.heap.size ≤ v15.heap.size := hB.size
  go_wp2_with fail
  refine (of_agg (1) (3) _).mono ?_
  rintro e v16 ⟨rfl, hb⟩
  replace hB : Below w.heap.size w v16 := bt (hB) hb
  clear hb
  have ly : w.heap.size ≤ v16.heap.size := hB.size
  go_wp2_with fail
  refine (s13 _).mono ?_
  rintro e v17 ⟨rfl, hb⟩
  replace hB : Below w.heap.size w v17 := bt (hB) hb
  clear hb
  have ly : w.heap.size ≤ v17.heap.size := hB.size
  go_wp2_with fail
  refine (of_agg (1) (0) _).mono ?_
  rintro e v18 ⟨rfl, hb⟩
  replace hB : Below w.heap.size w v18 := bt (hB) hb
  clear hb
  have ly : w.heap.size ≤ v18.heap.size := hB.size
  go_wp2_with fail
  refine (of_agg (1) (1) _).mono ?_
  rintro e v19 ⟨rfl, hb⟩
  replace hB : Below w.heap.size w v19 := bt (hB) hb
  clear hb
  have ly : w.heap.size ≤ v19.heap.size := hB.size
  go_wp2_with fail
  refine (s14 _).mono ?_
  rintro e v20 ⟨rfl, hb⟩
  replace hB : Below w.heap.size w v20 := bt (hB) hb
  clear hb
  have ly : w.heap.size ≤ v20.heap.size := hB.size
  go_wp2_with fail
  refine (of_agg (9223372036854775807) (9223372036854775806) _).mono ?_
  rintro e v21 ⟨rfl, hb⟩
  replace hB : Below w.heap.size w v21 := bt (hB) hb
  clear hb
  have ly : w.heap.size ≤ v21.heap.size := hB.size
  go_wp2_with fail
  refine (of_agg (9223372036854775806) (9223372036854775805) _).mono ?_
  rintro e v22 ⟨rfl, hb⟩
  replace hB : Below w.heap.size w v22 := bt (hB) hb
  clear hb
  have ly : w.heap.size ≤ v22.heap.size := hB.size
  go_wp2_with fail
  refine (s15 _).mono ?_
  rintro e v23 ⟨rfl, hb⟩
  replace hB : Below w.heap.size w v23 := bt (hB) hb
  clear hb
  have ly : w.heap.size ≤ v23.heap.size := hB.size
  go_wp2_with fail
  refine (of_agg (-6) (4) _).mono ?_
  rintro e v24 ⟨rfl, hb⟩
  replace hB : Below w.heap.size w v24 := bt (hB) hb
  clear hb
  have ly : w.heap.size ≤ v24.heap.size := hB.size
  go_wp2_with fail
  refine (s16 _).mono ?_
  rintro e v25 ⟨rfl, hb⟩
  replace hB : Below w.heap.size w v25 := bt (hB) hb
  clear hb
  have ly : w.heap.size ≤ v25.heap.size := hB.size
  go_wp2_with fail
  refine (of_agg (0) (7) _).mono ?_
  rintro e v26 ⟨rfl, hb⟩
  have zz26 : v25.heap.size ≤ v26.heap.size := by have := hb.size; (try simp at this); omega
  have f00_ := kf hb (b := v25.heap.size) (o := 0) (v := .int .i64 (-3)) (t := false) (by go_cell) (by go_cell)
  have x00_ := kc hb (b := v25.heap.size) (o := 0) (v := .int .i64 (-3)) (by go_cell)
  have f01_ := kf hb (b := v25.heap.size) (o := 1) (v := .int .i64 2) (t := false) (by go_cell) (by go_cell)
  have x01_ := kc hb (b := v25.heap.size) (o := 1) (v := .int .i64 2) (by go_cell)
  replace f00 := f00_
  replace x00 := x00_
  clear f00_ x00_
  replace f01 := f01_
  replace x01 := x01_
  clear f01_ x01_
  replace hB : Below w.heap.size w v26 := bt (ba (hB) _) hb
  have lz26 : v25.heap.size < v26.heap.size := by have := hb.size; (try simp at this); omega
  have ly26 : w.heap.size ≤ v25.heap.size := ly
  clear hb
  have ly : w.heap.size ≤ v26.heap.size := hB.size
  go_wp2_with fail
  refine (s17 _).mono ?_
  rintro e v27 ⟨rfl, hb⟩
  have zz27 : v26.heap.size ≤ v27.heap.size := by have := hb.size; (try simp at this); omega
  replace f00 := kf hb x00 f00
  replace x00 := kc hb x00
  replace f01 := kf hb x01 f01
  replace x01 := kc hb x01
  replace hB : Below w.heap.size w v27 := bt (hB) hb
  clear hb
  have ly : w.heap.size ≤ v27.heap.size := hB.size
  have bl27_0 : v25.heap.size < v27.heap.size := by omega
  go_wp2_with fail
  refine (of_agg (1) (-2) _).mono ?_
  rintro e v28 ⟨rfl, hb⟩
  have zz28 : v27.heap.size ≤ v28.heap.size := by have := hb.size; (try simp at this); omega
  have f00_ := kf hb (kc (ba (Below.refl _ _) _) x00) (kf (ba (Below.refl _ _) _) x00 f00)
  have x00_ := kc hb (kc (ba (Below.refl _ _) _) x00)
  have f01_ := kf hb (kc (ba (Below.refl _ _) _) x01) (kf (ba (Below.refl _ _) _) x01 f01)
  have x01_ := kc hb (kc (ba (Below.refl _ _) _) x01)
  have f10_ := kf hb (b := v27.heap.size) (o := 0) (v := .int .i64 0) (t := false) (by go_cell) (by go_cell)
  have x10_ := kc hb (b := v27.heap.size) (o := 0) (v := .int .i64 0) (by go_cell)
  have f11_ := kf hb (b := v27.heap.size) (o := 1) (v := .int .i64 1) (t := false) (by go_cell) (by go_cell)
  have x11_ := kc hb (b := v27.heap.size) (o := 1) (v := .int .i64 1) (by go_cell)
  replace f00 := f00_
  replace x00 := x00_
  clear f00_ x00_
  replace f01 := f01_
  replace x01 := x01_
  clear f01_ x01_
  replace f10 := f10_
  replace x10 := x10_
  clear f10_ x10_
  replace f11 := f11_
  replace x11 := x11_
  clear f11_ x11_
  replace hB : Below w.heap.size w v28 := bt (ba (hB) _) hb
  have lz28 : v27.heap.size < v28.heap.size := by have := hb.size; (try simp at this); omega
  have ly28 : w.heap.size ≤ v27.heap.size := ly
  clear hb
  have ly : w.heap.size ≤ v28.heap.size := hB.size
  go_wp2_with fail
  refine (s18 _).mono ?_
  rintro e v29 ⟨rfl, hb⟩
  have zz29 : v28.heap.size ≤ v29.heap.size := by have := hb.size; (try simp at this); omega
  replace f00 := kf hb x00 f00
  replace x00 := kc hb x00
  replace f01 := kf hb x01 f01
  replace x01 := kc hb x01
  replace f10 := kf hb x10 f10
  replace x10 := kc hb x10
  replace f11 := kf hb x11 f11
  replace x11 := kc hb x11
  replace hB : Below w.heap.size w v29 := bt (hB) hb
  clear hb
  have ly : w.heap.size ≤ v29.heap.size := hB.size
  have bl29_0 : v25.heap.size < v29.heap.size := by omega
  have bl29_1 : v27.heap.size < v29.heap.size := by omega
  go_wp2_with fail
  refine (ratio_agg (-3) 2 _).mono ?_
  rintro e v30 ⟨rfl, hb⟩
  have zz30 : v29.heap.size ≤ v30.heap.size := by have := hb.size; (try simp at this); omega
  have f00_ := kf hb (kc (ba (Below.refl _ _) _) x00) (kf (ba (Below.refl _ _) _) x00 f00)
  have x00_ := kc hb (kc (ba (Below.refl _ _) _) x00)
  have f01_ := kf hb (kc (ba (Below.refl _ _) _) x01) (kf (ba (Below.refl _ _) _) x01 f01)
  have x01_ := kc hb (kc (ba (Below.refl _ _) _) x01)
  have f10_ := kf hb (kc (ba (Below.refl _ _) _) x10) (kf (ba (Below.refl _ _) _) x10 f10)
  have x10_ := kc hb (kc (ba (Below.refl _ _) _) x10)
  have f11_ := kf hb (kc (ba (Below.refl _ _) _) x11) (kf (ba (Below.refl _ _) _) x11 f11)
  have x11_ := kc hb (kc (ba (Below.refl _ _) _) x11)
  have f20_ := kf hb (b := v29.heap.size) (o := 0) (v := .int .i64 0) (t := false) (by go_cell) (by go_cell)
  have x20_ := kc hb (b := v29.heap.size) (o := 0) (v := .int .i64 0) (by go_cell)
  have f21_ := kf hb (b := v29.heap.size) (o := 1) (v := .int .i64 0) (t := false) (by go_cell) (by go_cell)
  have x21_ := kc hb (b := v29.heap.size) (o := 1) (v := .int .i64 0) (by go_cell)
  replace f00 := f00_
  replace x00 := x00_
  clear f00_ x00_
  replace f01 := f01_
  replace x01 := x01_
  clear f01_ x01_
  replace f10 := f10_
  replace x10 := x10_
  clear f10_ x10_
  replace f11 := f11_
  replace x11 := x11_
  clear f11_ x11_
  replace f20 := f20_
  replace x20 := x20_
  clear f20_ x20_
  replace f21 := f21_
  replace x21 := x21_
  clear f21_ x21_
  replace hB : Below w.heap.size w v30 := bt (ba (hB) _) hb
  have lz30 : v29.heap.size < v30.heap.size := by have := hb.size; (try simp at this); omega
  have ly30 : w.heap.size ≤ v29.heap.size := ly
  clear hb
  have ly : w.heap.size ≤ v30.heap.size := hB.size
  go_wp2_with fail
  refine (ratio_agg 0 1 _).mono ?_
  rintro e v31 ⟨rfl, hb⟩
  have zz31 : v30.heap.size ≤ v31.heap.size := by have := hb.size; (try simp at this); omega
  replace f00 := kf hb x00 f00
  replace x00 := kc hb x00
  replace f01 := kf hb x01 f01
  replace x01 := kc hb x01
  replace f10 := kf hb x10 f10
  replace x10 := kc hb x10
  replace f11 := kf hb x11 f11
  replace x11 := kc hb x11
  replace f20 := kf hb x20 f20
  replace x20 := kc hb x20
  replace f21 := kf hb x21 f21
  replace x21 := kc hb x21
  replace hB : Below w.heap.size w v31 := bt (hB) hb
  clear hb
  have ly : w.heap.size ≤ v31.heap.size := hB.size
  go_wp2_with fail
  refine (none_agg _).mono ?_
  rintro e v32 ⟨rfl, hb⟩
  have zz32 : v31.heap.size ≤ v32.heap.size := by have := hb.size; (try simp at this); omega
  replace f00 := kf hb x00 f00
  replace x00 := kc hb x00
  replace f01 := kf hb x01 f01
  replace x01 := kc hb x01
  replace f10 := kf hb x10 f10
  replace x10 := kc hb x10
  replace f11 := kf hb x11 f11
  replace x11 := kc hb x11
  replace f20 := kf hb x20 f20
  replace x20 := kc hb x20
  replace f21 := kf hb x21 f21
  replace x21 := kc hb x21
  replace hB : Below w.heap.size w v32 := bt (hB) hb
  clear hb
  have ly : w.heap.size ≤ v32.heap.size := hB.size
  go_wp2_with fail
  refine (of_agg (1) (6) _).mono ?_
  rintro e v33 ⟨rfl, hb⟩
  have zz33 : v32.heap.size ≤ v33.heap.size := by have := hb.size; (try simp at this); omega
  replace f00 := kf hb x00 f00
  replace x00 := kc hb x00
  replace f01 := kf hb x01 f01
  replace x01 := kc hb x01
  replace f10 := kf hb x10 f10
  replace x10 := kc hb x10
  replace f11 := kf hb x11 f11
  replace x11 := kc hb x11
  replace f20 := kf hb x20 f20
  replace x20 := kc hb x20
  replace f21 := kf hb x21 f21
  replace x21 := kc hb x21
  replace hB : Below w.heap.size w v33 := bt (hB) hb
  clear hb
  have ly : w.heap.size ≤ v33.heap.size := hB.size
  go_wp2_with fail
  refine (of_agg (1) (10) _).mono ?_
  rintro e v34 ⟨rfl, hb⟩
  have zz34 : v33.heap.size ≤ v34.heap.size := by have := hb.size; (try simp at this); omega
  replace f00 := kf hb x00 f00
  replace x00 := kc hb x00
  replace f01 := kf hb x01 f01
  replace x01 := kc hb x01
  replace f10 := kf hb x10 f10
  replace x10 := kc hb x10
  replace f11 := kf hb x11 f11
  replace x11 := kc hb x11
  replace f20 := kf hb x20 f20
  replace x20 := kc hb x20
  replace f21 := kf hb x21 f21
  replace x21 := kc hb x21
  replace hB : Below w.heap.size w v34 := bt (hB) hb
  clear hb
  have ly : w.heap.size ≤ v34.heap.size := hB.size
  go_wp2_with fail
  refine (s19 _).mono ?_
  rintro e v35 ⟨rfl, hb⟩
  have zz35 : v34.heap.size ≤ v35.heap.size := by have := hb.size; (try simp at this); omega
  replace f00 := kf hb x00 f00
  replace x00 := kc hb x00
  replace f01 := kf hb x01 f01
  replace x01 := kc hb x01
  replace f10 := kf hb x10 f10
  replace x10 := kc hb x10
  replace f11 := kf hb x11 f11
  replace x11 := kc hb x11
  replace f20 := kf hb x20 f20
  replace x20 := kc hb x20
  replace f21 := kf hb x21 f21
  replace x21 := kc hb x21
  replace hB : Below w.heap.size w v35 := bt (hB) hb
  clear hb
  have ly : w.heap.size ≤ v35.heap.size := hB.size
  go_wp2_with fail
  refine (of_agg (1) (4611686018427387904) _).mono ?_
  rintro e v36 ⟨rfl, hb⟩
  have zz36 : v35.heap.size ≤ v36.heap.size := by have := hb.size; (try simp at this); omega
  have f00_ := kf hb (b := v25.heap.size) (o := 0) (v := .int .i64 4) (t := false) (by go_cell) (by go_cell)
  have x00_ := kc hb (b := v25.heap.size) (o := 0) (v := .int .i64 4) (by go_cell)
  have f01_ := kf hb (b := v25.heap.size) (o := 1) (v := .int .i64 15) (t := false) (by go_cell) (by go_cell)
  have x01_ := kc hb (b := v25.heap.size) (o := 1) (v := .int .i64 15) (by go_cell)
  have ne36_1 : v25.heap.size ≠ v27.heap.size := by omega
  have en36_1 : v27.heap.size ≠ v25.heap.size := by omega
  have f10_ := kf hb (b := v27.heap.size) (o := 0) (v := .int .i64 0) (t := false) (by go_cell) (by go_cell)
  have x10_ := kc hb (b := v27.heap.size) (o := 0) (v := .int .i64 0) (by go_cell)
  have f11_ := kf hb (b := v27.heap.size) (o := 1) (v := .int .i64 1) (t := false) (by go_cell) (by go_cell)
  have x11_ := kc hb (b := v27.heap.size) (o := 1) (v := .int .i64 1) (by go_cell)
  have ne36_2 : v25.heap.size ≠ v29.heap.size := by omega
  have en36_2 : v29.heap.size ≠ v25.heap.size := by omega
  have f20_ := kf hb (b := v29.heap.size) (o := 0) (v := .int .i64 0) (t := false) (by go_cell) (by go_cell)
  have x20_ := kc hb (b := v29.heap.size) (o := 0) (v := .int .i64 0) (by go_cell)
  have f21_ := kf hb (b := v29.heap.size) (o := 1) (v := .int .i64 0) (t := false) (by go_cell) (by go_cell)
  have x21_ := kc hb (b := v29.heap.size) (o := 1) (v := .int .i64 0) (by go_cell)
  replace f00 := f00_
  replace x00 := x00_
  clear f00_ x00_
  replace f01 := f01_
  replace x01 := x01_
  clear f01_ x01_
  replace f10 := f10_
  replace x10 := x10_
  clear f10_ x10_
  replace f11 := f11_
  replace x11 := x11_
  clear f11_ x11_
  replace f20 := f20_
  replace x20 := x20_
  clear f20_ x20_
  replace f21 := f21_
  replace x21 := x21_
  clear f21_ x21_
  replace hB : Below w.heap.size w v36 := bt (bs (bs (hB) (by simp; omega) _) (by simp; omega) _) hb
  clear hb
  have ly : w.heap.size ≤ v36.heap.size := hB.size
  go_wp2_with fail
  refine (of_agg (1) (3) _).mono ?_
  rintro e v37 ⟨rfl, hb⟩
  have zz37 : v36.heap.size ≤ v37.heap.size := by have := hb.size; (try simp at this); omega
  replace f00 := kf hb x00 f00
  replace x00 := kc hb x00
  replace f01 := kf hb x01 f01
  replace x01 := kc hb x01
  replace f10 := kf hb x10 f10
  replace x10 := kc hb x10
  replace f11 := kf hb x11 f11
  replace x11 := kc hb x11
  replace f20 := kf hb x20 f20
  replace x20 := kc hb x20
  replace f21 := kf hb x21 f21
  replace x21 := kc hb x21
  replace hB : Below w.heap.size w v37 := bt (hB) hb
  clear hb
  have ly : w.heap.size ≤ v37.heap.size := hB.size
  go_wp2_with fail
  refine (s20 _).mono ?_
  rintro e v38 ⟨rfl, hb⟩
  have zz38 : v37.heap.size ≤ v38.heap.size := by have := hb.size; (try simp at this); omega
  replace f00 := kf hb x00 f00
  replace x00 := kc hb x00
  replace f01 := kf hb x01 f01
  replace x01 := kc hb x01
  replace f10 := kf hb x10 f10
  replace x10 := kc hb x10
  replace f11 := kf hb x11 f11
  replace x11 := kc hb x11
  replace f20 := kf hb x20 f20
  replace x20 := kc hb x20
  replace f21 := kf hb x21 f21
  replace x21 := kc hb x21
  replace hB : Below w.heap.size w v38 := bt (hB) hb
  clear hb
  have ly : w.heap.size ≤ v38.heap.size := hB.size
  go_wp2_with fail
  refine (of_agg (2) (3) _).mono ?_
  rintro e v39 ⟨rfl, hb⟩
  have zz39 : v38.heap.size ≤ v39.heap.size := by have := hb.size; (try simp at this); omega
  have ne39_0 : v27.heap.size ≠ v25.heap.size := by omega
  have en39_0 : v25.heap.size ≠ v27.heap.size := by omega
  have f00_ := kf hb (b := v25.heap.size) (o := 0) (v := .int .i64 4) (t := false) (by go_cell) (by go_cell)
  have x00_ := kc hb (b := v25.heap.size) (o := 0) (v := .int .i64 4) (by go_cell)
  have f01_ := kf hb (b := v25.heap.size) (o := 1) (v := .int .i64 15) (t := false) (by go_cell) (by go_cell)
  have x01_ := kc hb (b := v25.heap.size) (o := 1) (v := .int .i64 15) (by go_cell)
  have f10_ := kf hb (b := v27.heap.size) (o := 0) (v := .int .i64 0) (t := false) (by go_cell) (by go_cell)
  have x10_ := kc hb (b := v27.heap.size) (o := 0) (v := .int .i64 0) (by go_cell)
  have f11_ := kf hb (b := v27.heap.size) (o := 1) (v := .int .i64 0) (t := false) (by go_cell) (by go_cell)
  have x11_ := kc hb (b := v27.heap.size) (o := 1) (v := .int .i64 0) (by go_cell)
  have ne39_2 : v27.heap.size ≠ v29.heap.size := by omega
  have en39_2 : v29.heap.size ≠ v27.heap.size := by omega
  have f20_ := kf hb (b := v29.heap.size) (o := 0) (v := .int .i64 0) (t := false) (by go_cell) (by go_cell)
  have x20_ := kc hb (b := v29.heap.size) (o := 0) (v := .int .i64 0) (by go_cell)
  have f21_ := kf hb (b := v29.heap.size) (o := 1) (v := .int .i64 0) (t := false) (by go_cell) (by go_cell)
  have x21_ := kc hb (b := v29.heap.size) (o := 1) (v := .int .i64 0) (by go_cell)
  replace f00 := f00_
  replace x00 := x00_
  clear f00_ x00_
  replace f01 := f01_
  replace x01 := x01_
  clear f01_ x01_
  replace f10 := f10_
  replace x10 := x10_
  clear f10_ x10_
  replace f11 := f11_
  replace x11 := x11_
  clear f11_ x11_
  replace f20 := f20_
  replace x20 := x20_
  clear f20_ x20_
  replace f21 := f21_
  replace x21 := x21_
  clear f21_ x21_
  replace hB : Below w.heap.size w v39 := bt (bs (bs (hB) (by simp; omega) _) (by simp; omega) _) hb
  clear hb
  have ly : w.heap.size ≤ v39.heap.size := hB.size
  go_wp2_with fail
  refine (of_agg (3) (4) _).mono ?_
  rintro e v40 ⟨rfl, hb⟩
  have zz40 : v39.heap.size ≤ v40.heap.size := by have := hb.size; (try simp at this); omega
  replace f00 := kf hb x00 f00
  replace x00 := kc hb x00
  replace f01 := kf hb x01 f01
  replace x01 := kc hb x01
  replace f10 := kf hb x10 f10
  replace x10 := kc hb x10
  replace f11 := kf hb x11 f11
  replace x11 := kc hb x11
  replace f20 := kf hb x20 f20
  replace x20 := kc hb x20
  replace f21 := kf hb x21 f21
  replace x21 := kc hb x21
  replace hB : Below w.heap.size w v40 := bt (hB) hb
  clear hb
  have ly : w.heap.size ≤ v40.heap.size := hB.size
  go_wp2_with fail
  refine (s21 _).mono ?_
  rintro e v41 ⟨rfl, hb⟩
  have zz41 : v40.heap.size ≤ v41.heap.size := by have := hb.size; (try simp at this); omega
  replace f00 := kf hb x00 f00
  replace x00 := kc hb x00
  replace f01 := kf hb x01 f01
  replace x01 := kc hb x01
  replace f10 := kf hb x10 f10
  replace x10 := kc hb x10
  replace f11 := kf hb x11 f11
  replace x11 := kc hb x11
  replace f20 := kf hb x20 f20
  replace x20 := kc hb x20
  replace f21 := kf hb x21 f21
  replace x21 := kc hb x21
  replace hB : Below w.heap.size w v41 := bt (hB) hb
  clear hb
  have ly : w.heap.size ≤ v41.heap.size := hB.size
  go_wp2_with fail
  refine (of_agg (4611686018427387904) (1) _).mono ?_
  rintro e v42 ⟨rfl, hb⟩
  have zz42 : v41.heap.size ≤ v42.heap.size := by have := hb.size; (try simp at this); omega
  have ne42_0 : v29.heap.size ≠ v25.heap.size := by omega
  have en42_0 : v25.heap.size ≠ v29.heap.size := by omega
  have f00_ := kf hb (b := v25.heap.size) (o := 0) (v := .int .i64 4) (t := false) (by go_cell) (by go_cell)
  have x00_ := kc hb (b := v25.heap.size) (o := 0) (v := .int .i64 4) (by go_cell)
  have f01_ := kf hb (b := v25.heap.size) (o := 1) (v := .int .i64 15) (t := false) (by go_cell) (by go_cell)
  have x01_ := kc hb (b := v25.heap.size) (o := 1) (v := .int .i64 15) (by go_cell)
  have ne42_1 : v29.heap.size ≠ v27.heap.size := by omega
  have en42_1 : v27.heap.size ≠ v29.heap.size := by omega
  have f10_ := kf hb (b := v27.heap.size) (o := 0) (v := .int .i64 0) (t := false) (by go_cell) (by go_cell)
  have x10_ := kc hb (b := v27.heap.size) (o := 0) (v := .int .i64 0) (by go_cell)
  have f11_ := kf hb (b := v27.heap.size) (o := 1) (v := .int .i64 0) (t := false) (by go_cell) (by go_cell)
  have x11_ := kc hb (b := v27.heap.size) (o := 1) (v := .int .i64 0) (by go_cell)
  have f20_ := kf hb (b := v29.heap.size) (o := 0) (v := .int .i64 1) (t := false) (by go_cell) (by go_cell)
  have x20_ := kc hb (b := v29.heap.size) (o := 0) (v := .int .i64 1) (by go_cell)
  have f21_ := kf hb (b := v29.heap.size) (o := 1) (v := .int .i64 2) (t := false) (by go_cell) (by go_cell)
  have x21_ := kc hb (b := v29.heap.size) (o := 1) (v := .int .i64 2) (by go_cell)
  replace f00 := f00_
  replace x00 := x00_
  clear f00_ x00_
  replace f01 := f01_
  replace x01 := x01_
  clear f01_ x01_
  replace f10 := f10_
  replace x10 := x10_
  clear f10_ x10_
  replace f11 := f11_
  replace x11 := x11_
  clear f11_ x11_
  replace f20 := f20_
  replace x20 := x20_
  clear f20_ x20_
  replace f21 := f21_
  replace x21 := x21_
  clear f21_ x21_
  replace hB : Below w.heap.size w v42 := bt (bs (bs (hB) (by simp; omega) _) (by simp; omega) _) hb
  clear hb
  have ly : w.heap.size ≤ v42.heap.size := hB.size
  go_wp2_with fail
  refine (of_agg (4) (1) _).mono ?_
  rintro e v43 ⟨rfl, hb⟩
  have zz43 : v42.heap.size ≤ v43.heap.size := by have := hb.size; (try simp at this); omega
  replace f00 := kf hb x00 f00
  replace x00 := kc hb x00
  replace f01 := kf hb x01 f01
  replace x01 := kc hb x01
  replace f10 := kf hb x10 f10
  replace x10 := kc hb x10
  replace f11 := kf hb x11 f11
  replace x11 := kc hb x11
  replace f20 := kf hb x20 f20
  replace x20 := kc hb x20
  replace f21 := kf hb x21 f21
  replace x21 := kc hb x21
  replace hB : Below w.heap.size w v43 := bt (hB) hb
  clear hb
  have ly : w.heap.size ≤ v43.heap.size := hB.size
  go_wp2_with fail
  refine (s22 _).mono ?_
  rintro e v44 ⟨rfl, hb⟩
  have zz44 : v43.heap.size ≤ v44.heap.size := by have := hb.size; (try simp at this); omega
  replace f00 := kf hb x00 f00
  replace x00 := kc hb x00
  replace f01 := kf hb x01 f01
  replace x01 := kc hb x01
  replace f10 := kf hb x10 f10
  replace x10 := kc hb x10
  replace f11 := kf hb x11 f11
  replace x11 := kc hb x11
  replace f20 := kf hb x20 f20
  replace x20 := kc hb x20
  replace f21 := kf hb x21 f21
  replace x21 := kc hb x21
  replace hB : Below w.heap.size w v44 := bt (hB) hb
  clear hb
  have ly : w.heap.size ≤ v44.heap.size := hB.size
  have bl44_0 : v25.heap.size < v44.heap.size := by omega
  have bl44_1 : v27.heap.size < v44.heap.size := by omega
  have bl44_2 : v29.heap.size < v44.heap.size := by omega
  go_wp2_with fail
  refine (ratio_agg 4 15 _).mono ?_
  rintro e v45 ⟨rfl, hb⟩
  have zz45 : v44.heap.size ≤ v45.heap.size := by have := hb.size; (try simp at this); omega
  have f00_ := kf hb (kc (ba (Below.refl _ _) _) x00) (kf (ba (Below.refl _ _) _) x00 f00)
  have x00_ := kc hb (kc (ba (Below.refl _ _) _) x00)
  have f01_ := kf hb (kc (ba (Below.refl _ _) _) x01) (kf (ba (Below.refl _ _) _) x01 f01)
  have x01_ := kc hb (kc (ba (Below.refl _ _) _) x01)
  have f10_ := kf hb (kc (ba (Below.refl _ _) _) x10) (kf (ba (Below.refl _ _) _) x10 f10)
  have x10_ := kc hb (kc (ba (Below.refl _ _) _) x10)
  have f11_ := kf hb (kc (ba (Below.refl _ _) _) x11) (kf (ba (Below.refl _ _) _) x11 f11)
  have x11_ := kc hb (kc (ba (Below.refl _ _) _) x11)
  have f20_ := kf hb (kc (ba (Below.refl _ _) _) x20) (kf (ba (Below.refl _ _) _) x20 f20)
  have x20_ := kc hb (kc (ba (Below.refl _ _) _) x20)
  have f21_ := kf hb (kc (ba (Below.refl _ _) _) x21) (kf (ba (Below.refl _ _) _) x21 f21)
  have x21_ := kc hb (kc (ba (Below.refl _ _) _) x21)
  have f30_ := kf hb (b := v44.heap.size) (o := 0) (v := .int .i64 0) (t := false) (by go_cell) (by go_cell)
  have x30_ := kc hb (b := v44.heap.size) (o := 0) (v := .int .i64 0) (by go_cell)
  have f31_ := kf hb (b := v44.heap.size) (o := 1) (v := .int .i64 0) (t := false) (by go_cell) (by go_cell)
  have x31_ := kc hb (b := v44.heap.size) (o := 1) (v := .int .i64 0) (by go_cell)
  replace f00 := f00_
  replace x00 := x00_
  clear f00_ x00_
  replace f01 := f01_
  replace x01 := x01_
  clear f01_ x01_
  replace f10 := f10_
  replace x10 := x10_
  clear f10_ x10_
  replace f11 := f11_
  replace x11 := x11_
  clear f11_ x11_
  replace f20 := f20_
  replace x20 := x20_
  clear f20_ x20_
  replace f21 := f21_
  replace x21 := x21_
  clear f21_ x21_
  replace f30 := f30_
  replace x30 := x30_
  clear f30_ x30_
  replace f31 := f31_
  replace x31 := x31_
  clear f31_ x31_
  replace hB : Below w.heap.size w v45 := bt (ba (hB) _) hb
  have lz45 : v44.heap.size < v45.heap.size := by have := hb.size; (try simp at this); omega
  have ly45 : w.heap.size ≤ v44.heap.size := ly
  clear hb
  have ly : w.heap.size ≤ v45.heap.size := hB.size
  go_wp2_with fail
  refine (none_agg _).mono ?_
  rintro e v46 ⟨rfl, hb⟩
  have zz46 : v45.heap.size ≤ v46.heap.size := by have := hb.size; (try simp at this); omega
  replace f00 := kf hb x00 f00
  replace x00 := kc hb x00
  replace f01 := kf hb x01 f01
  replace x01 := kc hb x01
  replace f10 := kf hb x10 f10
  replace x10 := kc hb x10
  replace f11 := kf hb x11 f11
  replace x11 := kc hb x11
  replace f20 := kf hb x20 f20
  replace x20 := kc hb x20
  replace f21 := kf hb x21 f21
  replace x21 := kc hb x21
  replace f30 := kf hb x30 f30
  replace x30 := kc hb x30
  replace f31 := kf hb x31 f31
  replace x31 := kc hb x31
  replace hB : Below w.heap.size w v46 := bt (hB) hb
  clear hb
  have ly : w.heap.size ≤ v46.heap.size := hB.size
  go_wp2_with fail
  refine (ratio_agg 1 2 _).mono ?_
  rintro e v47 ⟨rfl, hb⟩
  have zz47 : v46.heap.size ≤ v47.heap.size := by have := hb.size; (try simp at this); omega
  replace f00 := kf hb x00 f00
  replace x00 := kc hb x00
  replace f01 := kf hb x01 f01
  replace x01 := kc hb x01
  replace f10 := kf hb x10 f10
  replace x10 := kc hb x10
  replace f11 := kf hb x11 f11
  replace x11 := kc hb x11
  replace f20 := kf hb x20 f20
  replace x20 := kc hb x20
  replace f21 := kf hb x21 f21
  replace x21 := kc hb x21
  replace f30 := kf hb x30 f30
  replace x30 := kc hb x30
  replace f31 := kf hb x31 f31
  replace x31 := kc hb x31
  replace hB : Below w.heap.size w v47 := bt (hB) hb
  clear hb
  have ly : w.heap.size ≤ v47.heap.size := hB.size
  go_wp2_with fail
  refine (none_agg _).mono ?_
  rintro e v48 ⟨rfl, hb⟩
  have zz48 : v47.heap.size ≤ v48.heap.size := by have := hb.size; (try simp at this); omega
  replace f00 := kf hb x00 f00
  replace x00 := kc hb x00
  replace f01 := kf hb x01 f01
  replace x01 := kc hb x01
  replace f10 := kf hb x10 f10
  replace x10 := kc hb x10
  replace f11 := kf hb x11 f11
  replace x11 := kc hb x11
  replace f20 := kf hb x20 f20
  replace x20 := kc hb x20
  replace f21 := kf hb x21 f21
  replace x21 := kc hb x21
  replace f30 := kf hb x30 f30
  replace x30 := kc hb x30
  replace f31 := kf hb x31 f31
  replace x31 := kc hb x31
  replace hB : Below w.heap.size w v48 := bt (hB) hb
  clear hb
  have ly : w.heap.size ≤ v48.heap.size := hB.size
  go_wp2
  go_ret
  exact ⟨rfl, hB⟩

end Go.Proofs.Ytjbbgmboifpidaa.Ex
