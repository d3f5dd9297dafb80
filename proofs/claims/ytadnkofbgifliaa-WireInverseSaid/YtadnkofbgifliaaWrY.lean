/-
  Layer 2 (wire): the law WirePrefix, walked.
-/
import Derived.Test.YtadnkofbgifliaaWrYa
import Derived.Deep.RegionHeld3
namespace Go.Proofs.Ytadnkofbgifliaa.Wr
open Go.RowKit

set_option maxRecDepth 100000 in
set_option maxHeartbeats 4000000 in
theorem prefix_any (K n : Int) (s : ByteArray) (a a' : Option Addr) (L : List Int) (T : List ByteArray) (l l' c c' : Nat) (hL : L.length = l) (hT : T.length = l') (hlc : l ≤ c) (hs : s.size ≤ 9223372036854775807) (hc : c ≤ 9223372036854775807) (hc' : l' ≤ 9223372036854775807) (w : World) (hl : IntsAt w a L) (hl' : StrsAt w a' T) (hTz : ∀ x ∈ T, x.size ≤ 9223372036854775807) (K2 n2 : Int) (s2 : ByteArray) (e2 e2' : Option Addr) (L2 : List Int) (T2 : List ByteArray) (l2 l2' c2 c2' : Nat) (hL2 : L2.length = l2) (hT2 : T2.length = l2') (hlc2 : l2 ≤ c2) (hs2 : s2.size ≤ 9223372036854775807) (hc2 : c2 ≤ 9223372036854775807) (hc2' : l2' ≤ 9223372036854775807) (hl2 : IntsAt w e2 L2) (hl2' : StrsAt w e2' T2) (hTz2 : ∀ x ∈ T2, x.size ≤ 9223372036854775807) (k0 : 0 ≤ K) (k1 : K < 256) (hn : inI n) (hn2 : inI n2) (hLb : ∀ x ∈ L, inI x) (hLb2 : ∀ x ∈ L2, inI x) :
    Calls Try.prog 8 #[.agg #[.int .u8 K, .int .i64 n, .string s, .slice a l c, .slice a' l' c'], .agg #[.int .u8 K2, .int .i64 n2, .string s2, .slice e2 l2 c2, .slice e2' l2' c2']] w fun e w' => e = .returned (.bool true) ∧ Below w.heap.size w w' := by
  have SA := Lib.hid sanity_any
  have BX := Lib.hid (fun (W : World) (h : Below w.heap.size w W) => bytes_any K n s a a' L T l l' c c' hL hT hlc K k0 k1 hn hs hc hc' W (at_below hl h) (sat_below hl' h) hLb hTz)
  have BY := Lib.hid (fun (W : World) (h : Below w.heap.size w W) => bytes_any K2 n2 s2 e2 e2' L2 T2 l2 l2' c2 c2' hL2 hT2 hlc2 K k0 k1 hn2 hs2 hc2 hc2' W (at_below hl2 h) (sat_below hl2' h) hLb2 hTz2)
  have SM := Lib.hid (fun (W : World) (h : Below w.heap.size w W) => same_any K n s a a' L T l l' c c' hL hT hlc hs hc hc' W (at_below hl h) (sat_below hl' h) hTz K2 n2 s2 e2 e2' L2 T2 l2 l2' c2 c2' hL2 hT2 hlc2 hs2 hc2 hc2' (at_below hl2 h) (sat_below hl2' h) hTz2 K k0 k1)
  have XI := Lib.hid (int_any n hn)
  obtain ⟨of1, of2, of3⟩ := one_facts n hn
  obtain ⟨pf1, pf2⟩ := by_facts K n n2 s s2 L L2 T T2 k0
  generalize byK K n s L T = X at *
  generalize byK K n2 s2 L2 T2 = Y at *
  generalize smK K n n2 s s2 L L2 T T2 = E at *
  generalize strI n = S at *
  have m0 : (0 : Int) ≤ min (X.size : Int) (Y.size : Int) := by omega
  have m1 : min (X.size : Int) (Y.size : Int) ≤ (X.size : Int) := by omega
  have m2 : min (X.size : Int) (Y.size : Int) ≤ (Y.size : Int) := by omega
  clear hl hl' hTz hL hT hl2 hl2' hTz2 hL2 hT2 hLb hLb2
  have hA : Below w.heap.size w ((w.alloc (.cells #[.int .u8 K, .int .i64 n, .string s, .slice a l c, .slice a' l' c'] 45)).alloc (.cells #[.int .u8 K2, .int .i64 n2, .string s2, .slice e2 l2 c2, .slice e2' l2' c2'] 45)) := by go_grown
  go_enter Try.func8, Try.ntmps8
  go_wp2_with fail
  have cA : ∀ W, Below ((w.alloc (.cells #[.int .u8 K, .int .i64 n, .string s, .slice a l c, .slice a' l' c'] 45)).alloc (.cells #[.int .u8 K2, .int .i64 n2, .string s2, .slice e2 l2 c2, .slice e2' l2' c2'] 45)).heap.size ((w.alloc (.cells #[.int .u8 K, .int .i64 n, .string s, .slice a l c, .slice a' l' c'] 45)).alloc (.cells #[.int .u8 K2, .int .i64 n2, .string s2, .slice e2 l2 c2, .slice e2' l2' c2'] 45)) W → W.cell? ⟨w.heap.size, 0, none⟩ = some (.int .u8 K) ∧ W.cell? ⟨w.heap.size, 1, none⟩ = some (.int .i64 n) ∧ W.cell? ⟨w.heap.size, 2, none⟩ = some (.string s) ∧ W.cell? ⟨w.heap.size, 3, none⟩ = some (.slice a l c) ∧ W.cell? ⟨w.heap.size, 4, none⟩ = some (.slice a' l' c') :=
    fun W h => ⟨kc h (by go_cell), kc h (by go_cell), kc h (by go_cell), kc h (by go_cell), kc h (by go_cell)⟩
  have cB : ∀ W, Below ((w.alloc (.cells #[.int .u8 K, .int .i64 n, .string s, .slice a l c, .slice a' l' c'] 45)).alloc (.cells #[.int .u8 K2, .int .i64 n2, .string s2, .slice e2 l2 c2, .slice e2' l2' c2'] 45)).heap.size ((w.alloc (.cells #[.int .u8 K, .int .i64 n, .string s, .slice a l c, .slice a' l' c'] 45)).alloc (.cells #[.int .u8 K2, .int .i64 n2, .string s2, .slice e2 l2 c2, .slice e2' l2' c2'] 45)) W → W.cell? ⟨w.heap.size + 1, 0, none⟩ = some (.int .u8 K2) ∧ W.cell? ⟨w.heap.size + 1, 1, none⟩ = some (.int .i64 n2) ∧ W.cell? ⟨w.heap.size + 1, 2, none⟩ = some (.string s2) ∧ W.cell? ⟨w.heap.size + 1, 3, none⟩ = some (.slice e2 l2 c2) ∧ W.cell? ⟨w.heap.size + 1, 4, none⟩ = some (.slice e2' l2' c2') :=
    fun W h => ⟨kc h (by go_cell), kc h (by go_cell), kc h (by go_cell), kc h (by go_cell), kc h (by go_cell)⟩
  generalize ((w.alloc (.cells #[.int .u8 K, .int .i64 n, .string s, .slice a l c, .slice a' l' c'] 45)).alloc (.cells #[.int .u8 K2, .int .i64 n2, .string s2, .slice e2 l2 c2, .slice e2' l2' c2'] 45)) = V at *
  have CA := Lib.hid cA
  have CB := Lib.hid cB
  clear cA cB
  refine (SA.out _).mono ?_
  rintro e w1 ⟨rfl, hB1⟩
  have HA := Lib.hid hA
  have HV := Lib.hid hB1
  clear hA
  go_wp2_with fail
  have a0 : ∀ W, Below w1.heap.size w1 W → W.cell? ⟨w.heap.size, 0, none⟩ = some (.int .u8 K) := fun W h => (CA.out W (bt HV.out h)).1
  have a1 : ∀ W, Below w1.heap.size w1 W → W.cell? ⟨w.heap.size, 1, none⟩ = some (.int .i64 n) := fun W h => (CA.out W (bt HV.out h)).2.1
  have a2 : ∀ W, Below w1.heap.size w1 W → W.cell? ⟨w.heap.size, 2, none⟩ = some (.string s) := fun W h => (CA.out W (bt HV.out h)).2.2.1
  have a3 : ∀ W, Below w1.heap.size w1 W → W.cell? ⟨w.heap.size, 3, none⟩ = some (.slice a l c) := fun W h => (CA.out W (bt HV.out h)).2.2.2.1
  have a4 : ∀ W, Below w1.heap.size w1 W → W.cell? ⟨w.heap.size, 4, none⟩ = some (.slice a' l' c') := fun W h => (CA.out W (bt HV.out h)).2.2.2.2
  have b0 : ∀ W, Below w1.heap.size w1 W → W.cell? ⟨w.heap.size + 1, 0, none⟩ = some (.int .u8 K2) := fun W h => (CB.out W (bt HV.out h)).1
  have b1 : ∀ W, Below w1.heap.size w1 W → W.cell? ⟨w.heap.size + 1, 1, none⟩ = some (.int .i64 n2) := fun W h => (CB.out W (bt HV.out h)).2.1
  have b2 : ∀ W, Below w1.heap.size w1 W → W.cell? ⟨w.heap.size + 1, 2, none⟩ = some (.string s2) := fun W h => (CB.out W (bt HV.out h)).2.2.1
  have b3 : ∀ W, Below w1.heap.size w1 W → W.cell? ⟨w.heap.size + 1, 3, none⟩ = some (.slice e2 l2 c2) := fun W h => (CB.out W (bt HV.out h)).2.2.2.1
  have b4 : ∀ W, Below w1.heap.size w1 W → W.cell? ⟨w.heap.size + 1, 4, none⟩ = some (.slice e2' l2' c2') := fun W h => (CB.out W (bt HV.out h)).2.2.2.2
  have HB := Lib.hid (bt HA.out hB1)
  clear hB1
  go_region_held3 (fun w' => Below w1.heap.size w1 w') (first | (with_reducible exact bd1 (Below.refl _ _)) | (with_reducible exact bt (by assumption) hba))
    (first | ((with_reducible refine (BX.out _ (bt HB.out (by assumption))).mono ?_); rintro en wa ⟨rfl, hba⟩)
           | ((with_reducible refine (BY.out _ (bt HB.out (by assumption))).mono ?_); rintro en wb ⟨rfl, hba⟩))
  go_wp2_with fail
  cases E
  all_goals
    go_region_held3 (fun w' => Below w1.heap.size w1 w') (first | (with_reducible exact bd1 (by assumption)) | (with_reducible exact bt (by assumption) hba))
      (first | ((with_reducible refine (SM.out _ (bt HB.out (by assumption))).mono ?_); rintro en wd ⟨rfl, hba⟩))
  all_goals
    have hW : Below w1.heap.size w1 wd := by with_reducible assumption
    have c1 : wd.cell? ⟨w.heap.size, 1, none⟩ = some (.int .i64 n) := a1 _ hW
    have hWW : Below w.heap.size w wd := bt HB.out hW
    clear a0 a1 a2 a3 a4 b0 b1 b2 b3 b4 hW
    go_wp2_with fail
    refine (XI.out _).mono ?_
    rintro e w5 ⟨rfl, hB5⟩
    have d1 := kc hB5 c1
    have hW5 := bt hWW hB5
    clear hWW hB5 c1
    have g1 : (1 : Int) ≤ (S.size : Int) := by omega
    have g2 : (S.size : Int) ≤ 10 := by omega
    rcases Int.lt_or_le n (-64) with q1 | q1
    · have of4 : ((S.size : Int) == 1) = false := by rw [of3]; exact decide_eq_false (by omega)
      have q2 : ¬ (-64 ≤ n) := by omega
      clear of1 of2 of3
      go_wp2_with fail
      go_ret
      exact ⟨rfl, hW5⟩
    · rcases Int.lt_or_le 63 n with q2 | q2
      · have of4 : ((S.size : Int) == 1) = false := by rw [of3]; exact decide_eq_false (by omega)
        have q3 : decide (n ≤ 63) = false := decide_eq_false (by omega)
        clear of1 of2 of3
        go_wp2_with fail
        go_ret
        exact ⟨rfl, hW5⟩
      · have of4 : ((S.size : Int) == 1) = true := by rw [of3]; exact decide_eq_true ⟨q1, q2⟩
        clear of1 of2 of3
        go_wp2_with fail
        go_ret
        exact ⟨rfl, hW5⟩
end Go.Proofs.Ytadnkofbgifliaa.Wr
