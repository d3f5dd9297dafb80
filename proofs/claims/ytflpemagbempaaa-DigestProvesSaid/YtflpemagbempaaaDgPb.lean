/-
  Layer 3 (digest): the law DigestProves, walked.
-/
import Derived.Test.YtflpemagbempaaaDgPa
namespace Go.Proofs.Ytflpemagbempaaa.Dg
open Go.RowKit
theorem beq_ints (a b : Nat) : ((a : Int) == (b : Int)) = decide (a = b) := by
  by_cases h : a = b
  · rw [decide_eq_true h, beq_iff_eq]; omega
  · rw [decide_eq_false h, beq_eq_false_iff_ne]; omega
set_option maxRecDepth 100000 in
set_option maxHeartbeats 8000000 in
theorem lawProves_any (l0 : List ByteArray) (a0 : Option Addr) (n0 c0 : Nat) (hn0 : l0.length = n0) (y0 z0 : Nat) (hy : y0 < 256) (hz : z0 < 256) (S : ByteArray) (at' x : Nat) (hat : at' < 256) (w : World) (hl0 : StrsAt w a0 l0) (hnc : n0 ≤ 9223372036854775807) (hz0 : ∀ x ∈ l0, x.size ≤ 9223372036854775807) :
    Calls Try.prog 8 #[.slice a0 n0 c0, .agg #[.int .u8 y0, .int .u8 z0], .agg #[.string S, .int .u8 at', .int .u8 x]] w fun e w' => e = .returned (.bool true) ∧ Below w.heap.size w w' := by
  have SA := Lib.hid sanity_any
  have LI := Lib.hid (fun W (h : Below w.heap.size w W) => list_any a0 l0 c0 n0 hn0 W (sat_below hl0 h) hnc hz0)
  have hlen : (cutL l0).length ≤ 20 := by rw [cutL_length]; omega
  have hcz := cutL_sizes l0
  clear hl0 hz0 hn0
  generalize cutL l0 = l at *
  go_enter Try.func8, Try.ntmps8
  go_wp2_with fail
  have cy : ((w.alloc (.cells #[.int .u8 y0, .int .u8 z0] 41)).alloc (.cells #[.string S, .int .u8 at', .int .u8 x] 27)).cell? ⟨w.heap.size, 0, none⟩ = some (.int .u8 y0) := by go_cell
  have cz : ((w.alloc (.cells #[.int .u8 y0, .int .u8 z0] 41)).alloc (.cells #[.string S, .int .u8 at', .int .u8 x] 27)).cell? ⟨w.heap.size, 1, none⟩ = some (.int .u8 z0) := by go_cell
  have o0 : ((w.alloc (.cells #[.int .u8 y0, .int .u8 z0] 41)).alloc (.cells #[.string S, .int .u8 at', .int .u8 x] 27)).cell? ⟨w.heap.size + 1, 0, none⟩ = some (.string S) := by go_cell
  have o1 : ((w.alloc (.cells #[.int .u8 y0, .int .u8 z0] 41)).alloc (.cells #[.string S, .int .u8 at', .int .u8 x] 27)).cell? ⟨w.heap.size + 1, 1, none⟩ = some (.int .u8 at') := by go_cell
  have o2 : ((w.alloc (.cells #[.int .u8 y0, .int .u8 z0] 41)).alloc (.cells #[.string S, .int .u8 at', .int .u8 x] 27)).cell? ⟨w.heap.size + 1, 2, none⟩ = some (.int .u8 x) := by go_cell
  have kW : Below w.heap.size w ((w.alloc (.cells #[.int .u8 y0, .int .u8 z0] 41)).alloc (.cells #[.string S, .int .u8 at', .int .u8 x] 27)) := ba (ba (Below.refl _ _) _) _
  generalize ((w.alloc (.cells #[.int .u8 y0, .int .u8 z0] 41)).alloc (.cells #[.string S, .int .u8 at', .int .u8 x] 27)) = W0 at *
  refine (SA.out _).mono ?_
  rintro e w1 ⟨rfl, k1⟩
  clear SA
  go_wp2_with fail
  refine (LI.out _ (bt kW k1)).mono ?_
  rintro e w2 ⟨v, rfl, hown, k2⟩
  clear LI
  obtain ⟨a, c, rfl, hl, _⟩ := row_bytes rfl hown
  clear hown
  replace k2 := bt k1 k2
  clear k1
  generalize hN : l.length = N at *
  have hl2 := Lib.hid hl
  have hcz2 := Lib.hid hcz
  clear hl hcz
  rcases Nat.eq_zero_or_pos N with h0 | h0
  · subst h0
    go_wp2_with fail
    go_ret
    exact ⟨rfl, bt kW k2⟩
  · have hi : y0 % N < N := Nat.mod_lt _ h0
    have m1 : (y0 : Int) % (N : Int) = ((y0 % N : Nat) : Int) := by omega
    have m2 : (y0 : Int).tmod (N : Int) = ((y0 % N : Nat) : Int) := by rw [Int.tmod_eq_emod_of_nonneg (by omega)]; omega
    have m3 : (z0 : Int) % 32 = ((z0 % 32 : Nat) : Int) := by omega
    have m4 : (z0 : Int).tmod 32 = ((z0 % 32 : Nat) : Int) := by rw [Int.tmod_eq_emod_of_nonneg (by omega)]; omega
    have hk : z0 % 32 < 32 := Nat.mod_lt _ (by omega)
    have hN0 : ¬ (N : Int) = 0 := by omega
    have bx0 := kc k2 (block_lt_of_cell cy) cy
    have bx1 := kc k2 (block_lt_of_cell cz) cz
    have q0 := kc k2 (block_lt_of_cell o0) o0
    have q1 := kc k2 (block_lt_of_cell o1) o1
    have q2 := kc k2 (block_lt_of_cell o2) o2
    clear cy cz o0 o1 o2
    generalize y0 % N = i at *
    generalize z0 % 32 = k at *
    go_wp2_with fail
    go_quiet (fail)
    have kV : Below w2.heap.size w2 (w2.drewN nq) := bd (Below.refl _ _) _
    replace q0 := kc kV (block_lt_of_cell q0) q0
    replace q1 := kc kV (block_lt_of_cell q1) q1
    replace q2 := kc kV (block_lt_of_cell q2) q2
    have hst := Lib.hid (sat_below hl2.out kV)
    have kA := bt (bt kW k2) kV
    clear bx0 bx1 kV k2
    generalize w2.drewN nq = V at *
    have hzz : ∀ s ∈ l, s.size ≤ 100000 := fun s hs => Nat.le_trans (hcz2.out s hs) (by omega)
    have hsi : (l[i]'(by rw [hN]; exact hi)).size ≤ 30 := hcz2.out _ (List.getElem_mem _)
    have hxi : l[i]? = some (l[i]'(by rw [hN]; exact hi)) := List.getElem?_eq_getElem _
    obtain ⟨bb, off, rfl, hc⟩ := hst.out i _ hxi
    have RA := Lib.hid (Root_any l (some ⟨bb, off, none⟩) N c hN (by omega) hzz V hst.out)
    have PA := Lib.hid (fun W (h : Below V.heap.size V W) => Prove_any l (some ⟨bb, off, none⟩) N c i hN (by omega) hzz hi W (sat_below hst.out h))
    have VT : vf (B (lv (g0 l) (ht N) 0)) (l[i]'(by rw [hN]; exact hi)) i (pfl l (ht N) i) = true := by subst hN; exact vf_proof l i hi (by omega)
    have hpl := pfl_length l (ht N) i
    have hht : ht N ≤ 20 := ht_bound (by omega)
    generalize hli : l[i]'(by rw [hN]; exact hi) = li at *
    generalize hro : B (lv (g0 l) (ht N) 0) = root at *
    generalize pfl l (ht N) i = pf at *
    clear hzz hst hl2 hcz2 hxi hli hro
    go_wp2_with fail
    refine RA.out.mono ?_
    rintro e w3 ⟨rfl, k3⟩
    clear RA
    go_wp2_with fail
    refine (PA.out _ k3).mono ?_
    rintro e w4 ⟨vp, rfl, hown, k4⟩
    clear PA
    obtain ⟨pa, pc, rfl, hp, _⟩ := row_bytes hpl hown
    clear hown
    replace k4 := bt k3 k4
    clear k3
    have ci := kc k4 (block_lt_of_cell hc) hc
    have CI := Lib.hid (fun W (h : Below w4.heap.size w4 W) => kc h (block_lt_of_cell ci) ci)
    have kT := bt kA k4
    have VF := Lib.hid (fun W (h : Below w4.heap.size w4 W) (lf : ByteArray) (hlf : lf.size ≤ 100000) (t : Nat) (h1000 : t < 1000) => Verify_any root lf t pf pa (ht N) pc hpl (by omega) (by omega) hlf W (sat_below hp h))
    have UP := Lib.hid (fun W (h : Below w4.heap.size w4 W) (lf : ByteArray) (t : Nat) (h1000 : t < 1000) => Up_any (leaf lf) (leaf_len lf) t pf pa (ht N) pc hpl (by omega) (by omega) W (sat_below hp h))
    have UPo := Lib.hid (fun W (h : Below w4.heap.size w4 W) => UP.out W h (chgO at' x li) i (by omega))
    have UPl := Lib.hid (fun W (h : Below w4.heap.size w4 W) => UP.out W h li k (by omega))
    clear UP
    have V0 := Lib.hid (VF.out w4 (Below.refl _ _) li (by omega) i (by omega))
    rw [VT] at V0
    clear VT hp
    go_wp2_with fail
    refine V0.out.mono ?_
    rintro e w5 ⟨rfl, k5⟩
    clear V0
    have c5 := kc k5 (block_lt_of_cell ci) ci
    have q05 := kc (bt k4 k5) (block_lt_of_cell q0) q0
    have q15 := kc (bt k4 k5) (block_lt_of_cell q1) q1
    have q25 := kc (bt k4 k5) (block_lt_of_cell q2) q2
    clear q0 q1 q2 ci hc
    have CH := Lib.hid (change_any S at' hat x li (by omega))
    have hoz : (chgO at' x li).size ≤ 30 := by rw [chgO_size]; exact hsi
    generalize chgO at' x li = ot at *
    go_wp2_with fail
    have x0 : ∀ W, Below w5.heap.size w5 W → W.cell? ⟨w.heap.size + 1, 0, none⟩ = some (.string S) := fun W h => kc h (block_lt_of_cell q05) q05
    have x1 : ∀ W, Below w5.heap.size w5 W → W.cell? ⟨w.heap.size + 1, 1, none⟩ = some (.int .u8 at') := fun W h => kc h (block_lt_of_cell q15) q15
    have x2 : ∀ W, Below w5.heap.size w5 W → W.cell? ⟨w.heap.size + 1, 2, none⟩ = some (.int .u8 x) := fun W h => kc h (block_lt_of_cell q25) q25
    have x3 : ∀ W, Below w5.heap.size w5 W → W.cell? ⟨bb, off + i, none⟩ = some (.string li) := fun W h => kc h (block_lt_of_cell c5) c5
    have ii0 : (0 : Int) ≤ i := by omega
    have ii1 : (i : Int) < N := by omega
    clear q05 q15 q25 c5
    go_region_held3 (fun w' => Below w5.heap.size w5 w') (first | (with_reducible exact bd1 (Below.refl _ _)) | (with_reducible assumption) | (with_reducible exact bt (by assumption) hba))
      (first | ((with_reducible refine (CH.out _).mono ?_); rintro en w6 ⟨rfl, hba⟩))
    have kk6 := bt k5 (by with_reducible assumption : Below w5.heap.size w5 w6)
    have LF1 := Lib.hid (rLeaf_any ot (by omega))
    have LF2 := Lib.hid (rLeaf_any li (by omega))
    have E1 := Lib.hid (vf_up root ot i pf)
    have E2 := Lib.hid (vf_up root li k pf)
    generalize B (leaf ot) = so at *
    generalize B (leaf li) = sl' at *
    have hol := str_dec ot li
    generalize decide (ot = li) = y at *
    clear x0 x1 x2 x3 CH k5
    go_wp2_with fail
    refine (LF1.out _).mono ?_
    rintro e w7 ⟨rfl, k7⟩
    have kk7 := bt kk6 k7
    go_wp2_with fail
    refine (UPo.out _ kk7).mono ?_
    rintro e w7b ⟨rfl, k7b⟩
    have kk := bt kk7 k7b
    have c7 := CI.out _ kk
    have V1 := Lib.hid (VF.out w7b kk ot (by omega) i (by omega))
    rw [E1.out] at V1
    clear UPo LF1 kk6 kk7 k7 k7b
    generalize upA (leaf li) k pf = r2 at *
    generalize upA (leaf ot) i pf = r1 at *
    cases r1 with
    | none =>
      simp only [upV]
      cases y with
      | true =>
        go_wp2_with fail
        refine (LF2.out _).mono ?_
        rintro e w8 ⟨rfl, k8⟩
        have kk8 := bt kk k8
        have c8 := CI.out _ kk8
        go_wp2_with fail
        refine (UPl.out _ kk8).mono ?_
        rintro e w9 ⟨rfl, k9⟩
        have kk9 := bt kk8 k9
        have c9 := CI.out _ kk9
        have V2 := Lib.hid (VF.out w9 kk9 li (by omega) k (by omega))
        rw [E2.out] at V2
        clear UPl VF LF2 c8 CI
        have hki := beq_ints k i
        by_cases hkk : k = i
        · rw [decide_eq_true hkk] at hki
          cases r2 with
          | none =>
            simp only [upV]
            go_wp2_with fail
            go_ret
            exact ⟨rfl, bt kT kk9⟩
          | some d2 =>
            simp only [upV]
            go_wp2_with fail
            go_ret
            exact ⟨rfl, bt kT kk9⟩
        · rw [decide_eq_false hkk] at hki
          cases r2 with
          | none =>
            simp only [upV]
            go_wp2_with fail
            refine V2.out.mono ?_
            rintro e w10 ⟨rfl, k10⟩
            go_wp2_with fail
            go_ret
            exact ⟨rfl, bt kT (bt kk9 k10)⟩
          | some d2 =>
            simp only [upV]
            have hd2 := str_dec (B d2) root
            simp only at V2
            generalize decide (B d2 = root) = z at *
            cases z with
            | true =>
              go_wp2_with fail
              go_ret
              exact ⟨rfl, bt kT kk9⟩
            | false =>
              go_wp2_with fail
              refine V2.out.mono ?_
              rintro e w10 ⟨rfl, k10⟩
              go_wp2_with fail
              go_ret
              exact ⟨rfl, bt kT (bt kk9 k10)⟩
      | false =>
        go_wp2_with fail
        refine (LF2.out _).mono ?_
        rintro e w8 ⟨rfl, k8⟩
        have kk8 := bt kk k8
        have c8 := CI.out _ kk8
        go_wp2_with fail
        refine (UPl.out _ kk8).mono ?_
        rintro e w9 ⟨rfl, k9⟩
        have kk9 := bt kk8 k9
        have c9 := CI.out _ kk9
        have V2 := Lib.hid (VF.out w9 kk9 li (by omega) k (by omega))
        rw [E2.out] at V2
        clear UPl VF LF2 c8 CI
        have hki := beq_ints k i
        by_cases hkk : k = i
        · rw [decide_eq_true hkk] at hki
          cases r2 with
          | none =>
            simp only [upV]
            go_wp2_with fail
            go_ret
            exact ⟨rfl, bt kT kk9⟩
          | some d2 =>
            simp only [upV]
            go_wp2_with fail
            go_ret
            exact ⟨rfl, bt kT kk9⟩
        · rw [decide_eq_false hkk] at hki
          cases r2 with
          | none =>
            simp only [upV]
            go_wp2_with fail
            refine V2.out.mono ?_
            rintro e w10 ⟨rfl, k10⟩
            go_wp2_with fail
            go_ret
            exact ⟨rfl, bt kT (bt kk9 k10)⟩
          | some d2 =>
            simp only [upV]
            have hd2 := str_dec (B d2) root
            simp only at V2
            generalize decide (B d2 = root) = z at *
            cases z with
            | true =>
              go_wp2_with fail
              go_ret
              exact ⟨rfl, bt kT kk9⟩
            | false =>
              go_wp2_with fail
              refine V2.out.mono ?_
              rintro e w10 ⟨rfl, k10⟩
              go_wp2_with fail
              go_ret
              exact ⟨rfl, bt kT (bt kk9 k10)⟩
    | some d1 =>
      simp only [upV]
      simp only at V1
      have hd1 := str_dec (B d1) root
      generalize decide (B d1 = root) = z1 at *
      cases y with
      | true =>
        go_wp2_with fail
        refine (LF2.out _).mono ?_
        rintro e w8 ⟨rfl, k8⟩
        have kk8 := bt kk k8
        have c8 := CI.out _ kk8
        go_wp2_with fail
        refine (UPl.out _ kk8).mono ?_
        rintro e w9 ⟨rfl, k9⟩
        have kk9 := bt kk8 k9
        have c9 := CI.out _ kk9
        have V2 := Lib.hid (VF.out w9 kk9 li (by omega) k (by omega))
        rw [E2.out] at V2
        clear UPl VF LF2 c8 CI
        have hki := beq_ints k i
        by_cases hkk : k = i
        · rw [decide_eq_true hkk] at hki
          cases r2 with
          | none =>
            simp only [upV]
            go_wp2_with fail
            go_ret
            exact ⟨rfl, bt kT kk9⟩
          | some d2 =>
            simp only [upV]
            go_wp2_with fail
            go_ret
            exact ⟨rfl, bt kT kk9⟩
        · rw [decide_eq_false hkk] at hki
          cases r2 with
          | none =>
            simp only [upV]
            go_wp2_with fail
            refine V2.out.mono ?_
            rintro e w10 ⟨rfl, k10⟩
            go_wp2_with fail
            go_ret
            exact ⟨rfl, bt kT (bt kk9 k10)⟩
          | some d2 =>
            simp only [upV]
            have hd2 := str_dec (B d2) root
            simp only at V2
            generalize decide (B d2 = root) = z at *
            cases z with
            | true =>
              go_wp2_with fail
              go_ret
              exact ⟨rfl, bt kT kk9⟩
            | false =>
              go_wp2_with fail
              refine V2.out.mono ?_
              rintro e w10 ⟨rfl, k10⟩
              go_wp2_with fail
              go_ret
              exact ⟨rfl, bt kT (bt kk9 k10)⟩
      | false =>
        cases z1 with
        | true =>
          go_wp2_with fail
          refine (LF2.out _).mono ?_
          rintro e w8 ⟨rfl, k8⟩
          have kk8 := bt kk k8
          have c8 := CI.out _ kk8
          go_wp2_with fail
          refine (UPl.out _ kk8).mono ?_
          rintro e w9 ⟨rfl, k9⟩
          have kk9 := bt kk8 k9
          have c9 := CI.out _ kk9
          have V2 := Lib.hid (VF.out w9 kk9 li (by omega) k (by omega))
          rw [E2.out] at V2
          clear UPl VF LF2 c8 CI
          have hki := beq_ints k i
          by_cases hkk : k = i
          · rw [decide_eq_true hkk] at hki
            cases r2 with
            | none =>
              simp only [upV]
              go_wp2_with fail
              go_ret
              exact ⟨rfl, bt kT kk9⟩
            | some d2 =>
              simp only [upV]
              go_wp2_with fail
              go_ret
              exact ⟨rfl, bt kT kk9⟩
          · rw [decide_eq_false hkk] at hki
            cases r2 with
            | none =>
              simp only [upV]
              go_wp2_with fail
              refine V2.out.mono ?_
              rintro e w10 ⟨rfl, k10⟩
              go_wp2_with fail
              go_ret
              exact ⟨rfl, bt kT (bt kk9 k10)⟩
            | some d2 =>
              simp only [upV]
              have hd2 := str_dec (B d2) root
              simp only at V2
              generalize decide (B d2 = root) = z at *
              cases z with
              | true =>
                go_wp2_with fail
                go_ret
                exact ⟨rfl, bt kT kk9⟩
              | false =>
                go_wp2_with fail
                refine V2.out.mono ?_
                rintro e w10 ⟨rfl, k10⟩
                go_wp2_with fail
                go_ret
                exact ⟨rfl, bt kT (bt kk9 k10)⟩
        | false =>
          go_wp2_with fail
          refine V1.out.mono ?_
          rintro e w7c ⟨rfl, k7c⟩
          replace kk := bt kk k7c
          have c7c := CI.out _ kk
          go_wp2_with fail
          refine (LF2.out _).mono ?_
          rintro e w8 ⟨rfl, k8⟩
          have kk8 := bt kk k8
          have c8 := CI.out _ kk8
          go_wp2_with fail
          refine (UPl.out _ kk8).mono ?_
          rintro e w9 ⟨rfl, k9⟩
          have kk9 := bt kk8 k9
          have c9 := CI.out _ kk9
          have V2 := Lib.hid (VF.out w9 kk9 li (by omega) k (by omega))
          rw [E2.out] at V2
          clear UPl VF LF2 c8 CI
          have hki := beq_ints k i
          by_cases hkk : k = i
          · rw [decide_eq_true hkk] at hki
            cases r2 with
            | none =>
              simp only [upV]
              go_wp2_with fail
              go_ret
              exact ⟨rfl, bt kT kk9⟩
            | some d2 =>
              simp only [upV]
              go_wp2_with fail
              go_ret
              exact ⟨rfl, bt kT kk9⟩
          · rw [decide_eq_false hkk] at hki
            cases r2 with
            | none =>
              simp only [upV]
              go_wp2_with fail
              refine V2.out.mono ?_
              rintro e w10 ⟨rfl, k10⟩
              go_wp2_with fail
              go_ret
              exact ⟨rfl, bt kT (bt kk9 k10)⟩
            | some d2 =>
              simp only [upV]
              have hd2 := str_dec (B d2) root
              simp only at V2
              generalize decide (B d2 = root) = z at *
              cases z with
              | true =>
                go_wp2_with fail
                go_ret
                exact ⟨rfl, bt kT kk9⟩
              | false =>
                go_wp2_with fail
                refine V2.out.mono ?_
                rintro e w10 ⟨rfl, k10⟩
                go_wp2_with fail
                go_ret
                exact ⟨rfl, bt kT (bt kk9 k10)⟩
end Go.Proofs.Ytflpemagbempaaa.Dg
