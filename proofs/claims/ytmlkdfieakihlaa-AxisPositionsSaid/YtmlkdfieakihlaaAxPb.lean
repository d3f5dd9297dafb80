/-
  Layer 5 (axis): AxisPositions walked.
-/
import Derived.Test.YtmlkdfieakihlaaAxP
import Derived.Test.YtmlkdfieakihlaaAxPa
namespace Go.Proofs.Ytmlkdfieakihlaa.Ax
open Go.RowKit
theorem oa_below {w W : World} {B : Nat} {a : Option Addr} {n : Nat} {g : Nat → Axs} (h : OA w B a n g) (hB : Below w.heap.size w W) : OA W B a n g := fun i hi => by
  obtain ⟨b, e, hb, hc, hz⟩ := h i hi
  exact ⟨b, e, hb, axat_below hc hB, fun j => kf hB (block_lt_of_cell hc.1) (hz j)⟩
theorem oa_zero {w : World} {B : Nat} {a : Option Addr} {n : Nat} {g : Nat → Axs} (h : OA w B a n g) : OA w 0 a n g := fun i hi => by
  obtain ⟨b, e, _, hc, hz⟩ := h i hi
  exact ⟨b, e, Nat.zero_le _, hc, hz⟩
theorem la_cut {w : World} {a : Option Addr} {n m : Nat} {g : Nat → Int} (h : LA w a n g) (hm : m ≤ n) : LA w a m g := fun i hi => h i (by omega)
theorem good_put {V : World} {B b k c j f : Nat} {g : Nat → Axs} {v : Value} (x : Axs) (h : OA V B (some ⟨b, 0, none⟩) k g) (hok : ∀ i, i < k → mdOk (g i) i) (hk : k ≤ 3) (h1 : k ≤ c) (h2 : c ≤ 9223372036854775807) (hj : j < k) (hf : f < 4)
    (h0 : f = 0 → v = .string x.t) (h1' : f = 1 → v = .int .i64 x.l) (h2' : f = 2 → v = .int .i64 x.u) (h3 : f = 3 → v = .int .i64 x.h)
    (e0 : f ≠ 0 → x.t = (g j).t) (e1 : f ≠ 1 → x.l = (g j).l) (e2 : f ≠ 2 → x.u = (g j).u) (e3 : f ≠ 3 → x.h = (g j).h) (hx : f = 0 → x.t.size ≤ 9223372036854775807) :
    Good (V.setCell ⟨b, j * 4 + f, none⟩ v) (some ⟨b, 0, none⟩) k c :=
  ⟨_, by omega, h1, h2, aa_put (oa_zero h) hj hf h0 h1' h2' h3 e0 e1 e2 e3, fun i hi => by
    have hg : ∀ i, i < k → (g i).t.size ≤ 9223372036854775807 := fun i hi => by rw [(hok i hi).1]; unfold tagN; split; (simp [ByteArray.size]); split <;> simp [ByteArray.size]
    by_cases hij : i = j
    · simp only [hij, if_true]
      by_cases hf0 : f = 0
      · exact hx hf0
      · rw [e0 hf0]; exact hg j hj
    · simp only [if_neg hij]; exact hg i hi⟩
theorem umod (x : Int) (k : Nat) (hk : 0 < k) (hk3 : k ≤ 3) : ∃ j : Nat, j < k ∧ IntKind.u64.wrap (k : Int) = (k : Int) ∧ (IntKind.u64.wrap x).tmod (k : Int) = (j : Int) ∧ IntKind.u64.wrap (j : Int) = (j : Int) ∧ IntKind.i64.wrap (j : Int) = (j : Int) := by
  have h0 : 0 ≤ IntKind.u64.wrap x := by
    rw [IntKind.wrap_u64]; exact Int.emod_nonneg _ (by decide)
  refine ⟨((IntKind.u64.wrap x).tmod (k : Int)).toNat, ?_, IntWalk.u64_in _ (by omega), ?_, ?_, ?_⟩
  all_goals rw [Int.tmod_eq_emod_of_nonneg h0]
  all_goals
    have a1 := Int.emod_nonneg (IntKind.u64.wrap x) (show (k : Int) ≠ 0 by omega)
    have a2 := Int.emod_lt_of_pos (IntKind.u64.wrap x) (show (0 : Int) < (k : Int) by omega)
  · omega
  · omega
  · exact IntWalk.u64_in _ (by omega)
  · exact IntWalk.i64_in _ (by omega)
theorem jmod (j m : Nat) (hm : 0 < m) (hm4 : m ≤ 4) : ((m : Int) == 0) = false ∧ ¬ (m : Int) = 0 ∧ (j : Int).tmod (m : Int) = ((j % m : Nat) : Int) ∧ j % m < m ∧ wrap64 ((j % m : Nat) : Int) = ((j % m : Nat) : Int) ∧ (0 : Int) ≤ ((j % m : Nat) : Int) ∧ ((j % m : Nat) : Int) < (m : Int) := by
  have h1 := Nat.mod_lt j hm
  refine ⟨beq_eq_false_iff_ne.2 (by omega), by omega, ?_, h1, w64 (by omega), by omega, by omega⟩
  rw [Int.tmod_eq_emod_of_nonneg (by omega)]; omega
theorem litP3 (V : World) (T : TypeId) (v0 v1 v2 : Value) : (V.alloc (.cells #[v0, v1, v2] T)).cell? ⟨V.heap.size, 0, none⟩ = some v0 ∧ (V.alloc (.cells #[v0, v1, v2] T)).cell? ⟨V.heap.size, 1, none⟩ = some v1 ∧ (V.alloc (.cells #[v0, v1, v2] T)).cell? ⟨V.heap.size, 2, none⟩ = some v2 := ⟨by go_cell, by go_cell, by go_cell⟩
def PsRel (VS : World) (s : Value) (V : World) : Prop := ∃ k : Nat, s = .int .i64 k ∧ k ≤ 3 ∧ Below VS.heap.size VS V
def PiRel (V6 : World) (F n : Nat) (s : Value) (V : World) : Prop := ∃ (k : Nat) (h : Nat → Int), s = .int .i64 k ∧ k ≤ n ∧ OI V F n h ∧ Below V6.heap.size V6 V
def PiCut (V6 : World) (F n j : Nat) (s : Value) (V : World) : Prop := ∃ (h : Nat → Int), s = .int .i64 j ∧ OI V F n h ∧ Below V6.heap.size V6 V
theorem pi_next {V V' : World} {F n j : Nat} {h : Nat → Int} (hj : j < n) (hO : OI V' F n h) (hB : Below V.heap.size V V') : PiRel V F n (.int .i64 ((j : Int) + 1)) V' := ⟨j + 1, h, rfl, by omega, hO, hB⟩
theorem meas3p (k : Nat) (h : k < 3) : 3 - (intOf (Value.int .i64 ((k : Int) + 1))).toNat < 3 - (intOf (Value.int .i64 (k : Int))).toNat := by simp [intOf]; omega
theorem measP (n k : Nat) (h : k < n) : n - (intOf (Value.int .i64 ((k : Int) + 1))).toNat < n - (intOf (Value.int .i64 (k : Int))).toNat := by simp [intOf]; omega
set_option maxRecDepth 100000 in
set_option maxHeartbeats 16000000 in
theorem Positions_any (a : Option Addr) (L c : Nat) (l : Nat → Int) (pa : Option Addr) (M d : Nat) (p : Nat → Int) (ra : Option Addr) (K e : Nat) (rg : Nat → Axs) (x y z : Int)
    (hL : L ≤ c ∧ c ≤ 9223372036854775807) (hl : ∀ i, i < L → R64 (l i)) (hM : M ≤ d ∧ d ≤ 9223372036854775807) (hK : K ≤ e ∧ e ≤ 9223372036854775807) (hs : ∀ i, i < K → (rg i).t.size ≤ 9223372036854775807) (_hx : R64 x) (_hy : R64 y) (_hz : R64 z) (w : World) (hA : LA w a L l) (hP : LA w pa M p) (hR : AA w ra K rg) :
    Calls Try.prog 3 #[.slice a L c, .slice pa M d, .slice ra K e, .agg #[.int .i64 x, .int .i64 y, .int .i64 z]] w fun en w' => en = .returned (.bool true) ∧ Below w.heap.size w w' := by
  obtain ⟨hL1, hL2⟩ := hL
  obtain ⟨hM1, hM2⟩ := hM
  obtain ⟨hK1, hK2⟩ := hK
  have SN := Lib.hid sanity_any
  obtain ⟨L', eL⟩ : ∃ L' : Nat, min L 30 = L' := ⟨_, rfl⟩
  obtain ⟨M', eM⟩ : ∃ M' : Nat, min M 4 = M' := ⟨_, rfl⟩
  obtain ⟨K', eK⟩ : ∃ K' : Nat, min K 5 = K' := ⟨_, rfl⟩
  have fL : min (L : Int) 30 = (L' : Int) := by omega
  have fM : min (M : Int) 4 = (M' : Int) := by omega
  have fK : min (K : Int) 5 = (K' : Int) := by omega
  have gL : (L' : Int) ≤ (c : Int) := by omega
  have gM : (M' : Int) ≤ (d : Int) := by omega
  have gK : (K' : Int) ≤ (e : Int) := by omega
  have MD : Hid (∀ V, Below w.heap.size w V → _) := Lib.hid (fun V h => Made_any a L' c l (by omega) (fun i hi => hl i (by omega)) V (la_cut (la_below hA h) (by omega)))
  have LP := Lib.hid (fun V (h : Below w.heap.size w V) => la_cut (m := M') (la_below hP h) (by omega))
  have GR : Hid (Good w ra K' e) := Lib.hid ⟨rg, by omega, by omega, hK2, aa_less hR (by omega), fun i hi => hs i (by omega)⟩
  have hM4 : M' ≤ 4 := by omega
  clear hA hP hR hl hs
  go_enter Try.func3, Try.ntmps3
  go_wp2_with fail
  have hbx : (w.alloc (.cells #[.int .i64 x, .int .i64 y, .int .i64 z] 24)).cell? ⟨w.heap.size, 0, none⟩ = some (.int .i64 x) ∧ (w.alloc (.cells #[.int .i64 x, .int .i64 y, .int .i64 z] 24)).cell? ⟨w.heap.size, 1, none⟩ = some (.int .i64 y) ∧ (w.alloc (.cells #[.int .i64 x, .int .i64 y, .int .i64 z] 24)).cell? ⟨w.heap.size, 2, none⟩ = some (.int .i64 z) := ⟨by go_cell, by go_cell, by go_cell⟩
  refine (SN.out _).mono ?_
  rintro en V0 ⟨rfl, hB⟩
  obtain ⟨p0, p1, p2⟩ := hbx
  replace p0 := kc hB (block_lt_of_cell p0) p0
  replace p1 := kc hB (block_lt_of_cell p1) p1
  replace p2 := kc hB (block_lt_of_cell p2) p2
  replace hB := bt (ba (Below.refl w.heap.size w) _) hB
  go_upto_region 2 with (fail)
  go_quiet (fail)
  go_wp2_with fail
  refine (MD.out _ (bd hB _)).mono ?_
  rintro en V1 ⟨a1, k1, c1, g1, rfl, h11, h12, h13, hO1, hm1, hB1⟩
  have G1 := good_made hO1 h11 h12 h13 hm1
  replace p0 := kc hB1 (by simpa using block_lt_of_cell p0) p0
  replace p1 := kc hB1 (by simpa using block_lt_of_cell p1) p1
  replace p2 := kc hB1 (by simpa using block_lt_of_cell p2) p2
  replace hB := bt (bd hB _) hB1
  clear hO1 hm1 h11 h12 h13 hB1
  go_wp2_with fail
  refine (MD.out _ hB).mono ?_
  rintro en V2 ⟨a2, k2, c2, g2, rfl, h21, h22, h23, hO2, hm2, hB2⟩
  replace p0 := kc hB2 (block_lt_of_cell p0) p0
  replace p1 := kc hB2 (block_lt_of_cell p1) p1
  replace p2 := kc hB2 (block_lt_of_cell p2) p2
  replace GR := Lib.hid (good_below GR.out hB)
  have hBV := bt hB hB2
  clear MD SN
  go_upto_if 43 with (fail)
  go_cut [11] (fun s11 V => s11 = .slice a2 k2 c2 ∧ Good V a2 k2 c2 ∧ Below V1.heap.size V1 V)
  case first =>
    have G2 : Hid (Good V2 a2 k2 c2) := Lib.hid (good_made hO2 h21 h22 h23 hm2)
    rcases Nat.eq_zero_or_pos k2 with rfl | hk2
    · go_wp2_with fail
      go_meet
      exact ⟨rfl, G2.out, hB2⟩
    · obtain ⟨b2, rfl, hb2, hc0, hz0⟩ := id (hO2 0 hk2)
      obtain ⟨j, hj, j1, j2, j3, j4⟩ := umod x k2 hk2 h21
      have PUT : Hid (∀ (f : Nat) (v : Value) (X : Axs) (V : World), Below V2.heap.size V2 V → f < 4 → (f = 0 → v = .string X.t) → (f = 1 → v = .int .i64 X.l) → (f = 2 → v = .int .i64 X.u) → (f = 3 → v = .int .i64 X.h) → (f ≠ 0 → X.t = (g2 j).t) → (f ≠ 1 → X.l = (g2 j).l) → (f ≠ 2 → X.u = (g2 j).u) → (f ≠ 3 → X.h = (g2 j).h) → (f = 0 → X.t.size ≤ 9223372036854775807) → Good (V.setCell ⟨b2, j * 4 + f, none⟩ v) (some ⟨b2, 0, none⟩) k2 c2 ∧ Below V1.heap.size V1 (V.setCell ⟨b2, j * 4 + f, none⟩ v)) :=
        Lib.hid (fun f v X V h hf q0 q1 q2 q3 r0 r1 r2 r3 hX => ⟨good_put X (oa_below hO2 h) hm2 h21 h22 h23 hj hf q0 q1 q2 q3 r0 r1 r2 r3 hX, bs (bt hB2 h) hb2 _⟩)
      obtain ⟨b', e', _, ⟨c0, c1', c2', c3'⟩, hz⟩ := id (hO2 j hj)
      cases e'
      have i0 : (0 : Int) ≤ (j : Int) := by omega
      have i1 : (j : Int) < (k2 : Int) := by omega
      have i2 : ((k2 : Int) == 0) = false := beq_eq_false_iff_ne.2 (by omega)
      have i3 : ¬ (k2 : Int) = 0 := by omega
      have i4 : decide ((k2 : Int) > 0) = true := decide_eq_true (by omega)
      have i5 : (0 : Int) < (k2 : Int) := by omega
      obtain ⟨y', hy', hy4⟩ : ∃ y' : Int, (IntKind.u64.wrap y).tmod 4 = y' ∧ (y' = 0 ∨ y' = 1 ∨ y' = 2 ∨ y' = 3) := by
        refine ⟨_, rfl, ?_⟩
        have h0 : 0 ≤ IntKind.u64.wrap y := by rw [IntKind.wrap_u64]; exact Int.emod_nonneg _ (by decide)
        rw [Int.tmod_eq_emod_of_nonneg h0]; omega
      clear hO2 hm2
      rcases hy4 with rfl | rfl | rfl | rfl
      · go_wp2_with fail
        go_meet
        exact ⟨rfl, PUT.out 1 _ ⟨(g2 j).t, z, (g2 j).u, (g2 j).h⟩ _ (Below.refl _ _) (by omega) (by omega) (fun _ => rfl) (by omega) (by omega) (fun _ => rfl) (by omega) (fun _ => rfl) (fun _ => rfl) (by omega)⟩
      · go_wp2_with fail
        go_meet
        exact ⟨rfl, PUT.out 2 _ ⟨(g2 j).t, (g2 j).l, z, (g2 j).h⟩ _ (Below.refl _ _) (by omega) (by omega) (by omega) (fun _ => rfl) (by omega) (fun _ => rfl) (fun _ => rfl) (by omega) (fun _ => rfl) (by omega)⟩
      · go_wp2_with fail
        go_meet
        exact ⟨rfl, PUT.out 3 _ ⟨(g2 j).t, (g2 j).l, (g2 j).u, z⟩ _ (Below.refl _ _) (by omega) (by omega) (by omega) (by omega) (fun _ => rfl) (fun _ => rfl) (fun _ => rfl) (fun _ => rfl) (by omega) (by omega)⟩
      · obtain ⟨z', hz', hz5⟩ : ∃ z' : Int, (IntKind.u64.wrap z).tmod 5 = z' ∧ (z' = 0 ∨ z' = 1 ∨ z' = 2 ∨ z' = 3 ∨ z' = 4) := by
          refine ⟨_, rfl, ?_⟩
          have h0 : 0 ≤ IntKind.u64.wrap z := by rw [IntKind.wrap_u64]; exact Int.emod_nonneg _ (by decide)
          rw [Int.tmod_eq_emod_of_nonneg h0]; omega
        have p2' : ∀ O, (V2.alloc O).cell? ⟨w.heap.size, 2, none⟩ = some (.int .i64 z) := fun O => kc (ba (Below.refl _ _) O) (block_lt_of_cell p2) p2
        have c4 : ∀ O, (V2.alloc O).cell? ⟨b2, j * 4, none⟩ = some (.string (g2 j).t) := fun O => kc (ba (Below.refl _ _) O) (block_lt_of_cell c0) c0
        have c5 : ∀ O, (V2.alloc O).frozen? ⟨b2, j * 4, none⟩ = false := fun O => kf (ba (Below.refl _ _) O) (block_lt_of_cell c0) (hz (j * 4))
        rcases hz5 with rfl | rfl | rfl | rfl | rfl
        all_goals
          go_wp2_with fail
          go_meet
          exact ⟨rfl, PUT.out 0 (.string _) ⟨_, (g2 j).l, (g2 j).u, (g2 j).h⟩ _ (ba (Below.refl _ _) _) (by omega) (fun _ => rfl) (by omega) (by omega) (by omega) (by omega) (fun _ => rfl) (fun _ => rfl) (fun _ => rfl) (fun _ => by simp [ByteArray.size])⟩
  case rest =>
    obtain ⟨rfl, G2, hB3⟩ := hcut
    rename World => V3
    replace hBV := bt hB hB3
    replace G1 := good_below G1 hB3
    have GR3 := good_below GR.out hB3
    clear p0 p1 p2 hO2 hm2 hB2 GR hB3 eL eM eK fL fM fK gL gM gK hL1 hL2 hM1 hM2 hK1 hK2 _hx _hy _hz h21 h22 h23 hB
    go_wp2_with fail
    generalize hVS : World.alloc V3 _ = VS
    have hb : Below V3.heap.size V3 VS := by rw [← hVS]; exact ba (Below.refl _ _) _
    have y0 : VS.cell? ⟨V3.heap.size, 0, none⟩ = some (.slice a1 k1 c1) := by rw [← hVS]; exact (litP3 _ _ _ _ _).1
    have y1 : VS.cell? ⟨V3.heap.size, 1, none⟩ = some (.slice a2 k2 c2) := by rw [← hVS]; exact (litP3 _ _ _ _ _).2.1
    have y2 : VS.cell? ⟨V3.heap.size, 2, none⟩ = some (.slice ra K' e) := by rw [← hVS]; exact (litP3 _ _ _ _ _).2.2
    obtain ⟨Q, hQ⟩ : ∃ Q, Q = V3.heap.size := ⟨_, rfl⟩
    rw [← hQ] at y0 y1 y2 ⊢
    have hC : Hid (∀ (k : Nat) (V : World), k < 3 → Below VS.heap.size VS V → ∃ a n c, V.cell? ⟨Q, k, none⟩ = some (.slice a n c) ∧ Good V a n c) := Lib.hid (fun k V hk h => by
      have hbb := bt hb h
      have : k = 0 ∨ k = 1 ∨ k = 2 := by omega
      rcases this with rfl | rfl | rfl
      · exact ⟨_, _, _, kc h (block_lt_of_cell y0) y0, good_below G1 hbb⟩
      · exact ⟨_, _, _, kc h (block_lt_of_cell y1) y1, good_below G2 hbb⟩
      · exact ⟨_, _, _, kc h (block_lt_of_cell y2) y2, good_below GR3 hbb⟩)
    replace hBV := bt hBV hb
    clear hb y0 y1 y2 G1 G2 GR3 hQ hVS
    go_loopw [96] (fun s V => PsRel VS s V) (fun s _ => 3 - (intOf s).toNat)
    case atStart => exact ⟨0, rfl, by omega, Below.refl _ _⟩
    case round =>
      obtain ⟨k, rfl, hk, hVV⟩ := hrel
      rename World => V
      rcases Nat.lt_or_ge k 3 with hk3 | hk3
      · obtain ⟨ax, n, cx, hcx, g, hn5, hnc, hc9, hAX, hsz⟩ := hC.out k V hk3 hVV
        have hN : Hid (∀ V', Below V.heap.size V V' → PsRel VS (.int .i64 ((k : Int) + 1)) V') := Lib.hid (fun V' h => ⟨k + 1, rfl, by omega, bt hVV h⟩)
        have PV := Lib.hid (LP.out V (bt hBV hVV))
        have AX := Lib.hid hAX
        have SZ := Lib.hid hsz
        have NA := Lib.hid (fun V' h => Norm_all ax n cx g pa M' d p ⟨hnc, hc9⟩ V' (aa_below AX.out h) (la_below PV.out h))
        have NB := Lib.hid (fun V' h => rNorm_all ax n cx g pa M' d p SZ.out V' (aa_below AX.out h) (la_below PV.out h))
        have CA := Lib.hid (fun V' h => Check_any ax n cx g ⟨hnc, hc9⟩ V' (aa_below AX.out h))
        have CB := Lib.hid (fun V' h => rCheck_any ax n cx g SZ.out V' (aa_below AX.out h))
        have hkk := nmK2_le g n M'
        have mk := meas3p k hk3
        have q0 : decide ((k : Int) < 3) = true := decide_eq_true (by omega)
        have q1 : (0 : Int) ≤ (k : Int) := by omega
        have q2 : (k : Int) < 3 := by omega
        have q3 : wrap64 ((k : Int) + 1) = (k : Int) + 1 := w64 (by omega)
        generalize nmK2 g n M' = kk at *
        generalize nmE g n M' = E at *
        generalize ckL g n = zz at *
        clear hAX hsz hVV hC LP
        have hV := Below.refl V.heap.size V
        go_wp2_with fail
        refine (NA.out _ hV).mono ?_
        rintro en Va ⟨S1, cc1, rfl, hS1, hb⟩
        replace hV := bt hV hb
        clear hb NA
        go_wp2_with fail
        refine (NB.out _ hV).mono ?_
        rintro en Vb ⟨S2, cc2, rfl, hS2, hb⟩
        replace hV := bt hV hb
        replace hS1 := la_below hS1 hb
        have SM := Lib.hid (fun V' h => Same_any S1 S2 kk cc1 cc2 _ (by omega) V' (la_below hS1 h) (la_below hS2 h))
        clear hb NB hS1 hS2
        have hU := Below.refl Vb.heap.size Vb
        go_wp2_with fail
        refine (CA.out _ (bt hV hU)).mono ?_
        rintro en Vc ⟨rfl, hb⟩
        replace hU := bt hU hb
        clear hb CA
        go_wp2_with fail
        refine (CB.out _ (bt hV hU)).mono ?_
        rintro en Vd ⟨rfl, hb⟩
        replace hU := bt hU hb
        clear hb CB
        go_wp2_with fail
        refine (SM.out _ hU).mono ?_
        rintro en Ve ⟨rfl, hb⟩
        replace hU := bt hU hb
        replace hV := bt hV hU
        clear hb SM hU
        obtain ⟨V7, hmk, hO, hB7, hlt⟩ := make_ints Ve n (by omega)
        obtain ⟨F, hF⟩ : ∃ F, F = Ve.heap.size := ⟨_, rfl⟩
        rw [← hF] at hmk hO hlt
        have hVF : V.heap.size ≤ F := by rw [hF]; exact hV.size
        replace hV := bt hV hB7
        clear hB7 hF
        go_wp2_with fail
        clear hmk
        go_loopw [133] (fun s V' => PiRel V F n s V') (fun s _ => n - (intOf s).toNat)
        case atStart => exact ⟨0, _, rfl, by omega, hO, hV⟩
        case round =>
          clear hO hV hlt
          obtain ⟨j, h, rfl, hj, hO, hV⟩ := hrel
          rename World => V8
          rcases Nat.lt_or_ge j n with hjn | hjn
          · have r0 : decide ((j : Int) < (n : Int)) = true := decide_eq_true (by omega)
            have r1 : (0 : Int) ≤ (j : Int) := by omega
            have r2 : (j : Int) < (n : Int) := by omega
            have r3 : wrap64 ((j : Int) + 1) = (j : Int) + 1 := w64 (by omega)
            go_upto_if 138 with (fail)
            go_cut [20] (fun s V' => PiCut V F n j s V')
            case first =>
              rcases Nat.eq_zero_or_pos M' with rfl | hm
              · go_wp2_with fail
                go_meet
                exact ⟨h, rfl, hO, hV⟩
              · obtain ⟨u1, u2, u3, u4, u5, u6, u7⟩ := jmod j M' hm hM4
                have u8 : decide ((M' : Int) > 0) = true := decide_eq_true (by omega)
                have u9 : (0 : Int) < (M' : Int) := by omega
                obtain ⟨pb, po, rfl, hp⟩ := la_below PV.out hV (j % M') u4
                obtain ⟨s0, s1⟩ := hO j hjn
                have R : Hid (∀ V', V' = V8 → PiCut V F n j (.int .i64 j) (V'.setCell ⟨F, j, none⟩ (.int .i64 (p (j % M'))))) := Lib.hid (fun V' e => by
                  subst e
                  exact ⟨fun i => if i = j then p (j % M') else h i, rfl, oi_set hO hjn (fun i => rfl), bs hV hVF _⟩)
                clear hO
                generalize j % M' = jm at *
                go_wp2_with fail
                go_meet
                exact R.out _ rfl
            case rest =>
              clear hO hV
              obtain ⟨h', rfl, hO, hV⟩ := hcut
              rename World => V9
              obtain ⟨b, o, rfl, x0, x1, x2, x3⟩ := aa_below AX.out hV j hjn
              obtain ⟨s0, _⟩ := hO j hjn
              have UA := Lib.hid (fun w => User_any (g j) (h' j) w)
              have UB := Lib.hid (fun w => rUser_any (g j) (h' j) (SZ.out j hjn) w)
              have R0 : Hid (∀ V', Below V9.heap.size V9 V' → PiRel V F n (.int .i64 ((j : Int) + 1)) V') := Lib.hid (fun V' hb => pi_next hjn (oi_below hO hb) (bt hV hb))
              have mj := measP n j hjn
              unfold axV at UA UB
              generalize us (g j) (h' j) = r at *
              generalize g j = X at *
              generalize h' j = Y at *
              clear hO hV AX SZ
              go_upto_region 28 with (fail)
              have X0 : ∀ V', Below V9.heap.size V9 V' → V'.cell? ⟨b, o + j * 4, none⟩ = some (.string X.t) := fun _ h => kc h (block_lt_of_cell x0) x0
              have X1 : ∀ V', Below V9.heap.size V9 V' → V'.cell? ⟨b, o + j * 4 + 1, none⟩ = some (.int .i64 X.l) := fun _ h => kc h (block_lt_of_cell x1) x1
              have X2 : ∀ V', Below V9.heap.size V9 V' → V'.cell? ⟨b, o + j * 4 + 2, none⟩ = some (.int .i64 X.u) := fun _ h => kc h (block_lt_of_cell x2) x2
              have X3 : ∀ V', Below V9.heap.size V9 V' → V'.cell? ⟨b, o + j * 4 + 3, none⟩ = some (.int .i64 X.h) := fun _ h => kc h (block_lt_of_cell x3) x3
              have X4 : ∀ V', Below V9.heap.size V9 V' → V'.cell? ⟨F, j, none⟩ = some (.int .i64 Y) := fun _ h => kc h (block_lt_of_cell s0) s0
              clear x0 x1 x2 x3 s0
              go_region_held3 (fun w' => Below V9.heap.size V9 w') (first
                | (with_reducible exact bd1 (Below.refl _ _))
                | (with_reducible exact bt (by assumption) hba)
                | (with_reducible assumption))
                (first
                | ((with_reducible refine (UA.out _).mono ?_); rintro en wa ⟨rfl, hba⟩)
                | ((with_reducible refine (UB.out _).mono ?_); rintro en wa ⟨rfl, hba⟩))
              all_goals
                go_wp2_with fail
                (try rw [r3])
                exact ⟨R0.out _ (by with_reducible assumption), mj⟩
          · obtain rfl : j = n := by omega
            have r0 : decide ((j : Int) < (j : Int)) = false := decide_eq_false (by omega)
            have PF := Lib.hid (oi_la hO)
            have NA := Lib.hid (fun V' hh => Norm_all ax j cx g (some ⟨F, 0, none⟩) j j h ⟨hnc, hc9⟩ V' (aa_below (aa_below AX.out hV) hh) (la_below PF.out hh))
            have NB := Lib.hid (fun V' hh => rNorm_all ax j cx g (some ⟨F, 0, none⟩) j j h SZ.out V' (aa_below (aa_below AX.out hV) hh) (la_below PF.out hh))
            have hkk := nmK2_le g j j
            generalize nmK2 g j j = kk at *
            generalize nmE g j j = E at *
            have hW := Below.refl V8.heap.size V8
            go_wp2_with fail
            refine (NA.out _ hW).mono ?_
            rintro en Vg ⟨S3, cc3, rfl, hS1, hb⟩
            replace hW := bt hW hb
            clear hb NA
            go_wp2_with fail
            refine (NB.out _ hW).mono ?_
            rintro en Vh ⟨S4, cc4, rfl, hS2, hb⟩
            replace hW := bt hW hb
            replace hS1 := la_below hS1 hb
            have SM := Lib.hid (Same_any S3 S4 kk cc3 cc4 _ (by omega) Vh hS1 hS2)
            clear hb NB hS1 hS2
            go_wp2_with fail
            refine SM.out.mono ?_
            rintro en Vi ⟨rfl, hb⟩
            have R := Lib.hid (hN.out _ (bt hV (bt hW hb)))
            clear hb SM hW hV hN
            go_wp2_with fail
            exact ⟨R.out, mk⟩
      · obtain rfl : k = 3 := by omega
        have hBE := bt hBV hVV
        go_wp2
        go_ret
        exact ⟨rfl, hBE⟩
end Go.Proofs.Ytmlkdfieakihlaa.Ax
