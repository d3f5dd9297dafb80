/-
  Layer 5 (axis): AxisProduct walked.
-/
import Derived.Test.YtmlkdfieakihlaaAxP
import Derived.Test.YtmlkdfieakihlaaAxV
import Derived.Test.YtmlkdfieakihlaaAxZm
namespace Go.Proofs.Ytmlkdfieakihlaa.Ax
open Go.RowKit
open Go.Proofs.Ytmlkdfieakihlaa.Ex (redN redD)
/-- Products of the first values. -/
def prN (f : Nat → Int) : Nat → Int
  | 0 => 1
  | k + 1 => prN f k * f k
theorem prN_in {f : Nat → Int} (lo : Int) (hlo : lo = 0 ∨ lo = 1) (h : ∀ i, lo ≤ f i ∧ f i ≤ 128) : ∀ k, k ≤ 3 → lo ≤ prN f k ∧ prN f k ≤ 128 ^ k
  | 0, _ => by unfold prN; rcases hlo with rfl | rfl <;> simp
  | k + 1, hk => by
    have ih := prN_in lo hlo h k (by omega)
    have hf := h k
    unfold prN
    rw [Int.pow_succ]
    have hp : (0 : Int) ≤ 128 ^ k := by
      have : k = 0 ∨ k = 1 ∨ k = 2 := by omega
      rcases this with rfl | rfl | rfl <;> decide
    refine ⟨?_, Int.mul_le_mul ih.2 hf.2 (by rcases hlo with rfl | rfl <;> omega) hp⟩
    rcases hlo with rfl | rfl
    · exact Int.mul_nonneg ih.1 hf.1
    · have : 1 * 1 ≤ prN f k * f k := Int.mul_le_mul ih.1 hf.1 (by omega) (by omega)
      omega
theorem pow3 (k : Nat) (h : k ≤ 3) : (128 : Int) ^ k ≤ 2097152 := by
  have : k = 0 ∨ k = 1 ∨ k = 2 ∨ k = 3 := by omega
  rcases this with rfl | rfl | rfl | rfl <;> decide
def at3 (a b c : Int) : Nat → Int | 0 => a | 1 => b | _ => c
def PrRel (VS : World) (fN fD : Nat → Int) (s9 s10 s11 : Value) (V : World) : Prop :=
  ∃ k : Nat, s11 = .int .i64 k ∧ k ≤ 3 ∧ s9 = .int .i64 (prN fN k) ∧ s10 = .int .i64 (prN fD k) ∧ Below VS.heap.size VS V
def KrRel (VS : World) (s : Value) (V : World) : Prop := ∃ k : Nat, s = .int .i64 k ∧ 2 ≤ k ∧ k ≤ 65 ∧ Below VS.heap.size VS V
theorem krng (k c' : Nat) (h : k < 3) (hc : 3 ≤ c') : IntKind.i64.wrap ((k : Int) + 1) = (k : Int) + 1 ∧ wrap64 ((k : Int) + 1) = (k : Int) + 1 ∧ (0 : Int) ≤ (k : Int) + 1 ∧ (0 : Int) ≤ (k : Int) ∧ (k : Int) + 1 ≤ (c' : Int) ∧ (k : Int) + 1 ≤ 3 ∧ (k : Int) ≤ (k : Int) + 1 ∧ ¬ c' = k ∧ ¬ 3 = k :=
  ⟨IntWalk.i64_in _ (by omega), w64 (by omega), by omega, by omega, by omega, by omega, by omega, by omega, by omega⟩
theorem w64s {x lo hi : Int} (h0 : lo ≤ x ∧ x ≤ hi) (h1 : hi ≤ 2097152) (h2 : 0 ≤ lo) : wrap64 x = x := w64 (by omega)
theorem meas3 (k : Nat) (h : k < 3) : 3 - (intOf (Value.int .i64 ((k : Int) + 1))).toNat < 3 - (intOf (Value.int .i64 (k : Int))).toNat := by simp [intOf]; omega
theorem meas65 (k : Nat) (h : k ≤ 64) : 65 - (intOf (Value.int .i64 ((k : Int) + 1))).toNat < 65 - (intOf (Value.int .i64 (k : Int))).toNat := by simp [intOf]; omega
theorem kr_facts (k : Nat) (h2 : 2 ≤ k) (h : k ≤ 64) {N D : Int} (hco : Int.gcd N D = 1) (n1 : 1 ≤ D) (n2 : D ≤ 2097152) (n3 : 0 ≤ N) (n4 : N ≤ D) :
    decide ((k : Int) ≤ 64) = true ∧ ((k : Int) == 0) = false ∧ ¬ (k : Int) = 0 ∧ wrap64 (N.tmod k) = N.tmod k ∧ wrap64 (D.tmod k) = D.tmod k ∧ wrap64 ((k : Int) + 1) = (k : Int) + 1 ∧ (((N % k == 0) = false ∧ ¬ N % k = 0 ∧ (N.tmod k == 0) = false) ∨ ((N % k == 0) = true ∧ N % k = 0 ∧ (D % k == 0) = false ∧ ¬ D % k = 0 ∧ (N.tmod k == 0) = true ∧ (D.tmod k == 0) = false)) := by
  have t1 : 0 ≤ N.tmod k ∧ N.tmod k ≤ 2097152 := by
    rw [Int.tmod_eq_emod_of_nonneg n3]
    have := Int.emod_nonneg N (show (k : Int) ≠ 0 by omega)
    have := Int.emod_lt_of_pos N (show (0 : Int) < k by omega)
    omega
  have t2 : 0 ≤ D.tmod k ∧ D.tmod k ≤ 2097152 := by
    rw [Int.tmod_eq_emod_of_nonneg (by omega)]
    have := Int.emod_nonneg D (show (k : Int) ≠ 0 by omega)
    have := Int.emod_lt_of_pos D (show (0 : Int) < k by omega)
    omega
  refine ⟨decide_eq_true (by omega), beq_no (by omega), by omega, w64 (by omega), w64 (by omega), w64 (by omega), ?_⟩
  have hn := cop_no hco (show (2 : Int) ≤ k by omega)
  have c1 : N.tmod k = N % k := Int.tmod_eq_emod_of_nonneg n3
  have c2 : D.tmod k = D % k := Int.tmod_eq_emod_of_nonneg (by omega)
  rw [c1, c2]
  by_cases e : N % k = 0
  · exact .inr ⟨beq_iff_eq.2 e, e, beq_no (fun h => hn ⟨c1.trans e, c2.trans h⟩), (fun h => hn ⟨c1.trans e, c2.trans h⟩), beq_iff_eq.2 e, beq_no (fun h => hn ⟨c1.trans e, c2.trans h⟩)⟩
  · exact .inl ⟨beq_no e, e, beq_no e⟩
theorem prod_facts {N D nn dd : Int} (n1 : 1 ≤ D) (n2 : D ≤ 2097152) (n3 : 0 ≤ N) (n4 : N ≤ D) (n5 : 0 ≤ nn) (h6 : nn ≤ 2097152) (n7 : 1 ≤ dd) (h8 : dd ≤ 2097152) (h : N * dd = nn * D) :
    decide (D < 1) = false ∧ decide (dd < 1) = false ∧ wrap64 (N * dd) = N * dd ∧ wrap64 (nn * D) = nn * D ∧ (N * dd == nn * D) = true := by
  have m1 := mul_in (n := N) (s := dd) (M := 2097152) (N := 2097152) (by omega) (by omega) (by omega)
  have m2 := mul_in (n := nn) (s := D) (M := 2097152) (N := 2097152) (by omega) (by omega) (by omega)
  exact ⟨decide_eq_false (by omega), decide_eq_false (by omega), w64 (by omega), w64 (by omega), beq_iff_eq.2 h⟩
theorem lam3 {w : World} {a : Option Addr} {n m : Nat} {g : Nat → Int} (h : LA w a n g) (hm : m ≤ n) : LA w a m g := fun i hi => h i (by omega)
theorem tmod65 (d : Int) : -64 ≤ d.tmod 65 ∧ d.tmod 65 ≤ 64 := by
  have h1 : (d.tmod 65).natAbs < 65 := by rw [Int.natAbs_tmod]; exact Nat.mod_lt _ (by omega)
  omega
set_option maxRecDepth 100000 in
set_option maxHeartbeats 16000000 in
theorem Product_any (a : Option Addr) (L c : Nat) (l : Nat → Int) (d0 d1 d2 : Int) (hL : L ≤ c ∧ c ≤ 9223372036854775807) (hl : ∀ i, i < L → R64 (l i)) (hd0 : -32768 ≤ d0 ∧ d0 ≤ 32767) (hd1 : -32768 ≤ d1 ∧ d1 ≤ 32767) (hd2 : -32768 ≤ d2 ∧ d2 ≤ 32767) (w : World) (hA : LA w a L l) :
    Calls Try.prog 8 #[.slice a L c, .agg #[.int .i16 d0, .int .i16 d1, .int .i16 d2]] w fun en w' => en = .returned (.bool true) ∧ Below w.heap.size w w' := by
  obtain ⟨hL1, hL2⟩ := hL
  have SN := Lib.hid sanity_any
  obtain ⟨L', eL⟩ : ∃ L' : Nat, min L 30 = L' := ⟨_, rfl⟩
  have fL : min (L : Int) 30 = (L' : Int) := by omega
  have gL : (L' : Int) ≤ (c : Int) := by omega
  have v0 := tmod65 d0
  have v1 := tmod65 d1
  have v2 := tmod65 d2
  have RG : Hid (∀ V, Below w.heap.size w V → _) := Lib.hid (fun V h => Region_any a L' c l 3 (by omega) (by omega) (fun i hi => hl i (by omega)) V (lam3 (la_below hA h) (by omega)))
  clear hA hl
  go_enter Try.func8, Try.ntmps8
  go_wp2_with fail
  have hbx : (w.alloc (.cells #[.int .i16 d0, .int .i16 d1, .int .i16 d2] 54)).cell? ⟨w.heap.size, 0, none⟩ = some (.int .i16 d0) ∧ (w.alloc (.cells #[.int .i16 d0, .int .i16 d1, .int .i16 d2] 54)).cell? ⟨w.heap.size, 1, none⟩ = some (.int .i16 d1) ∧ (w.alloc (.cells #[.int .i16 d0, .int .i16 d1, .int .i16 d2] 54)).cell? ⟨w.heap.size, 2, none⟩ = some (.int .i16 d2) := ⟨by go_cell, by go_cell, by go_cell⟩
  refine (SN.out _).mono ?_
  rintro en V0 ⟨rfl, hB⟩
  obtain ⟨p0, p1, p2⟩ := hbx
  replace p0 := kc hB (block_lt_of_cell p0) p0
  replace p1 := kc hB (block_lt_of_cell p1) p1
  replace p2 := kc hB (block_lt_of_cell p2) p2
  replace hB := bt (ba (Below.refl w.heap.size w) _) hB
  go_wp2_with fail
  refine (RG.out _ hB).mono ?_
  rintro en V1 ⟨a', c', g, rfl, hc1, hc2, hT, hvt, hB1⟩
  replace p0 := kc hB1 (block_lt_of_cell p0) p0
  replace p1 := kc hB1 (block_lt_of_cell p1) p1
  replace p2 := kc hB1 (block_lt_of_cell p2) p2
  replace hB := bt hB hB1
  obtain ⟨b, o, rfl, x0, x1, x2⟩ := id (hT 0 (by omega))
  have hxr : ∀ i, i < 3 → vtR (g i) := fun i hi => vt_rg (hvt i hi)
  have hvts : vts g 3 = true := by
    unfold vts vts vts vts
    rw [hvt 0 (by omega), hvt 1 (by omega), hvt 2 (by omega)]
    rfl
  clear x0 x1 x2 RG hB1 SN
  obtain ⟨N, D, hsc, n1, n2, n3, n4, hco, heq⟩ := sc3 g (at3 (d0.tmod 65) (d1.tmod 65) (d2.tmod 65)) hxr
  have hq : ∀ i, i < 3 → ps 3 (at3 (d0.tmod 65) (d1.tmod 65) (d2.tmod 65)) i = at3 (d0.tmod 65) (d1.tmod 65) (d2.tmod 65) i := by
    intro i hi
    have : i = 0 ∨ i = 1 ∨ i = 2 := by omega
    rcases this with rfl | rfl | rfl
    · show (if 0 < 3 then lim (d0.tmod 65) (-64) 64 else 0) = d0.tmod 65
      rw [if_pos (by omega), lim]; omega
    · show (if 1 < 3 then lim (d1.tmod 65) (-64) 64 else 0) = d1.tmod 65
      rw [if_pos (by omega), lim]; omega
    · show (if 2 < 3 then lim (d2.tmod 65) (-64) 64 else 0) = d2.tmod 65
      rw [if_pos (by omega), lim]; omega
  have hX : scal g 3 (ps 3 (at3 (d0.tmod 65) (d1.tmod 65) (d2.tmod 65))) = (N, D) := by
    unfold scal
    rw [if_pos hvts, ← hsc]
    exact scS_congr (fun i hi => ⟨rfl, hq i hi⟩)
  have hEq : scal g 3 (ps 3 (at3 (d0.tmod 65) 0 0)) = scal g 3 (ps 1 (at3 (d0.tmod 65) (d1.tmod 65) (d2.tmod 65))) := by
    unfold scal
    rw [if_pos hvts, if_pos hvts]
    refine scS_congr (fun i hi => ⟨rfl, ?_⟩)
    have : i = 0 ∨ i = 1 ∨ i = 2 := by omega
    rcases this with rfl | rfl | rfl
    · rfl
    · show (if 1 < 3 then lim 0 (-64) 64 else 0) = 0
      rw [if_pos (by omega)]; rfl
    · show (if 2 < 3 then lim 0 (-64) 64 else 0) = 0
      rw [if_pos (by omega)]; rfl
  obtain ⟨fN, hfN⟩ : ∃ f : Nat → Int, f = fun i => if i < 3 then redN (vlN (g i) (at3 (d0.tmod 65) (d1.tmod 65) (d2.tmod 65) i)) (vlD (g i) (at3 (d0.tmod 65) (d1.tmod 65) (d2.tmod 65) i)) else 0 := ⟨_, rfl⟩
  obtain ⟨fD, hfD⟩ : ∃ f : Nat → Int, f = fun i => if i < 3 then redD (vlN (g i) (at3 (d0.tmod 65) (d1.tmod 65) (d2.tmod 65) i)) (vlD (g i) (at3 (d0.tmod 65) (d1.tmod 65) (d2.tmod 65) i)) else 1 := ⟨_, rfl⟩
  have hatb : ∀ i, -64 ≤ at3 (d0.tmod 65) (d1.tmod 65) (d2.tmod 65) i ∧ at3 (d0.tmod 65) (d1.tmod 65) (d2.tmod 65) i ≤ 64 := by
    intro i
    match i with
    | 0 => exact v0
    | 1 => exact v1
    | _ + 2 => exact v2
  have hfb : ∀ i, (0 ≤ fN i ∧ fN i ≤ 128) ∧ (1 ≤ fD i ∧ fD i ≤ 128) := by
    intro i
    rw [hfN, hfD]
    by_cases hi : i < 3
    · simp only [if_pos hi]
      have hl := vl_in (v := at3 (d0.tmod 65) (d1.tmod 65) (d2.tmod 65) i) (hxr i hi)
      obtain ⟨r1, r2, r3, r4, _⟩ := red_facts hl.1 hl.2.1 hl.2.2.1 hl.2.2.2
      omega
    · simp only [if_neg hi]; omega
  have hprod : N * prN fD 3 = prN fN 3 * D := by
    have e1 : prN fD 3 = 1 * fD 0 * fD 1 * fD 2 := rfl
    have e2 : prN fN 3 = 1 * fN 0 * fN 1 * fN 2 := rfl
    rw [e1, e2, Int.one_mul, Int.one_mul, hfN, hfD]
    simp only [show (0 : Nat) < 3 by omega, show (1 : Nat) < 3 by omega, show (2 : Nat) < 3 by omega, if_true]
    exact heq
  obtain ⟨p, hp⟩ : ∃ p, p = at3 (d0.tmod 65) (d1.tmod 65) (d2.tmod 65) := ⟨_, rfl⟩
  have SK : Hid (∀ (k : Nat) (V : World) (c0 cc : Nat), k < 3 → Below V1.heap.size V1 V → (∀ i, i < 3 → V.cell? ⟨c0, i, none⟩ = some (.int .i64 (p i))) → Calls Try.prog 21 #[.slice (some ⟨b, o + k * 3, none⟩) 1 (c' - k), .slice (some ⟨c0, k, none⟩) 1 cc] V fun e w' => e = .returned (.agg #[.int .i64 (fN k), .int .i64 (fD k)]) ∧ Below V.heap.size V w') := Lib.hid (fun k V c0 cc hk hB hc => by
    obtain ⟨b', o', e, t0, t1, t2⟩ := ta_below hT hB k hk
    cases e
    have := Scalar_any (some ⟨b, o + k * 3, none⟩) 1 (c' - k) (fun _ => g k) (some ⟨c0, k, none⟩) 1 cc (fun _ => p k) (by omega) V (fun i hi => by
      obtain rfl : i = 0 := by omega
      exact ⟨b, o + k * 3, rfl, t0, t1, t2⟩) (fun i hi => by
      obtain rfl : i = 0 := by omega
      exact ⟨c0, k, rfl, hc k hk⟩)
    rw [scal_one (hvt k hk) (by rw [hp]; exact hatb k)] at this
    rw [hfN, hfD]
    simp only [if_pos hk, ← hp]
    exact this)
  have SX : Hid (∀ (V : World) (c0 : Nat), Below V1.heap.size V1 V → V.cell? ⟨c0, 0, none⟩ = some (.int .i64 (d0.tmod 65)) → V.cell? ⟨c0, 1, none⟩ = some (.int .i64 (d1.tmod 65)) → V.cell? ⟨c0, 2, none⟩ = some (.int .i64 (d2.tmod 65)) → Calls Try.prog 21 #[.slice (some ⟨b, o, none⟩) 3 c', .slice (some ⟨c0, 0, none⟩) 3 3] V fun e w' => e = .returned (.agg #[.int .i64 N, .int .i64 D]) ∧ Below V.heap.size V w') := Lib.hid (fun V c0 hB h0 h1 h2 => by
    have := Scalar_any (some ⟨b, o, none⟩) 3 c' g (some ⟨c0, 0, none⟩) 3 3 (at3 (d0.tmod 65) (d1.tmod 65) (d2.tmod 65)) (by omega) V (ta_below hT hB) (fun i hi => by
      have : i = 0 ∨ i = 1 ∨ i = 2 := by omega
      rcases this with rfl | rfl | rfl
      · exact ⟨c0, 0, rfl, h0⟩
      · exact ⟨c0, 0, rfl, h1⟩
      · exact ⟨c0, 0, rfl, h2⟩)
    rw [hX] at this
    exact this)
  obtain ⟨Z, hZ⟩ : ∃ Z, scal g 3 (ps 1 (at3 (d0.tmod 65) (d1.tmod 65) (d2.tmod 65))) = Z := ⟨_, rfl⟩
  have SA : Hid (∀ (V : World) (c0 : Nat), Below V1.heap.size V1 V → V.cell? ⟨c0, 0, none⟩ = some (.int .i64 (d0.tmod 65)) → Calls Try.prog 21 #[.slice (some ⟨b, o, none⟩) 3 c', .slice (some ⟨c0, 0, none⟩) 1 3] V fun e w' => e = .returned (.agg #[.int .i64 Z.1, .int .i64 Z.2]) ∧ Below V.heap.size V w') := Lib.hid (fun V c0 hB h0 => by
    have := Scalar_any (some ⟨b, o, none⟩) 3 c' g (some ⟨c0, 0, none⟩) 1 3 (at3 (d0.tmod 65) (d1.tmod 65) (d2.tmod 65)) (by omega) V (ta_below hT hB) (fun i hi => by
      obtain rfl : i = 0 := by omega
      exact ⟨c0, 0, rfl, h0⟩)
    rw [hZ] at this
    exact this)
  have SB : Hid (∀ (V : World) (c0 : Nat), Below V1.heap.size V1 V → V.cell? ⟨c0, 0, none⟩ = some (.int .i64 (d0.tmod 65)) → V.cell? ⟨c0, 1, none⟩ = some (.int .i64 0) → V.cell? ⟨c0, 2, none⟩ = some (.int .i64 0) → Calls Try.prog 21 #[.slice (some ⟨b, o, none⟩) 3 c', .slice (some ⟨c0, 0, none⟩) 3 3] V fun e w' => e = .returned (.agg #[.int .i64 Z.1, .int .i64 Z.2]) ∧ Below V.heap.size V w') := Lib.hid (fun V c0 hB h0 h1 h2 => by
    have := Scalar_any (some ⟨b, o, none⟩) 3 c' g (some ⟨c0, 0, none⟩) 3 3 (at3 (d0.tmod 65) 0 0) (by omega) V (ta_below hT hB) (fun i hi => by
      have : i = 0 ∨ i = 1 ∨ i = 2 := by omega
      rcases this with rfl | rfl | rfl
      · exact ⟨c0, 0, rfl, h0⟩
      · exact ⟨c0, 0, rfl, h1⟩
      · exact ⟨c0, 0, rfl, h2⟩)
    rw [hEq, hZ] at this
    exact this)
  have hpv : p 0 = d0.tmod 65 ∧ p 1 = d1.tmod 65 ∧ p 2 = d2.tmod 65 := by rw [hp]; exact ⟨rfl, rfl, rfl⟩
  have bN := fun k hk => prN_in (f := fN) 0 (Or.inl rfl) (fun i => (hfb i).1) k hk
  have bD := fun k hk => prN_in (f := fD) 1 (Or.inr rfl) (fun i => (hfb i).2) k hk
  clear hX hEq hZ hT hvt hxr hvts hsc hq hatb heq
  obtain ⟨Z1, Z2⟩ := Z
  simp only at SA SB
  go_wp2_with fail
  refine (SX.out _ _ (ba (Below.refl _ _) _) (by go_cell) (by go_cell) (by go_cell)).mono ?_
  rintro en V2 ⟨rfl, hb⟩
  have c0 := kc hb (b := V1.heap.size) (o := 0) (v := .int .i64 (d0.tmod 65)) (by simp) (by go_cell)
  have c1 := kc hb (b := V1.heap.size) (o := 1) (v := .int .i64 (d1.tmod 65)) (by simp) (by go_cell)
  have c2 := kc hb (b := V1.heap.size) (o := 2) (v := .int .i64 (d2.tmod 65)) (by simp) (by go_cell)
  have hV := bt (ba (Below.refl _ V1) _) hb
  obtain ⟨P, hP⟩ : ∃ P, P = V1.heap.size := ⟨_, rfl⟩
  rw [← hP] at c0 c1 c2 ⊢
  clear hb hP p0 p1 p2
  have hR := rb_new V2 (N, D) 44
  have hb := ba (Below.refl _ V2) (.cells #[.int .i64 N, .int .i64 D] 44)
  replace c0 := kc hb (block_lt_of_cell c0) c0
  replace c1 := kc hb (block_lt_of_cell c1) c1
  replace c2 := kc hb (block_lt_of_cell c2) c2
  replace hV := bt hV hb
  go_wp2_with fail
  obtain ⟨X, hXe⟩ : ∃ X, X = V2.heap.size := ⟨_, rfl⟩
  rw [← hXe] at hR ⊢
  clear hb hXe
  generalize V2.alloc (.cells #[.int .i64 N, .int .i64 D] 44) = VS at *
  have hPc : ∀ i, i < 3 → VS.cell? ⟨P, i, none⟩ = some (.int .i64 (p i)) := by
    intro i hi
    have : i = 0 ∨ i = 1 ∨ i = 2 := by omega
    rcases this with rfl | rfl | rfl
    · rw [hpv.1]; exact c0
    · rw [hpv.2.1]; exact c1
    · rw [hpv.2.2]; exact c2
  go_loopw [9, 10, 11] (fun s9 s10 s11 V => PrRel VS fN fD s9 s10 s11 V) (fun _ _ s11 _ => 3 - (intOf s11).toNat)
  case atStart => exact ⟨0, rfl, by omega, rfl, rfl, Below.refl _ _⟩
  case round =>
    obtain ⟨k, rfl, hk, rfl, rfl, hVS⟩ := hrel
    rename World => V
    rcases Nat.lt_or_ge k 3 with hk3 | hk3
    · have q0 : decide ((k : Int) < 3) = true := decide_eq_true (by omega)
      have hPk : ∀ i, i < 3 → V.cell? ⟨P, i, none⟩ = some (.int .i64 (p i)) := fun i hi => kc hVS (block_lt_of_cell (hPc i hi)) (hPc i hi)
      have SK1 : Hid (∀ V' cc, Below V.heap.size V V' → _) := Lib.hid (fun V' cc h => SK.out k V' P cc hk3 (bt hV (bt hVS h)) (fun i hi => kc h (block_lt_of_cell (hPk i hi)) (hPk i hi)))
      have hN : Hid (∀ V', Below V.heap.size V V' → PrRel VS fN fD (.int .i64 (prN fN k * fN k)) (.int .i64 (prN fD k * fD k)) (.int .i64 ((k : Int) + 1)) V') := Lib.hid (fun V' h => ⟨k + 1, rfl, by omega, rfl, rfl, bt hVS h⟩)
      have bn := bN (k + 1) (by omega)
      have bd' := bD (k + 1) (by omega)
      have pw := pow3 (k + 1) (by omega)
      have w1 : wrap64 (prN fN k * fN k) = prN fN k * fN k := w64s bn pw (by decide)
      have w2 : wrap64 (prN fD k * fD k) = prN fD k * fD k := w64s bd' pw (by decide)
      obtain ⟨k6, k7, k8, k2, k3, k4, k5, k9, k10⟩ := krng k c' hk3 hc1
      generalize prN fN k = pn at *
      generalize prN fD k = pd at *
      generalize fN k = yn at *
      generalize fD k = yd at *
      clear bn bd' pw hPk
      go_upto_region 9 with (fail)
      go_region_held3 (fun w' => Below V.heap.size V w') (first
        | (with_reducible exact bd1 (Below.refl _ _))
        | (with_reducible exact bd1 (ba (Below.refl _ _) _))
        | (with_reducible exact bt (by assumption) hba)
        | (with_reducible exact ba (by assumption) _)
        | (with_reducible exact bs (bs (by assumption) (Nat.le_refl _) _) (Nat.le_refl _) _)
        | exact ba (bt (bd1 (Below.refl _ _)) hba) _)
        (first
        | ((with_reducible refine (SK1.out (V.alloc (.cells #[.int .i64 0, .int .i64 0] 44)).drew _ (by assumption)).mono ?_); rintro en wa ⟨rfl, hba⟩; have d0 := kc hba (b := V.heap.size) (o := 0) (v := .int .i64 0) (by simp) (by go_cell); have d1 := kc hba (b := V.heap.size) (o := 1) (v := .int .i64 0) (by simp) (by go_cell); have e0 := kf hba (b := V.heap.size) (o := 0) (v := false) (by simp) (by go_cell); have e1 := kf hba (b := V.heap.size) (o := 1) (v := false) (by simp) (by go_cell))
        | ((with_reducible refine (SK1.out _ _ (by assumption)).mono ?_); rintro en wa ⟨rfl, hba⟩))
      all_goals
        go_wp2_with fail
        go_quiet (fail)
        go_wp2_with fail
        rw [w1, w2]
        exact ⟨hN.out _ (bd (by with_reducible assumption) _), meas3 k hk3⟩
    · obtain rfl : k = 3 := by omega
      have hR2 := rb_below hR hVS
      have y0 := kc hVS (block_lt_of_cell c0) c0
      have y1 := kc hVS (block_lt_of_cell c1) c1
      have y2 := kc hVS (block_lt_of_cell c2) c2
      have hV3 := bt hV hVS
      obtain ⟨n5, n6⟩ := bN 3 (by omega)
      obtain ⟨n7, n8⟩ := bD 3 (by omega)
      have hpw := pow3 3 (by omega)
      generalize prN fN 3 = nn at *
      generalize prN fD 3 = dd at *
      generalize (128 : Int) ^ 3 = pw at *
      clear hPc SK SX bN bD hfb hfN hfD c0 c1 c2
      obtain ⟨z0, z1, _, _⟩ := id hR2
      simp only at z0 z1
      obtain ⟨g1, g2, u1, u2, u3⟩ := prod_facts n1 n2 n3 n4 (n5 := n5) (h6 := Int.le_trans n6 hpw) n7 (Int.le_trans n8 hpw) hprod
      go_upto_region 11 with (fail)
      go_cut [90] (fun s V' => s = .bool false ∧ Below V.heap.size V V')
      case first =>
        have Y0 : ∀ V', Below V.heap.size V V' → V'.cell? ⟨P, 0, none⟩ = some (.int .i64 (d0.tmod 65)) := fun _ h => kc h (block_lt_of_cell y0) y0
        have Z0 : ∀ V', Below V.heap.size V V' → V'.cell? ⟨X, 0, none⟩ = some (.int .i64 N) := fun _ h => (rb_below hR2 h).1
        have Z1 : ∀ V', Below V.heap.size V V' → V'.cell? ⟨X, 1, none⟩ = some (.int .i64 D) := fun _ h => (rb_below hR2 h).2.1
        clear y0 y1 y2 z0 z1
        go_region_held3 (fun w' => Below V.heap.size V w') (first
          | (with_reducible exact bd1 (Below.refl _ _))
          | (with_reducible exact bd1 (ba (Below.refl _ _) _))
          | (with_reducible exact bt (by assumption) hba)
          | (with_reducible exact ba (by assumption) _))
          (first
          | ((with_reducible refine (SA.out _ _ (bt hV3 (by assumption)) (Y0 _ (by assumption))).mono ?_); rintro en wb ⟨rfl, hba⟩; have hbu := hba)
          | ((with_reducible refine (SB.out _ _ (bt hV3 (by assumption)) (by first | go_cell | exact kc hbu (by simp) (by go_cell)) (by first | go_cell | exact kc hbu (by simp) (by go_cell)) (by first | go_cell | exact kc hbu (by simp) (by go_cell))).mono ?_); rintro en wb ⟨rfl, hba⟩))
        all_goals
          go_wp2_with fail
          go_meet
          exact ⟨by simp, by with_reducible assumption⟩
      case rest =>
        rename World => W
        obtain ⟨rfl, hVb⟩ := hcut
        have hRW := rb_below hR2 hVb
        replace hB := bt hB (bt hV3 hVb)
        clear hR2 SA SB y0 y1 y2 z0 z1 hpv hp hprod n5 n6 n7 n8 hpw g1 g2 u1 u2 u3 eL fL gL v0 v1 v2 hd0 hd1 hd2 hL1 hL2 hV hV3
        go_wp2_with fail
        go_loopw [13] (fun s V => KrRel W s V) (fun s _ => 65 - (intOf s).toNat)
        case atStart => exact ⟨2, rfl, by omega, by omega, Below.refl _ _⟩
        case round =>
          obtain ⟨j, rfl, hj2, hj, hWV⟩ := hrel
          rename World => U
          obtain ⟨z0, z1, _, _⟩ := rb_below hRW hWV
          simp only at z0 z1
          rcases Nat.lt_or_ge j 65 with hj5 | hj5
          · obtain ⟨f1, f2, f3, f4, f5, f6, f7⟩ := kr_facts j hj2 (by omega) hco n1 n2 n3 n4
            clear hB hVb
            have hK : Hid (KrRel W (.int .i64 ((j : Int) + 1)) U) := Lib.hid ⟨j + 1, rfl, by omega, by omega, hWV⟩
            rcases f7 with ⟨f7, f7', f7''⟩ | ⟨f7, f7', f8, f8', f7'', f8''⟩
            · go_wp2_with fail
              exact ⟨hK.out, meas65 j (by omega)⟩
            · go_wp2_with fail
              exact ⟨hK.out, meas65 j (by omega)⟩
          · obtain rfl : j = 65 := by omega
            have hBU := bt hB hWV
            by_cases hN0 : N = 0
            · subst hN0
              obtain rfl := cop_zero hco n1
              go_wp2
              go_ret
              exact ⟨rfl, hBU⟩
            · have g5 := beq_no hN0
              go_wp2
              go_ret
              exact ⟨rfl, hBU⟩
end Go.Proofs.Ytmlkdfieakihlaa.Ax
