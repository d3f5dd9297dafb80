/-
  Layer 7 (raster): Dots of the program.
-/
import Derived.Test.YtjeiapgniflnaaaRsK
namespace Go.Proofs.Ytjeiapgniflnaaa.Rs
open Go.RowKit
open Go.Proofs.Ytjeiapgniflnaaa.Ot
open Go.Proofs.Ytjeiapgniflnaaa.Bm (bv OB DA New_yes New_no sd)
/-- Dots that may be written, in a block between two addresses. -/
def DQ (m M : Nat) (V : World) (sa : Option Addr) (n : Nat) (f : Nat → Bool) : Prop := ∀ i, i < n → ∃ b, sa = some ⟨b, 0, none⟩ ∧ V.cell? ⟨b, i, none⟩ = some (.bool (f i)) ∧ V.frozen? ⟨b, i, none⟩ = false ∧ m ≤ b ∧ b < M
theorem dq_below {m M : Nat} {V V' : World} {sa : Option Addr} {n : Nat} {f : Nat → Bool} (h : DQ m M V sa n f) (hB : Below V.heap.size V V') : DQ m M V' sa n f := fun i hi => by
  obtain ⟨b, e, h1, h2, h3⟩ := h i hi
  exact ⟨b, e, kc hB h1, kf hB h1 h2, h3⟩
theorem dq_congr {m M : Nat} {V : World} {sa : Option Addr} {n : Nat} {f f' : Nat → Bool} (h : DQ m M V sa n f) (e : ∀ i, i < n → f i = f' i) : DQ m M V sa n f' := fun i hi => by rw [← e i hi]; exact h i hi
theorem dq_da {m M : Nat} {V : World} {sa : Option Addr} {n : Nat} {f : Nat → Bool} (h : DQ m M V sa n f) : DA V sa n f := fun i hi => by
  obtain ⟨b, e, h1, h2, h3⟩ := h i hi
  exact ⟨b, 0, e, by rw [Nat.zero_add]; exact h1⟩
theorem dq_set {m M : Nat} {V : World} {b : Nat} {n k : Nat} {f f' : Nat → Bool} {v : Bool} (h : DQ m M V (some ⟨b, 0, none⟩) n f) (hk : k < n) (e : ∀ i, f' i = if i = k then v else f i) : DQ m M (V.setCell ⟨b, k, none⟩ (.bool v)) (some ⟨b, 0, none⟩) n f' := fun i hi => by
  obtain ⟨b1, e1, h1, h2, h3⟩ := h i hi
  obtain ⟨b2, e2, k1, k2, k3⟩ := h k hk
  cases e1
  cases e2
  rw [e]
  by_cases hik : i = k
  · subst hik
    rw [if_pos rfl]
    exact ⟨_, rfl, by go_cell, by go_cell, h3⟩
  · rw [if_neg hik]
    have n1 : ¬ k = i := fun e => hik e.symm
    exact ⟨_, rfl, by go_cell, by go_cell, h3⟩
theorem dq_other {m M : Nat} {V : World} {sa : Option Addr} {n : Nat} {f : Nat → Bool} {r o : Nat} {v : Value} (h : DQ m M V sa n f) (hr : r < m) : DQ m M (V.setCell ⟨r, o, none⟩ v) sa n f := fun i hi => by
  obtain ⟨b, e, h1, h2, h3, h4⟩ := h i hi
  have n1 : ¬ r = b := by omega
  exact ⟨b, e, by go_cell, by go_cell, h3, h4⟩
theorem dq_size {m M : Nat} {V : World} {sa : Option Addr} {n : Nat} {f : Nat → Bool} (h : DQ m M V sa n f) : DQ m V.heap.size V sa n f := fun i hi => by
  obtain ⟨b, e, h1, h2, h3, h4⟩ := h i hi
  exact ⟨b, e, h1, h2, h3, block_lt_of_cell h1⟩
def PicAt (V : World) (b : Nat) (Le Lo : Int) (W H : Nat) (sa : Option Addr) (n : Nat) : Prop := V.cell? ⟨b, 0, none⟩ = some (.int .i64 Le) ∧ V.cell? ⟨b, 1, none⟩ = some (.int .i64 Lo) ∧ V.cell? ⟨b, 2, none⟩ = some (.int .i64 (W : Int)) ∧ V.cell? ⟨b, 3, none⟩ = some (.int .i64 (H : Int)) ∧ V.cell? ⟨b, 4, none⟩ = some (.slice sa n n)
theorem pic_below {V V' : World} {b : Nat} {Le Lo : Int} {W H : Nat} {sa : Option Addr} {n : Nat} (h : PicAt V b Le Lo W H sa n) (hB : Below V.heap.size V V') : PicAt V' b Le Lo W H sa n :=
  ⟨kc hB h.1, kc hB h.2.1, kc hB h.2.2.1, kc hB h.2.2.2.1, kc hB h.2.2.2.2⟩
theorem pic_new (V : World) (Le Lo : Int) (W H : Nat) (sa : Option Addr) (n : Nat) (T : TypeId) : PicAt (V.alloc (.cells #[.int .i64 Le, .int .i64 Lo, .int .i64 (W : Int), .int .i64 (H : Int), .slice sa n n] T)) V.heap.size Le Lo W H sa n := ⟨by go_cell, by go_cell, by go_cell, by go_cell, by go_cell⟩
theorem pic_set {V : World} {b r k : Nat} {Le Lo : Int} {W H : Nat} {sa : Option Addr} {n : Nat} {v : Value} (hn : r ≠ b) (h : PicAt V b Le Lo W H sa n) : PicAt (V.setCell ⟨r, k, none⟩ v) b Le Lo W H sa n := by
  obtain ⟨h0, h1, h2, h3, h4⟩ := h
  have n1 : ¬ r = b := hn
  exact ⟨by go_cell, by go_cell, by go_cell, by go_cell, by go_cell⟩
theorem pzat_set {V : World} {b r k : Nat} {v : Value} (hn : r ≠ b) (h : PzAt V b) : PzAt (V.setCell ⟨r, k, none⟩ v) b := by
  obtain ⟨⟨h0, h1, h2, h3, h4⟩, f0, f1, f2, f3, f4⟩ := h
  have n1 : ¬ r = b := hn
  exact ⟨⟨by go_cell, by go_cell, by go_cell, by go_cell, by go_cell⟩, by go_cell, by go_cell, by go_cell, by go_cell, by go_cell⟩
theorem sz1 {w V : World} {o : Obj} (h : Below (w.alloc o).heap.size (w.alloc o) V) : w.heap.size + 1 ≤ V.heap.size := by
  have := h.size
  rw [World.size_alloc] at this
  exact this
/-- While the dots are set. -/
def dtK (cnt : Nat → Nat) (k i : Nat) : Bool := if i < k then decide (2 ≤ cnt i) else false
theorem dtK_next (cnt : Nat → Nat) (k i : Nat) : dtK cnt (k + 1) i = if i = k then decide (2 ≤ cnt k) else dtK cnt k i := by
  unfold dtK
  by_cases h : i = k
  · subst h; rw [if_pos (by omega), if_pos rfl]
  · rw [if_neg h]
    by_cases h2 : i < k
    · rw [if_pos h2, if_pos (by omega)]
    · rw [if_neg h2, if_neg (by omega)]
def DtS (w : World) (m b6 bc : Nat) (Le Lo : Int) (W H : Nat) (sa : Option Addr) (n : Nat) (cnt : Nat → Nat) (k : Nat) (V : World) : Prop :=
  DQ m b6 V sa n (dtK cnt k) ∧ OI V bc n (fun i => (cnt i : Nat)) ∧ PicAt V b6 Le Lo W H sa n ∧ PzAt V w.heap.size ∧ Below w.heap.size w V
def DtR (w : World) (m b6 bc : Nat) (Le Lo : Int) (W H : Nat) (sa : Option Addr) (n : Nat) (cnt : Nat → Nat) (s33 : Value) (V : World) : Prop :=
  ∃ k : Nat, s33 = .int .i64 k ∧ k ≤ n ∧ DtS w m b6 bc Le Lo W H sa n cnt k V
theorem dts_set {w : World} {m b6 bc b : Nat} {Le Lo : Int} {W H n : Nat} {cnt : Nat → Nat} {k : Nat} {V : World} (hm : w.heap.size < m) (hbc : b6 < bc) (h : DtS w m b6 bc Le Lo W H (some ⟨b, 0, none⟩) n cnt k V) (hk : k < n) (v : Bool) (hv : v = decide (2 ≤ cnt k)) : DtS w m b6 bc Le Lo W H (some ⟨b, 0, none⟩) n cnt (k + 1) (V.setCell ⟨b, k, none⟩ (.bool v)) := by
  obtain ⟨h1, h2, h3, h4, h5⟩ := h
  obtain ⟨b2, e2, k1, k2, k3, k4⟩ := h1 k hk
  cases e2
  exact ⟨dq_set h1 hk (fun i => by rw [dtK_next, hv]), oi_other h2 (by omega), pic_set (by omega) h3, pzat_set (by omega) h4, bs h5 (by show w.heap.size ≤ b; omega) _⟩
set_option maxRecDepth 100000 in
set_option maxHeartbeats 16000000 in
theorem Dots_core (a : Option Addr) (N c : Nat) (ns : Nat → Nat) (g : Nat → Nat → Pt) (u : Int) (hu : isU u = true) (hr : allO ns g N = true) (hN : N ≤ 1000000) (hs : pre ns N ≤ 1000000) (w : World) (hA : OT w a N ns g)
    (Le Lo : Int) (W H n : Nat) (hn : n ≤ 100000) (cnt : Nat → Nat) (hcnt : ∀ i, cnt i ≤ 4)
    (hBl : ∀ V, Below w.heap.size w V → Calls Try.prog 37 #[.slice a N c, .int .i64 u] V fun e V' => ∃ sa, e = .returned (.tuple #[.agg #[.int .i64 Le, .int .i64 Lo, .int .i64 (W : Int), .int .i64 (H : Int), .slice sa n n], .int .i64 0]) ∧ DQ V.heap.size V'.heap.size V' sa n (fun _ => false) ∧ Below V.heap.size V V')
    (hCv : ∀ sa V, Below w.heap.size w V → Calls Try.prog 38 #[.slice a N c, .int .i64 u, pv Le Lo W H sa n n] V fun e V' => ∃ b, e = .returned (.slice (some ⟨b, 0, none⟩) n n) ∧ OI V' b n (fun i => (cnt i : Nat)) ∧ V.heap.size ≤ b ∧ Below V.heap.size V V') :
    Calls Try.prog 17 #[.slice a N c, .int .i64 u] w fun e w' => ∃ sa, e = .returned (.tuple #[.agg #[.int .i64 Le, .int .i64 Lo, .int .i64 (W : Int), .int .i64 (H : Int), .slice sa n n], .int .i64 0]) ∧ DA w' sa n (fun i => decide (2 ≤ cnt i)) ∧ Below w.heap.size w w' := by
  have IU := Lib.hid (fun w => isUnit_any u w)
  rw [hu] at IU
  have AR : Hid (∀ W, Below w.heap.size w W → Calls Try.prog 27 #[.slice a N c] W fun e w' => e = .returned (.bool true) ∧ Below W.heap.size W w') := Lib.hid (fun W h => by
    have := areInRange_any a N c ns g hN hs W (ot_below hA h)
    rw [hr] at this
    exact this)
  have BL := Lib.hid hBl
  have CV := Lib.hid hCv
  have HC := Lib.hid hcnt
  clear hA hu hr hBl hCv hcnt
  unfold pv at CV
  go_enter Try.func17, Try.ntmps17
  have P0 := Lib.hid (pzat_new w 40)
  have hA1 := Lib.hid (ba (Below.refl w.heap.size w) (.cells #[.int .i64 0, .int .i64 0, .int .i64 0, .int .i64 0, .slice none 0 0] 40))
  go_wp2_with (first
    | ((with_reducible refine (IU.out _).mono ?_); rintro e w3 ⟨rfl, rfl⟩)
    | ((with_reducible refine (AR.out _ hA1.out).mono ?_); rintro e V1 ⟨rfl, hB1⟩; have hC1 := bt hA1.out hB1; have P1 := Lib.hid (pzat_below P0.out hB1); have hB1s := Lib.hid (sz1 hB1); replace hC1 := Lib.hid hC1)
    | ((with_reducible refine (BL.out _ hC1.out).mono ?_); rintro e V2 ⟨sa, rfl, hdq, hB2⟩; have hC2 := Lib.hid (bt hC1.out hB2); have P2 := Lib.hid (pzat_below P1.out hB2); have hDQ := Lib.hid hdq; have hsz := Lib.hid hB2.size; clear hdq hB2)
    | ((with_reducible refine (CV.out _ _ (ba hC2.out _)).mono ?_); rintro e V3 ⟨bc, rfl, hOI, hbc, hB3⟩))
  have hA3 : Below V2.heap.size V2 (V2.alloc (.cells #[.int .i64 Le, .int .i64 Lo, .int .i64 (W : Int), .int .i64 (H : Int), .slice sa n n] 40)) := ba (Below.refl _ _) _
  have hS0 : DtS w V1.heap.size V2.heap.size bc Le Lo W H sa n cnt 0 V3 := by
    refine ⟨dq_below (dq_below (dq_congr hDQ.out (fun i _ => ?_)) hA3) hB3, hOI, pic_below (pic_new V2 Le Lo W H sa n _) hB3, pzat_below (pzat_below P2.out hA3) hB3, bt (bt hC2.out hA3) hB3⟩
    unfold dtK
    rw [if_neg (by omega)]
  have hm : w.heap.size < V1.heap.size := by
    have := hC1.out.size
    have := hB1s.out
    omega
  have hbc2 : V2.heap.size < bc := by
    rw [World.size_alloc] at hbc
    omega
  clear hA3 hOI hbc hB3 hDQ hsz P0 P1 P2 hA1 hC1 hC2 BL CV IU AR
  generalize V1.heap.size = m at *
  generalize V2.heap.size = b6 at *
  go_loopw [33] (fun s33 V => DtR w m b6 bc Le Lo W H sa n cnt s33 V) (fun s33 _ => n - (intOf s33).toNat)
  case atStart => exact ⟨0, rfl, by omega, hS0⟩
  case round =>
    clear hS0
    obtain ⟨k, rfl, hk, hS⟩ := hrel
    rename World => V
    rcases Nat.lt_or_ge k n with hkn | hkn
    · have k2 := nat_c k
      have k3 := lt_c hkn
      have hlt := ltn hkn
      have hn6 : k ≤ 100000 := by omega
      obtain ⟨h1, h2, ⟨p0, p1, p2, p3, p4⟩, h4, h5⟩ := id hS
      obtain ⟨b, rfl, q1, q2, q3⟩ := h1 k hkn
      obtain ⟨o1, o2⟩ := h2 k hkn
      have R : Hid (∀ v, v = decide (2 ≤ cnt k) → DtR w m b6 bc Le Lo W H (some ⟨b, 0, none⟩) n cnt (.int .i64 ((k : Int) + 1)) (V.setCell ⟨b, k, none⟩ (.bool v))) := Lib.hid (fun v hv => ⟨k + 1, rfl, hkn, dts_set hm hbc2 hS hkn v hv⟩)
      have hc : decide ((cnt k : Int) ≥ 2) = decide (2 ≤ cnt k) := by rw [decide_eq_decide]; omega
      have hc2 : decide ((2 : Int) ≤ (cnt k : Int)) = decide (2 ≤ cnt k) := by rw [decide_eq_decide]; omega
      have R2 := Lib.hid (R.out _ hc2)
      replace o1 : V.cell? ⟨bc, k, none⟩ = some (.int .i64 ((cnt k : Nat) : Int)) := o1
      clear hS h1 h2 h4 h5 R hk hkn hc hc2
      go_wp2_with fail
      exact ⟨R2.out, hlt⟩
    · obtain rfl : k = n := by omega
      obtain ⟨h1, h2, ⟨p0, p1, p2, p3, p4⟩, ⟨⟨c0, c1, c2, c3, c4⟩, f0, f1, f2, f3, f4⟩, h5⟩ := hS
      have hD := Lib.hid h1
      have hH := Lib.hid h5
      clear h1 h2 h5
      go_wp2_with fail
      refine bodyPost_ret (v := .tuple #[.agg #[.int .i64 Le, .int .i64 Lo, .int .i64 (W : Int), .int .i64 (H : Int), .slice sa k k], .int .i64 0]) (by simp [results, Try.results17, go_sem, *]) rfl ⟨sa, rfl, ?_, ?_⟩
      · exact dq_da (dq_other (dq_other (dq_other (dq_other (dq_other (dq_congr hD.out (fun i hi => by unfold dtK; rw [if_pos hi])) hm) hm) hm) hm) hm)
      · repeat (with_reducible refine bs ?_ (Nat.le_refl _) _)
        exact hH.out
end Go.Proofs.Ytjeiapgniflnaaa.Rs
