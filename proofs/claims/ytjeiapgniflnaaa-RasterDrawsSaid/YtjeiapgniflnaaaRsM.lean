/-
  Layer 7 (raster): Dots of the program, case by case.
-/
import Derived.Test.YtjeiapgniflnaaaRsL
namespace Go.Proofs.Ytjeiapgniflnaaa.Rs
open Go.RowKit
open Go.Proofs.Ytjeiapgniflnaaa.Ot
open Go.Proofs.Ytjeiapgniflnaaa.Bm (bv OB DA New_yes New_no sd)
set_option maxHeartbeats 4000000 in
theorem Dots_unit (a : Option Addr) (N c : Nat) (u : Int) (hu : isU u = false) (w : World) :
    Calls Try.prog 17 #[.slice a N c, .int .i64 u] w fun e w' => e = .returned (.tuple #[pz, .int .i64 1]) ∧ Below w.heap.size w w' := by
  have IU := Lib.hid (fun w => isUnit_any u w)
  rw [hu] at IU
  unfold pz
  go_enter Try.func17, Try.ntmps17
  obtain ⟨⟨c0, c1, c2, c3, c4⟩, f0, f1, f2, f3, f4⟩ := pzat_new w 40
  go_wp2_with ((with_reducible refine (IU.out _).mono ?_); rintro e w3 ⟨rfl, rfl⟩)
  refine bodyPost_ret (v := .tuple #[.agg #[.int .i64 0, .int .i64 0, .int .i64 0, .int .i64 0, .slice none 0 0], .int .i64 1]) (by simp [results, Try.results17, go_sem, *]) rfl ⟨rfl, ?_⟩
  repeat (with_reducible refine bs ?_ (Nat.le_refl _) _)
  exact ba (Below.refl _ _) _
set_option maxHeartbeats 4000000 in
theorem Dots_range (a : Option Addr) (N c : Nat) (ns : Nat → Nat) (g : Nat → Nat → Pt) (u : Int) (hu : isU u = true) (hr : allO ns g N = false) (hN : N ≤ 1000000) (hs : pre ns N ≤ 1000000) (w : World) (hA : OT w a N ns g) :
    Calls Try.prog 17 #[.slice a N c, .int .i64 u] w fun e w' => e = .returned (.tuple #[pz, .int .i64 3]) ∧ Below w.heap.size w w' := by
  have IU := Lib.hid (fun w => isUnit_any u w)
  rw [hu] at IU
  have AR : Hid (∀ W, Below w.heap.size w W → Calls Try.prog 27 #[.slice a N c] W fun e w' => e = .returned (.bool false) ∧ Below W.heap.size W w') := Lib.hid (fun W h => by
    have := areInRange_any a N c ns g hN hs W (ot_below hA h)
    rw [hr] at this
    exact this)
  clear hA
  unfold pz
  go_enter Try.func17, Try.ntmps17
  have P0 := Lib.hid (pzat_new w 40)
  have hA1 := Lib.hid (ba (Below.refl w.heap.size w) (.cells #[.int .i64 0, .int .i64 0, .int .i64 0, .int .i64 0, .slice none 0 0] 40))
  go_wp2_with (first
    | ((with_reducible refine (IU.out _).mono ?_); rintro e w3 ⟨rfl, rfl⟩)
    | ((with_reducible refine (AR.out _ hA1.out).mono ?_); rintro e V1 ⟨rfl, hB1⟩; have hC1 := Lib.hid (bt hA1.out hB1); obtain ⟨⟨c0, c1, c2, c3, c4⟩, f0, f1, f2, f3, f4⟩ := pzat_below P0.out hB1; clear hB1))
  refine bodyPost_ret (v := .tuple #[.agg #[.int .i64 0, .int .i64 0, .int .i64 0, .int .i64 0, .slice none 0 0], .int .i64 3]) (by simp [results, Try.results17, go_sem, *]) rfl ⟨rfl, ?_⟩
  repeat (with_reducible refine bs ?_ (Nat.le_refl _) _)
  exact hC1.out
theorem blank_of (a : Option Addr) (N c : Nat) (ns : Nat → Nat) (g : Nat → Nat → Pt) (u : Int) (hu : isU u = true) (hr : allO ns g N = true) (h0 : 0 < pre ns N) (R : Rc) (hR : bxAll ns g N = R) (hN : N ≤ 1000000) (hs : pre ns N ≤ 1000000) (w : World) (hA : OT w a N ns g) (n : Nat) (yes : Bool) (W H er : Int)
    (hNew : ∀ V, w.heap.size < V.heap.size → Calls Try.prog 48 #[.int .i64 (R.c / u - R.a / u + 1), .int .i64 (R.d / u - R.b / u + 1)] V fun e V' => ∃ sa, e = .returned (.tuple #[bv W H sa n n, .int .i64 er]) ∧ NwR V.heap.size n yes V' sa ∧ Below V.heap.size V V') :
    Calls Try.prog 37 #[.slice a N c, .int .i64 u] w fun e w' => ∃ sa, e = .returned (.tuple #[.agg #[.int .i64 (R.a / u), .int .i64 (R.b / u), .int .i64 W, .int .i64 H, .slice sa n n], .int .i64 er]) ∧ NwR (w.heap.size + 1) n yes w' sa ∧ Below w.heap.size w w' := by
  have hin := bxAll_in hr
  rw [hR] at hin
  obtain ⟨k, hk, hp⟩ := pre_some h0
  have hh := bxAll_has ns g hk (show 0 < ns k from hp)
  rw [hR] at hh
  exact blank_core a N c ns g u hu R hR (by omega) hin hN hs w hA n yes W H er hNew
set_option maxHeartbeats 4000000 in
theorem Dots_big (a : Option Addr) (N c : Nat) (ns : Nat → Nat) (g : Nat → Nat → Pt) (u : Int) (hu : isU u = true) (hr : allO ns g N = true) (h0 : 0 < pre ns N) (R : Rc) (hR : bxAll ns g N = R) (hsd : (sd (R.c / u - R.a / u + 1) && sd (R.d / u - R.b / u + 1)) = false) (hN : N ≤ 1000000) (hs : pre ns N ≤ 1000000) (w : World) (hA : OT w a N ns g) :
    Calls Try.prog 17 #[.slice a N c, .int .i64 u] w fun e w' => e = .returned (.tuple #[pz, .int .i64 13]) ∧ Below w.heap.size w w' := by
  have IU := Lib.hid (fun w => isUnit_any u w)
  rw [hu] at IU
  have AR : Hid (∀ W, Below w.heap.size w W → Calls Try.prog 27 #[.slice a N c] W fun e w' => e = .returned (.bool true) ∧ Below W.heap.size W w') := Lib.hid (fun W h => by
    have := areInRange_any a N c ns g hN hs W (ot_below hA h)
    rw [hr] at this
    exact this)
  have BL := Lib.hid (fun V (hb : Below w.heap.size w V) => blank_of a N c ns g u hu hr h0 R hR hN hs V (ot_below hA hb) 0 false 0 0 13 (fun V' _ => (New_no _ _ hsd V').mono (fun e w' ⟨h1, h2⟩ => ⟨none, h1, by unfold NwR; rw [if_neg (by simp)], h2⟩)))
  clear hA hsd
  unfold pz
  go_enter Try.func17, Try.ntmps17
  have P0 := Lib.hid (pzat_new w 40)
  have hA1 := Lib.hid (ba (Below.refl w.heap.size w) (.cells #[.int .i64 0, .int .i64 0, .int .i64 0, .int .i64 0, .slice none 0 0] 40))
  go_wp2_with (first
    | ((with_reducible refine (IU.out _).mono ?_); rintro e w3 ⟨rfl, rfl⟩)
    | ((with_reducible refine (AR.out _ hA1.out).mono ?_); rintro e V1 ⟨rfl, hB1⟩; have hC1 := bt hA1.out hB1; have P1 := Lib.hid (pzat_below P0.out hB1); replace hC1 := Lib.hid hC1; clear hB1)
    | ((with_reducible refine (BL.out _ hC1.out).mono ?_); rintro e V2 ⟨sa, rfl, hnr, hB2⟩; have hC2 := Lib.hid (bt hC1.out hB2); obtain ⟨⟨c0, c1, c2, c3, c4⟩, f0, f1, f2, f3, f4⟩ := pzat_below (pzat_below P1.out hB2) (ba (Below.refl _ V2) (.cells #[.int .i64 (R.a / u), .int .i64 (R.b / u), .int .i64 0, .int .i64 0, .slice sa 0 0] 40)); clear hB2))
  refine bodyPost_ret (v := .tuple #[.agg #[.int .i64 0, .int .i64 0, .int .i64 0, .int .i64 0, .slice none 0 0], .int .i64 13]) (by simp [results, Try.results17, go_sem, *]) rfl ⟨rfl, ?_⟩
  first
  | (repeat (with_reducible refine bs ?_ (Nat.le_refl _) _)
     exact ba hC2.out _)
  | (refine ba ?_ _
     repeat (with_reducible refine bs ?_ (Nat.le_refl _) _)
     exact hC2.out)
/-- The dots of a picture. -/
def dotF (N : Nat) (ns : Nat → Nat) (g : Nat → Nat → Pt) (u Le Lo : Int) (W : Nat) (i : Nat) : Bool := decide (2 ≤ cvr N ns g u (Le + ((i % W : Nat) : Int)) (Lo + ((i / W : Nat) : Int)))
def wB (N : Nat) (ns : Nat → Nat) (g : Nat → Nat → Pt) (u Le Lo : Int) (y x : Nat) : Nat := bit (wn ns g (smr u (2 * Le + x)) (smr u (2 * Lo + y)) N)
theorem bit_le (n : Int) : bit n ≤ 1 := by unfold bit; split <;> omega
theorem cnt_cvr {N : Nat} {ns : Nat → Nat} {g : Nat → Nat → Pt} {u Le Lo : Int} {W H : Nat} (hu : isU u = true) (hr : allO ns g N = true) (hLe : -268435456 ≤ Le ∧ Le ≤ 268435456) (hLo : -268435456 ≤ Lo ∧ Lo ≤ 268435456) (hW : W ≤ 96) (hH : H ≤ 96) {i : Nat} (hi : i < W * H) :
    cN (wB N ns g u Le Lo) W (2 * H) 0 i = cvr N ns g u (Le + ((i % W : Nat) : Int)) (Lo + ((i / W : Nat) : Int)) := by
  have hW0 := pos_of hi
  have hd : i / W < H := Nat.div_lt_of_lt_mul hi
  have hm := Nat.mod_lt i hW0
  rw [cN_all _ hd]
  generalize i / W = r at *
  generalize i % W = q at *
  unfold cvr
  rw [hu, (inR_iff (Le + (q : Int))).2 (by omega), (inR_iff (Lo + (r : Int))).2 (by omega), if_pos (by simp)]
  have hB : ∀ s t : Nat, wB N ns g u Le Lo (2 * r + s) (2 * q + t) = bit (wdg N ns g (sm u (Le + (q : Int)) (t : Int)) (sm u (Lo + (r : Int)) (s : Int))) := fun s t => by
    unfold wB
    rw [wn_wdg hr, ← smr_sm hu, ← smr_sm hu]
    congr 2 <;> (congr 1; omega)
  have h00 := hB 0 0
  have h01 := hB 0 1
  have h10 := hB 1 0
  have h11 := hB 1 1
  simp only [Nat.add_zero] at h00 h01 h10
  rw [h00, h01, h10, h11]
  simp only [cq]
  show _ = 0 + bit (wdg N ns g (sm u (Le + (q : Int)) ((0 : Nat) : Int)) (sm u (Lo + (r : Int)) ((0 : Nat) : Int))) + bit (wdg N ns g (sm u (Le + (q : Int)) ((1 : Nat) : Int)) (sm u (Lo + (r : Int)) ((0 : Nat) : Int))) + bit (wdg N ns g (sm u (Le + (q : Int)) ((0 : Nat) : Int)) (sm u (Lo + (r : Int)) ((1 : Nat) : Int))) + bit (wdg N ns g (sm u (Le + (q : Int)) ((1 : Nat) : Int)) (sm u (Lo + (r : Int)) ((1 : Nat) : Int)))
  omega
theorem floor_lo {u x : Int} (hu : 4 ≤ u) : u * (x / u) ≤ x := Int.mul_ediv_self_le (by omega)
theorem floor_hi {u x : Int} (hu : 4 ≤ u) : x < u * (x / u + 1) := by
  have := Int.lt_ediv_add_one_mul_self x (show 0 < u by omega)
  rw [Int.mul_comm] at this
  exact this
theorem Dots_yes (a : Option Addr) (N c : Nat) (ns : Nat → Nat) (g : Nat → Nat → Pt) (u : Int) (hu : isU u = true) (hr : allO ns g N = true) (h0 : 0 < pre ns N) (R : Rc) (hR : bxAll ns g N = R) (W H n : Nat) (hn : n = W * H) (hW : (W : Int) = R.c / u - R.a / u + 1) (hH : (H : Int) = R.d / u - R.b / u + 1) (hW9 : W ≤ 96) (hH9 : H ≤ 96) (hN : N ≤ 1000000) (hs : pre ns N ≤ 1000000) (w : World) (hA : OT w a N ns g) :
    Calls Try.prog 17 #[.slice a N c, .int .i64 u] w fun e w' => ∃ sa, e = .returned (.tuple #[.agg #[.int .i64 (R.a / u), .int .i64 (R.b / u), .int .i64 (W : Int), .int .i64 (H : Int), .slice sa n n], .int .i64 0]) ∧ DA w' sa n (dotF N ns g u (R.a / u) (R.b / u) W) ∧ Below w.heap.size w w' := by
  obtain ⟨u1, u2, u3⟩ := (isU_iff u).1 hu
  have hin := bxAll_in hr
  rw [hR] at hin
  have hLe := fl_in (x := R.a) u1 (by omega)
  have hLo := fl_in (x := R.b) u1 (by omega)
  have hG : Geo u (R.a / u) (R.b / u) W H := ⟨hu, by omega, by omega, hLe, hLo⟩
  have hG2 : ∀ k, k < N → ∀ i, i < ns k → inG u (R.a / u) (R.b / u) W H (g k i) := fun k hk i hi => by
    have hh := bxAll_has ns g hk hi
    rw [hR] at hh
    have m1 := floor_lo (x := R.a) u1
    have m2 := floor_hi (x := R.c) u1
    have m3 := floor_lo (x := R.b) u1
    have m4 := floor_hi (x := R.d) u1
    unfold inG
    rw [show R.a / u + (W : Int) = R.c / u + 1 by omega, show R.b / u + (H : Int) = R.d / u + 1 by omega]
    omega
  have hnl : n ≤ 100000 := by
    have : W * H ≤ 96 * 96 := Nat.mul_le_mul hW9 hH9
    omega
  refine (Dots_core a N c ns g u hu hr hN hs w hA (R.a / u) (R.b / u) W H n hnl (cN (wB N ns g u (R.a / u) (R.b / u)) W (2 * H) 0) (cN_le (fun y x => bit_le _) _ _ _) ?_ ?_).mono ?_
  · intro V hb
    refine (blank_of a N c ns g u hu hr h0 R hR hN hs V (ot_below hA hb) n true (W : Int) (H : Int) 0 (fun V' _ => ?_)).mono ?_
    · rw [← hW, ← hH]
      refine (New_yes (W : Int) (H : Int) n (by rw [Bool.and_eq_true, Bm.sd_iff, Bm.sd_iff]; omega) (by rw [hn]; simp) V').mono ?_
      rintro e w' ⟨b, h1, h2, ⟨h3, h4⟩, h5⟩
      exact ⟨_, h1, by unfold NwR; rw [if_pos rfl]; exact ⟨b, rfl, h2, h3⟩, h5⟩
    · rintro e w' ⟨sa, h1, h2, h3⟩
      refine ⟨sa, h1, fun i hi => ?_, h3⟩
      unfold NwR at h2
      rw [if_pos rfl] at h2
      obtain ⟨b, e1, k1, k2⟩ := h2
      exact ⟨b, e1, (k1 i hi).1, (k1 i hi).2, by omega, block_lt_of_cell (k1 i hi).1⟩
  · intro sa V hb
    exact covers_any a N c ns g u (R.a / u) (R.b / u) W H sa n n hn hG hr hG2 hN hs V (ot_below hA hb) _ rfl (wB N ns g u (R.a / u) (R.b / u)) (fun y x => bit_le _) (fun y x hx => by
      unfold wB
      rw [pS_wn hG (fun j hj => eJ_in hG2 hj) (by omega)])
  · rintro e w' ⟨sa, h1, h2, h3⟩
    refine ⟨sa, h1, fun i hi => ?_, h3⟩
    obtain ⟨b, o, e1, k1⟩ := h2 i hi
    refine ⟨b, o, e1, k1.trans ?_⟩
    unfold dotF
    rw [← cnt_cvr hu hr hLe hLo hW9 hH9 (by rw [← hn]; exact hi)]
theorem Dots_none (a : Option Addr) (N c : Nat) (ns : Nat → Nat) (g : Nat → Nat → Pt) (u : Int) (hu : isU u = true) (hr : allO ns g N = true) (h0 : pre ns N = 0) (hN : N ≤ 1000000) (w : World) (hA : OT w a N ns g) :
    Calls Try.prog 17 #[.slice a N c, .int .i64 u] w fun e w' => ∃ sa, e = .returned (.tuple #[.agg #[.int .i64 0, .int .i64 0, .int .i64 0, .int .i64 0, .slice sa 0 0], .int .i64 0]) ∧ Below w.heap.size w w' := by
  have hs : pre ns N ≤ 1000000 := by omega
  have hG : Geo u 0 0 0 0 := ⟨hu, by omega, by omega, by omega, by omega⟩
  have hG2 : ∀ k, k < N → ∀ i, i < ns k → inG u 0 0 0 0 (g k i) := fun k hk i hi => by
    have := pre_mono ns (show k + 1 ≤ N by omega)
    rw [pre] at this
    omega
  refine (Dots_core a N c ns g u hu hr hN hs w hA 0 0 0 0 0 (by omega) (cN (fun _ _ => 0) 0 (2 * 0) 0) (cN_le (fun y x => by omega) _ _ _) ?_ ?_).mono ?_
  · intro V hb
    refine (blank_none a N c ns g u h0 hN V (ot_below hA hb)).mono ?_
    rintro e w' ⟨h1, h2⟩
    exact ⟨none, h1, fun i hi => absurd hi (by omega), h2⟩
  · intro sa V hb
    exact covers_any a N c ns g u 0 0 0 0 sa 0 0 rfl hG hr hG2 hN hs V (ot_below hA hb) _ rfl (fun _ _ => 0) (fun y x => by omega) (fun y x hx => by omega)
  · rintro e w' ⟨sa, h1, h2, h3⟩
    exact ⟨sa, h1, h3⟩
end Go.Proofs.Ytjeiapgniflnaaa.Rs
