/-
  Layer 5 (axis): Check of the document's own.
-/
import Derived.Test.YtmlkdfieakihlaaAxF
namespace Go.Proofs.Ytmlkdfieakihlaa.Ax
open Go.RowKit
def RiRel (w : World) (g : Nat → Axs) (t : ByteArray) (m : Nat) (v : Value) (V : World) : Prop := ∃ i : Nat, v = .int .i64 i ∧ i ≤ m ∧ twc g t i = false ∧ Below w.heap.size w V
theorem ck_40 {g : Nat → Axs} {m : Nat} {x : Axs} (h : tagOk x.t = false) : ckOne g m x = 40 := if_pos h
theorem ck_6 {g : Nat → Axs} {m : Nat} {x : Axs} (h : tagOk x.t = true) (h2 : twc g x.t m = true) : ckOne g m x = 6 := by
  unfold ckOne; rw [h, if_neg (by simp), if_pos h2]
theorem ck_3 {g : Nat → Axs} {m : Nat} {x : Axs} (h : tagOk x.t = true) (h2 : twc g x.t m = false) (h3 : (inU x.l && inU x.u && inU x.h) = false) : ckOne g m x = 3 := by
  unfold ckOne ranA; rw [h, if_neg (by simp), h2, if_neg (by simp), if_pos h3]
theorem ck_8 {g : Nat → Axs} {m : Nat} {x : Axs} (h : tagOk x.t = true) (h2 : twc g x.t m = false) (h3 : (inU x.l && inU x.u && inU x.h) = true) (h4 : ordA x = false) : ckOne g m x = 8 := by
  unfold ckOne ranA; rw [h, if_neg (by simp), h2, if_neg (by simp), h3, if_neg (by simp), if_pos h4]
theorem ck_0 {g : Nat → Axs} {m : Nat} {x : Axs} (h : tagOk x.t = true) (h2 : twc g x.t m = false) (h3 : (inU x.l && inU x.u && inU x.h) = true) (h4 : ordA x = true) : ckOne g m x = 0 := by
  unfold ckOne ranA; rw [h, if_neg (by simp), h2, if_neg (by simp), h3, if_neg (by simp), h4, if_neg (by simp)]
set_option maxRecDepth 100000 in
set_option maxHeartbeats 16000000 in
theorem rCheck_any (a : Option Addr) (n c : Nat) (g : Nat → Axs) (hs : ∀ i, i < n → (g i).t.size ≤ 9223372036854775807) (w : World) (hA : AA w a n g) :
    Calls Try.prog 14 #[.slice a n c] w fun e w' => e = .returned (.int .i64 (ckL g n)) ∧ Below w.heap.size w w' := by
  unfold ckL
  by_cases h3 : n ≤ 3
  rotate_left
  · rw [if_neg h3]
    have q1 : decide ((3 : Int) < (n : Int)) = true := decide_eq_true (by omega)
    go_enter Try.func14, Try.ntmps14
    go_wp2
    go_ret
    exact ⟨rfl, Below.refl _ _⟩
  rw [if_pos h3]
  have q1 : decide ((3 : Int) < (n : Int)) = false := decide_eq_false (by omega)
  have HA := Lib.hid hA
  clear hA
  go_enter Try.func14, Try.ntmps14
  go_wp2_with fail
  clear q1
  go_loopw [3] (fun v V => CkRel w g n v V) (fun v _ => n - (intOf v).toNat)
  case atStart => exact ⟨0, rfl, by omega, rfl, Below.refl _ _⟩
  case round =>
    obtain ⟨k, rfl, hle, hz, hB⟩ := hrel
    rename World => V
    rcases Nat.lt_or_ge k n with hk | hk
    rotate_left
    · obtain rfl : k = n := by omega
      have hL := Lib.hid hz
      clear hz
      go_wp2
      go_ret
      exact ⟨by rw [hL.out]; rfl, hB⟩
    have HA2 : Hid (∀ V', Below V.heap.size V V' → AA V' a n g) := Lib.hid (fun V' h => aa_below HA.out (bt hB h))
    obtain ⟨b, o, rfl, x0, x1, x2, x3⟩ := aa_below HA.out hB k hk
    have hsz := hs k hk
    have hY : Hid (∀ z, ckOne g k (g k) = z → ¬ z = 0 → ckTo g n = z) := Lib.hid (fun z e h => by rw [ckTo_stay hz (by rw [e]; exact h) n hk, e])
    have hN : Hid (ckOne g k (g k) = 0 → ∀ V', Below V.heap.size V V' → CkRel w g n (.int .i64 ((k : Int) + 1)) V') := Lib.hid (fun h V' h2 => ⟨k + 1, rfl, by omega, by rw [ckTo, if_pos hz, h], bt hB h2⟩)
    have k2 : (0 : Int) ≤ (k : Int) := by omega
    have k3 : (k : Int) < (n : Int) := by omega
    clear hz hs
    generalize g k = x at *
    have T := Lib.hid (fun w => tag_any x.t hsz w)
    have L := Lib.hid (fun w => within_any x.l w)
    have U := Lib.hid (fun w => within_any x.u w)
    have H := Lib.hid (fun w => within_any x.h w)
    go_wp2_with fail
    have hX := bxa_new V x 29
    refine (T.out _).mono ?_
    rintro e V1 ⟨rfl, hb⟩
    replace hX := bxa_below hX hb
    replace hb := bt (ba (Below.refl _ V) _) hb
    obtain ⟨B, hBs⟩ : ∃ B, B = V.heap.size := ⟨_, rfl⟩
    rw [← hBs] at hX ⊢
    clear x0 x1 x2 x3 hBs
    rcases ht : tagOk x.t with _ | _
    · have hR := Lib.hid (hY.out 40 (ck_40 ht) (by omega))
      go_wp2
      go_ret
      exact ⟨by rw [hR.out]; rfl, bt hB hb⟩
    have hT := Lib.hid ht
    clear ht T
    go_wp2_with fail
    have hb0 := hb
    go_loopw [5] (fun v V' => RiRel V1 g x.t k v V') (fun v _ => k - (intOf v).toNat)
    case atStart => exact ⟨0, rfl, by omega, rfl, Below.refl _ _⟩
    case round =>
      obtain ⟨i, rfl, hi, htw, hV2⟩ := hrel
      rename World => V2
      replace hX := bxa_below hX hV2
      obtain ⟨x0, x1, x2, x3⟩ := id hX
      have hb2 := bt hb0 hV2
      have i2 : (0 : Int) ≤ (i : Int) := by omega
      rcases Nat.lt_or_ge i k with hik | hik
      · obtain ⟨b', o', e', y0, _⟩ := HA2.out V2 hb2 i (by omega)
        cases e'
        have i3 : (i : Int) < (n : Int) := by omega
        have i4 : (i : Int) < (k : Int) := by omega
        rcases he : eqs (g i).t x.t with _ | _
        · have R : Hid (∀ V', Below V1.heap.size V1 V' → RiRel V1 g x.t k (.int .i64 ((i : Int) + 1)) V') := Lib.hid (fun V' h => ⟨i + 1, rfl, by omega, by rw [twc, htw, he]; rfl, h⟩)
          have he2 : ((g i).t.toList == x.t.toList) = false := he
          clear htw he
          generalize (g i).t = t at *
          go_upto_region 12 with (fail)
          go_quiet (fail)
          go_wp2_with fail
          exact ⟨R.out _ (bd hV2 _), by simp [intOf]; omega⟩
        · have hR := Lib.hid (hY.out 6 (ck_6 hT.out (twc_yes he k hik)) (by omega))
          have he2 : ((g i).t.toList == x.t.toList) = true := he
          clear htw he
          generalize (g i).t = t at *
          go_upto_region 12 with (fail)
          go_quiet (fail)
          go_wp2
          go_ret
          exact ⟨by rw [hR.out]; rfl, bd (bt hB hb2) _⟩
      obtain rfl : i = k := by omega
      have hTW := Lib.hid htw
      clear htw
      replace hB := bt hB hb2
      have hb3 := hb2
      clear hb hb0 hb2 hV2
      rcases h5 : inU x.l with _ | _
      · have hR := Lib.hid (hY.out 3 (ck_3 hT.out hTW.out (by rw [h5]; rfl)) (by omega))
        rw [h5] at L
        go_wp2_with fail
        refine (L.out _).mono ?_
        rintro e W2 ⟨rfl, hc2⟩
        replace hB := bt hB hc2
        replace hb3 := bt hb3 hc2
        replace hX := bxa_below hX hc2
        clear x0 x1 x2 x3
        obtain ⟨x0, x1, x2, x3⟩ := id hX
        go_wp2
        go_ret
        exact ⟨by rw [hR.out]; rfl, hB⟩
      rcases h6 : inU x.u with _ | _
      · have hR := Lib.hid (hY.out 3 (ck_3 hT.out hTW.out (by rw [h5, h6]; rfl)) (by omega))
        rw [h5] at L
        rw [h6] at U
        go_wp2_with fail
        refine (L.out _).mono ?_
        rintro e W2 ⟨rfl, hc2⟩
        replace hB := bt hB hc2
        replace hb3 := bt hb3 hc2
        replace hX := bxa_below hX hc2
        clear x0 x1 x2 x3
        obtain ⟨x0, x1, x2, x3⟩ := id hX
        go_wp2_with fail
        refine (U.out _).mono ?_
        rintro e W3 ⟨rfl, hc3⟩
        replace hB := bt hB hc3
        replace hb3 := bt hb3 hc3
        replace hX := bxa_below hX hc3
        clear x0 x1 x2 x3
        obtain ⟨x0, x1, x2, x3⟩ := id hX
        go_wp2
        go_ret
        exact ⟨by rw [hR.out]; rfl, hB⟩
      rcases h7 : inU x.h with _ | _
      · have hR := Lib.hid (hY.out 3 (ck_3 hT.out hTW.out (by rw [h5, h6, h7]; rfl)) (by omega))
        rw [h5] at L
        rw [h6] at U
        rw [h7] at H
        go_wp2_with fail
        refine (L.out _).mono ?_
        rintro e W2 ⟨rfl, hc2⟩
        replace hB := bt hB hc2
        replace hb3 := bt hb3 hc2
        replace hX := bxa_below hX hc2
        clear x0 x1 x2 x3
        obtain ⟨x0, x1, x2, x3⟩ := id hX
        go_wp2_with fail
        refine (U.out _).mono ?_
        rintro e W3 ⟨rfl, hc3⟩
        replace hB := bt hB hc3
        replace hb3 := bt hb3 hc3
        replace hX := bxa_below hX hc3
        clear x0 x1 x2 x3
        obtain ⟨x0, x1, x2, x3⟩ := id hX
        go_wp2_with fail
        refine (H.out _).mono ?_
        rintro e W4 ⟨rfl, hc4⟩
        replace hB := bt hB hc4
        replace hb3 := bt hb3 hc4
        replace hX := bxa_below hX hc4
        clear x0 x1 x2 x3
        obtain ⟨x0, x1, x2, x3⟩ := id hX
        go_wp2
        go_ret
        exact ⟨by rw [hR.out]; rfl, hB⟩
      have h8 : (inU x.l && inU x.u && inU x.h) = true := by rw [h5, h6, h7]; rfl
      rw [h5] at L
      rw [h6] at U
      rw [h7] at H
      clear h5 h6 h7
      by_cases h9 : x.l ≤ x.u
      · by_cases h10 : x.u ≤ x.h
        · have hR := Lib.hid (hN.out (ck_0 hT.out hTW.out h8 (by unfold ordA; rw [decide_eq_true h9, decide_eq_true h10]; rfl)))
          have q1 : decide (x.u < x.l) = false := decide_eq_false (by omega)
          have q2 : decide (x.h < x.u) = false := decide_eq_false (by omega)
          clear h9 h10
          go_wp2_with fail
          refine (L.out _).mono ?_
          rintro e W2 ⟨rfl, hc2⟩
          replace hB := bt hB hc2
          replace hb3 := bt hb3 hc2
          replace hX := bxa_below hX hc2
          clear x0 x1 x2 x3
          obtain ⟨x0, x1, x2, x3⟩ := id hX
          go_wp2_with fail
          refine (U.out _).mono ?_
          rintro e W3 ⟨rfl, hc3⟩
          replace hB := bt hB hc3
          replace hb3 := bt hb3 hc3
          replace hX := bxa_below hX hc3
          clear x0 x1 x2 x3
          obtain ⟨x0, x1, x2, x3⟩ := id hX
          go_wp2_with fail
          refine (H.out _).mono ?_
          rintro e W4 ⟨rfl, hc4⟩
          replace hB := bt hB hc4
          replace hb3 := bt hb3 hc4
          replace hX := bxa_below hX hc4
          clear x0 x1 x2 x3
          obtain ⟨x0, x1, x2, x3⟩ := id hX
          have R := Lib.hid (hR.out _ hb3)
          go_wp2_with fail
          exact ⟨R.out, by simp [intOf]; omega⟩
        · have hR := Lib.hid (hY.out 8 (ck_8 hT.out hTW.out h8 (by unfold ordA; rw [decide_eq_true h9, decide_eq_false h10]; rfl)) (by omega))
          have q1 : decide (x.u < x.l) = false := decide_eq_false (by omega)
          have q2 : decide (x.h < x.u) = true := decide_eq_true (by omega)
          clear h9 h10
          go_wp2_with fail
          refine (L.out _).mono ?_
          rintro e W2 ⟨rfl, hc2⟩
          replace hB := bt hB hc2
          replace hb3 := bt hb3 hc2
          replace hX := bxa_below hX hc2
          clear x0 x1 x2 x3
          obtain ⟨x0, x1, x2, x3⟩ := id hX
          go_wp2_with fail
          refine (U.out _).mono ?_
          rintro e W3 ⟨rfl, hc3⟩
          replace hB := bt hB hc3
          replace hb3 := bt hb3 hc3
          replace hX := bxa_below hX hc3
          clear x0 x1 x2 x3
          obtain ⟨x0, x1, x2, x3⟩ := id hX
          go_wp2_with fail
          refine (H.out _).mono ?_
          rintro e W4 ⟨rfl, hc4⟩
          replace hB := bt hB hc4
          replace hb3 := bt hb3 hc4
          replace hX := bxa_below hX hc4
          clear x0 x1 x2 x3
          obtain ⟨x0, x1, x2, x3⟩ := id hX
          go_wp2
          go_ret
          exact ⟨by rw [hR.out]; rfl, hB⟩
      · have hR := Lib.hid (hY.out 8 (ck_8 hT.out hTW.out h8 (by unfold ordA; rw [decide_eq_false h9]; rfl)) (by omega))
        have q1 : decide (x.u < x.l) = true := decide_eq_true (by omega)
        clear h9
        go_wp2_with fail
        refine (L.out _).mono ?_
        rintro e W2 ⟨rfl, hc2⟩
        replace hB := bt hB hc2
        replace hb3 := bt hb3 hc2
        replace hX := bxa_below hX hc2
        clear x0 x1 x2 x3
        obtain ⟨x0, x1, x2, x3⟩ := id hX
        go_wp2_with fail
        refine (U.out _).mono ?_
        rintro e W3 ⟨rfl, hc3⟩
        replace hB := bt hB hc3
        replace hb3 := bt hb3 hc3
        replace hX := bxa_below hX hc3
        clear x0 x1 x2 x3
        obtain ⟨x0, x1, x2, x3⟩ := id hX
        go_wp2_with fail
        refine (H.out _).mono ?_
        rintro e W4 ⟨rfl, hc4⟩
        replace hB := bt hB hc4
        replace hb3 := bt hb3 hc4
        replace hX := bxa_below hX hc4
        clear x0 x1 x2 x3
        obtain ⟨x0, x1, x2, x3⟩ := id hX
        go_wp2
        go_ret
        exact ⟨by rw [hR.out]; rfl, hB⟩
end Go.Proofs.Ytmlkdfieakihlaa.Ax
