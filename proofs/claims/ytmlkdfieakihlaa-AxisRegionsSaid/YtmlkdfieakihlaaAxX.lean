/-
  Layer 5 (axis): AxisRegions walked.
-/
import Derived.Test.YtmlkdfieakihlaaAxP
import Derived.Test.YtmlkdfieakihlaaAxV
namespace Go.Proofs.Ytmlkdfieakihlaa.Ax
open Go.RowKit
theorem la_less {w : World} {a : Option Addr} {n m : Nat} {g : Nat → Int} (h : LA w a n g) (hm : m ≤ n) : LA w a m g := fun i hi => h i (by omega)
theorem ta_less {w : World} {a : Option Addr} {n m : Nat} {g : Nat → Tns} (h : TA w a n g) (hm : m ≤ n) : TA w a m g := fun i hi => h i (by omega)
theorem vts_of {g : Nat → Tns} : ∀ {n : Nat}, (∀ i, i < n → vt (g i) = true) → vts g n = true
  | 0, _ => rfl
  | n + 1, h => by
    unfold vts
    rw [vts_of (fun i hi => h i (by omega)), h n (by omega)]
    rfl
def RgLoop (w : World) (v : Value) (V : World) : Prop := ∃ k : Nat, v = .int .i64 k ∧ k ≤ 4 ∧ Below w.heap.size w V
set_option maxRecDepth 100000 in
set_option maxHeartbeats 8000000 in
theorem Regions_any (a : Option Addr) (L c : Nat) (l : Nat → Int) (pa : Option Addr) (M d : Nat) (p : Nat → Int) (ra : Option Addr) (K e : Nat) (rg : Nat → Tns) (n : Int)
    (hL : L ≤ c ∧ c ≤ 9223372036854775807) (hl : ∀ i, i < L → R64 (l i)) (hM : M ≤ d ∧ d ≤ 9223372036854775807) (hK : K ≤ e ∧ e ≤ 9223372036854775807) (w : World) (hA : LA w a L l) (hP : LA w pa M p) (hR : TA w ra K rg) :
    Calls Try.prog 4 #[.slice a L c, .slice pa M d, .slice ra K e, .int .i64 n] w fun en w' => en = .returned (.bool true) ∧ Below w.heap.size w w' := by
  obtain ⟨hL1, hL2⟩ := hL
  obtain ⟨hM1, hM2⟩ := hM
  obtain ⟨hK1, hK2⟩ := hK
  have SN := Lib.hid sanity_any
  obtain ⟨L', eL⟩ : ∃ L' : Nat, min L 30 = L' := ⟨_, rfl⟩
  obtain ⟨M', eM⟩ : ∃ M' : Nat, min M 4 = M' := ⟨_, rfl⟩
  obtain ⟨K', eK⟩ : ∃ K' : Nat, min K 4 = K' := ⟨_, rfl⟩
  have fL : min (L : Int) 30 = (L' : Int) := by omega
  have fM : min (M : Int) 4 = (M' : Int) := by omega
  have fK : min (K : Int) 4 = (K' : Int) := by omega
  have gL : (L' : Int) ≤ (c : Int) := by omega
  have gM : (M' : Int) ≤ (d : Int) := by omega
  have gK : (K' : Int) ≤ (e : Int) := by omega
  have RG : Hid (∀ k : Nat, k < 4 → ∀ V, Below w.heap.size w V → _) := Lib.hid (fun k hk V h => Region_any a L' c l k (by omega) (by omega) (fun i hi => hl i (by omega)) V (la_less (la_below hA h) (by omega)))
  have hA' := Lib.hid (fun V (h : Below w.heap.size w V) => la_less (m := M') (la_below hP h) (by omega))
  have hR' := Lib.hid (fun V (h : Below w.heap.size w V) => ta_less (m := K') (ta_below hR h) (by omega))
  have hK4 : K' ≤ 4 := by omega
  clear hA hP hR hl
  go_enter Try.func4, Try.ntmps4
  go_wp2_with fail
  refine (SN.out _).mono ?_
  rintro en V0 ⟨rfl, hB⟩
  go_upto_region 2 with (fail)
  go_quiet (fail)
  go_wp2_with fail
  go_loopw [10] (fun v V => RgLoop w v V) (fun v _ => 4 - (intOf v).toNat)
  case atStart => exact ⟨0, rfl, by omega, bd hB _⟩
  case round =>
    clear hB
    obtain ⟨k, rfl, hk, hB⟩ := hrel
    rename World => V
    rcases Nat.lt_or_ge k 4 with hk4 | hk4
    · have RG1 := Lib.hid (RG.out k hk4 V hB)
      have q0 : decide ((k : Int) < 4) = true := decide_eq_true (by omega)
      go_wp2_with fail
      refine (RG1.out).mono ?_
      rintro en V1 ⟨a', c', g, rfl, hc1, hc2, hT, hvt, hB1⟩
      have hfit : fit g k k = true := by unfold fit; rw [vts_of hvt, decide_eq_true rfl]; rfl
      have F1 := Lib.hid (fun V h => Fits_any a' k c' g k (by omega) V (ta_below hT h))
      rw [hfit] at F1
      have F2 := Lib.hid (fun V h => Fits_any a' k c' g n (by omega) V (ta_below hT h))
      have F3 := Lib.hid (fun V h => rFits_any a' k c' g n (by omega) V (ta_below hT h))
      replace hB := bt hB hB1
      have S1 := Lib.hid (fun V h h2 => Scalar_any a' k c' g pa M' d p (by omega) V (ta_below hT h) (hA'.out V h2))
      have S2 := Lib.hid (fun V h h2 => rScalar_any a' k c' g pa M' d p (by omega) V (ta_below hT h) (hA'.out V h2))
      unfold ratV at S1 S2
      generalize (scal g k (ps M' p)).1 = z1 at *
      generalize (scal g k (ps M' p)).2 = z2 at *
      generalize fit g k n = b at *
      clear RG1 hT hvt hfit hB1
      have hN : Hid (∀ V', Below w.heap.size w V' → RgLoop w (.int .i64 ((k : Int) + 1)) V') := Lib.hid (fun V' h => ⟨k + 1, rfl, by omega, h⟩)
      have hV := Below.refl V1.heap.size V1
      go_wp2_with fail
      refine (F1.out _ hV).mono ?_
      rintro en V2 ⟨rfl, hb⟩
      replace hV := bt hV hb
      clear hb
      go_wp2_with fail
      refine (F2.out _ hV).mono ?_
      rintro en V3 ⟨rfl, hb⟩
      replace hV := bt hV hb
      clear hb
      go_wp2_with fail
      refine (F3.out _ hV).mono ?_
      rintro en V4 ⟨rfl, hb⟩
      replace hV := bt hV hb
      clear hb
      rcases b with _ | _
      all_goals
        go_wp2_with fail
        refine (S1.out _ hV (bt hB hV)).mono ?_
        rintro en V5 ⟨rfl, hb⟩
        replace hV := bt hV hb
        clear hb
        go_wp2_with fail
        refine (S2.out _ hV (bt hB hV)).mono ?_
        rintro en V6 ⟨rfl, hb⟩
        replace hV := bt hV hb
        clear hb
        have R := Lib.hid (hN.out _ (bt hB hV))
        go_wp2_with fail
        exact ⟨R.out, by simp [intOf]; omega⟩
    · have q0 : decide ((k : Int) < 4) = false := decide_eq_false (by omega)
      have F1 := Lib.hid (fun V h => Fits_any ra K' e rg n (by omega) V (hR'.out V h))
      have F2 := Lib.hid (fun V h => rFits_any ra K' e rg n (by omega) V (hR'.out V h))
      have F3 := Lib.hid (fun V h => Fits_any ra K' e rg K' (by omega) V (hR'.out V h))
      have F4 := Lib.hid (fun V h => rFits_any ra K' e rg K' (by omega) V (hR'.out V h))
      have S1 := Lib.hid (fun V h => Scalar_any ra K' e rg pa M' d p (by omega) V (hR'.out V h) (hA'.out V h))
      have S2 := Lib.hid (fun V h => rScalar_any ra K' e rg pa M' d p (by omega) V (hR'.out V h) (hA'.out V h))
      unfold ratV at S1 S2
      generalize (scal rg K' (ps M' p)).1 = z1 at *
      generalize (scal rg K' (ps M' p)).2 = z2 at *
      generalize fit rg K' n = b at *
      generalize fit rg K' K' = b2 at *
      go_wp2_with fail
      refine (F1.out _ hB).mono ?_
      rintro en V1 ⟨rfl, hb⟩
      replace hB := bt hB hb
      clear hb
      go_wp2_with fail
      refine (F2.out _ hB).mono ?_
      rintro en V2 ⟨rfl, hb⟩
      replace hB := bt hB hb
      clear hb
      rcases b with _ | _
      all_goals
        go_wp2_with fail
        refine (F3.out _ hB).mono ?_
        rintro en V3 ⟨rfl, hb⟩
        replace hB := bt hB hb
        clear hb
        go_wp2_with fail
        refine (F4.out _ hB).mono ?_
        rintro en V4 ⟨rfl, hb⟩
        replace hB := bt hB hb
        clear hb
        rcases b2 with _ | _
        all_goals
          go_wp2_with fail
          refine (S1.out _ hB).mono ?_
          rintro en V5 ⟨rfl, hb⟩
          replace hB := bt hB hb
          clear hb
          go_wp2_with fail
          refine (S2.out _ hB).mono ?_
          rintro en V6 ⟨rfl, hb⟩
          replace hB := bt hB hb
          clear hb
          go_wp2
          go_ret
          exact ⟨by simp, hB⟩
end Go.Proofs.Ytmlkdfieakihlaa.Ax
