/-
  Layer 9 (machine): still, where one point may differ.
-/
import Derived.Test.YtdgagjcocohnnaaMcU
namespace Go.Proofs.Ytdgagjcocohnnaa.Mc
open Go.RowKit
open Go.Proofs.Ytdgagjcocohnnaa.Ot (Pt PtAt PA PO OO OT pre pre_mono shP p0 ot_below pa_below)
def SkRel (w : World) (N : Nat) (ns : Nat → Nat) (s7 s8 : Value) (V : World) : Prop := ∃ k : Nat, s8 = .int .i64 k ∧ k ≤ N ∧ s7 = .int .i64 (pre ns k : Nat) ∧ Below w.heap.size w V
set_option maxRecDepth 100000 in
set_option maxHeartbeats 16000000 in
theorem still_any (a a' : Option Addr) (N c c' : Nat) (ns : Nat → Nat) (g g' : Nat → Nat → Pt) (n : Nat) (b : Nat) (hN : N ≤ 1000000) (hs : pre ns N ≤ 1000000)
    (h : ∀ k, k < N → ∀ i, i < ns k → (g k i).o = (g' k i).o ∧ (n ≠ pre ns k + i → g k i = g' k i)) (w : World) (hA : OT w a N ns g) (hB : OT w a' N ns g') (hr : w.cell? ⟨b, 0, none⟩ = some (.int .i64 (n : Int))) :
    Calls Try.prog 19 #[.slice a N c, .slice a' N c', .slice (some ⟨b, 0, none⟩) 1 1] w fun e w' => e = .returned (.bool true) ∧ Below w.heap.size w w' := by
  have HA := Lib.hid hA
  have HB := Lib.hid hB
  have HH := Lib.hid h
  have HR := Lib.hid hr
  clear hA hB h hr
  go_enter Try.func19, Try.ntmps19
  go_wp2_with fail
  go_loopw [7, 8] (fun s7 s8 V => SkRel w N ns s7 s8 V) (fun _ s8 _ => N - (intOf s8).toNat)
  case atStart => exact ⟨0, rfl, Nat.zero_le _, rfl, Below.refl _ _⟩
  case round =>
    obtain ⟨k, rfl, hk, rfl, hV⟩ := hrel
    rename World => V
    rcases Nat.lt_or_ge k N with hkn | hkn
    · obtain ⟨b1, o1, a1, c1, rfl, x0, x1, x2, x3⟩ := ot_below HA.out hV k hkn
      obtain ⟨b2, o2, a2, c2, rfl, y0, y1, y2, y3⟩ := ot_below HB.out hV k hkn
      have k2 : (0 : Int) ≤ (k : Int) := by omega
      have k3 : (k : Int) < (N : Int) := by omega
      have hpm := Lib.hid (show pre ns k + ns k ≤ 1000000 by have := pre_mono ns (show k + 1 ≤ N from hkn); rw [pre] at this; omega)
      have hmk : ns k ≤ 1000000 := by have := hpm.out; omega
      have X3 := Lib.hid x3
      have Y3 := Lib.hid y3
      have X0 := Lib.hid x0
      have Y0 := Lib.hid y0
      have HV := Lib.hid hV
      have HHk := Lib.hid (HH.out k hkn)
      have HN : Hid (∀ V', Below w.heap.size w V' → SkRel w N ns (.int .i64 (pre ns k + ns k : Nat)) (.int .i64 ((k : Int) + 1)) V') := Lib.hid (fun V' hb => ⟨k + 1, rfl, by omega, rfl, hb⟩)
      obtain ⟨m, hm⟩ : ∃ m, ns k = m := ⟨_, rfl⟩
      obtain ⟨pk, hpk⟩ : ∃ pk, pre ns k = pk := ⟨_, rfl⟩
      rw [hm] at x0 x1 X0 X3 y0 y1 Y0 Y3 hpm hmk HN HHk
      rw [hpk] at hpm HN HHk ⊢
      clear x3 y3 hV
      go_upto_region 7 with (fail)
      go_quiet (fail)
      go_wp2_with fail
      go_loopw [7, 9] (fun s7 s9 W => ∃ i : Nat, s9 = .int .i64 i ∧ i ≤ m ∧ s7 = .int .i64 (pk + i : Nat) ∧ Below V.heap.size V W) (fun _ s9 _ => m - (intOf s9).toNat)
      case atStart => exact ⟨0, rfl, Nat.zero_le _, rfl, bd (Below.refl _ _) _⟩
      case round =>
        clear x0 y0
        obtain ⟨i, rfl, hi, rfl, hW⟩ := hrel
        rename World => W
        have x0 := kc hW X0.out
        have y0 := kc hW Y0.out
        have i2 : (0 : Int) ≤ (i : Int) := by omega
        rcases Nat.lt_or_ge i m with him | him
        · obtain ⟨b3, o3, rfl, z0, z1, z2⟩ := pa_below X3.out hW i him
          obtain ⟨b4, o4, rfl, t0, t1, t2⟩ := pa_below Y3.out hW i him
          have i3 : (i : Int) < (m : Int) := by omega
          have ht := HHk.out i him
          have q0 := kc hW (kc HV.out HR.out)
          have R : Hid (∀ W', Below V.heap.size V W' → ∃ j : Nat, (Value.int .i64 ((i : Int) + 1)) = .int .i64 j ∧ j ≤ m ∧ (Value.int .i64 ((pk + i : Nat) + 1 : Int)) = .int .i64 (pk + j : Nat) ∧ Below V.heap.size V W') := Lib.hid (fun W' h => ⟨i + 1, rfl, by omega, rfl, h⟩)
          have hbig : ((pk + i : Nat) : Int) ≤ 1000000 := by have := hpm.out; omega
          obtain ⟨num, hnum⟩ : ∃ num, pk + i = num := ⟨_, rfl⟩
          rw [hnum] at ht R hbig ⊢
          have hnn : (0 : Int) ≤ (num : Int) := by omega
          clear hnum hi
          by_cases hq : n = num
          · subst hq
            have hqq : ((n : Int) == (n : Int)) = true := beq_self_eq_true _
            have ho := ht.1
            rw [← ho] at t2
            clear ht ho
            generalize (g k i).o = po at *
            generalize (g k i).x = px at *
            generalize (g k i).y = py at *
            generalize (g' k i).x = qx at *
            generalize (g' k i).y = qy at *
            go_wp2_with fail
            go_loopw [10, 46] (fun s10 s46 W' => ∃ j : Nat, s46 = .int .i64 j ∧ j ≤ 1 ∧ s10 = .bool (decide (j = 1)) ∧ Below V.heap.size V W' ∧ Below W.heap.size W W') (fun _ s46 _ => 1 - (intOf s46).toNat)
            case atStart => exact ⟨0, rfl, by omega, rfl, hW, Below.refl _ _⟩
            case round =>
              obtain ⟨j, rfl, hj, rfl, hVW, hWW⟩ := hrel
              rename World => W2
              obtain rfl | rfl : j = 0 ∨ j = 1 := by omega
              · have q1 := kc hWW q0
                go_wp2_with fail
                exact ⟨⟨1, rfl, by omega, by simp, hVW, hWW⟩, by simp [intOf]⟩
              · replace x0 := kc hWW x0
                replace y0 := kc hWW y0
                replace z0 := kc hWW z0
                replace z1 := kc hWW z1
                replace z2 := kc hWW z2
                replace t0 := kc hWW t0
                replace t1 := kc hWW t1
                replace t2 := kc hWW t2
                have R2 := Lib.hid (fun q => R.out _ (bd hVW q))
                clear hWW hVW q0 R
                go_upto_region 18 with (fail)
                go_quiet (fail)
                go_wp2_with fail
                exact ⟨R2.out _, by simp [intOf]; omega⟩
          · have hqq : ((n : Int) == (num : Int)) = false := beq_eq_false_iff_ne.2 (by omega)
            have he := ht.2 hq
            rw [← he] at t0 t1 t2
            clear ht he
            generalize g k i = pt at *
            go_wp2_with fail
            go_loopw [10, 46] (fun s10 s46 W' => ∃ j : Nat, s46 = .int .i64 j ∧ j ≤ 1 ∧ s10 = .bool (false) ∧ Below V.heap.size V W' ∧ Below W.heap.size W W') (fun _ s46 _ => 1 - (intOf s46).toNat)
            case atStart => exact ⟨0, rfl, by omega, rfl, hW, Below.refl _ _⟩
            case round =>
              obtain ⟨j, rfl, hj, rfl, hVW, hWW⟩ := hrel
              rename World => W2
              obtain rfl | rfl : j = 0 ∨ j = 1 := by omega
              · have q1 := kc hWW q0
                go_wp2_with fail
                exact ⟨⟨1, rfl, by omega, by simp, hVW, hWW⟩, by simp [intOf]⟩
              · replace x0 := kc hWW x0
                replace y0 := kc hWW y0
                replace z0 := kc hWW z0
                replace z1 := kc hWW z1
                replace z2 := kc hWW z2
                replace t0 := kc hWW t0
                replace t1 := kc hWW t1
                replace t2 := kc hWW t2
                have R2 := Lib.hid (fun q => R.out _ (bd hVW q))
                clear hWW hVW q0 R
                go_upto_region 18 with (fail)
                go_quiet (fail)
                go_wp2_with fail
                exact ⟨R2.out _, by simp [intOf]; omega⟩
        · obtain rfl : i = m := by omega
          have R := Lib.hid (HN.out _ (bt HV.out hW))
          clear HN HHk
          go_wp2_with fail
          exact ⟨R.out, by simp [intOf]; omega⟩
    · obtain rfl : k = N := by omega
      go_wp2_with fail
      go_ret
      exact ⟨rfl, hV⟩
end Go.Proofs.Ytdgagjcocohnnaa.Mc
