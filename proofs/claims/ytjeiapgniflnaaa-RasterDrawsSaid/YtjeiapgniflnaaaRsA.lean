/-
  Layer 7 (raster): what is in range, of both sides.
-/
import Derived.Test.YtjeiapgniflnaaaRsMath
import Derived.WalkMore
namespace Go.Proofs.Ytjeiapgniflnaaa.Rs
open Go.RowKit
open Go.Proofs.Ytjeiapgniflnaaa.Ot
theorem isInRange_any (n : Int) (w : World) :
    Calls Try.prog 26 #[.int .i64 n] w fun e w' => e = .returned (.bool (inR n)) ∧ w = w' := by
  unfold inR
  rcases h1 : decide (-1073741824 ≤ n) with _ | _
  · go_enter Try.func26, Try.ntmps26
    go_wp2
    go_ret
    exact ⟨rfl, rfl⟩
  · go_enter Try.func26, Try.ntmps26
    go_wp2
    go_ret
    exact ⟨rfl, rfl⟩
theorem in_any (n : Int) (w : World) :
    Calls Try.prog 32 #[.int .i64 n] w fun e w' => e = .returned (.bool (inR n)) ∧ w = w' := by
  unfold inR
  rcases h1 : decide (-1073741824 ≤ n) with _ | _
  · go_enter Try.func32, Try.ntmps32
    go_wp2
    go_ret
    exact ⟨rfl, rfl⟩
  · go_enter Try.func32, Try.ntmps32
    go_wp2
    go_ret
    exact ⟨rfl, rfl⟩
def ArO (w : World) (ns : Nat → Nat) (g : Nat → Nat → Pt) (N : Nat) (v : Value) (V : World) : Prop := ∃ k : Nat, v = .int .i64 k ∧ k ≤ N ∧ allO ns g k = true ∧ Below w.heap.size w V
def ArI (w : World) (g : Nat → Pt) (n : Nat) (v : Value) (V : World) : Prop := ∃ k : Nat, v = .int .i64 k ∧ k ≤ n ∧ allR g k = true ∧ Below w.heap.size w V
set_option maxRecDepth 100000 in
set_option maxHeartbeats 4000000 in
theorem areInRange_any (a : Option Addr) (N c : Nat) (ns : Nat → Nat) (g : Nat → Nat → Pt) (hN : N ≤ 1000000) (hs : pre ns N ≤ 1000000) (w : World) (hA : OT w a N ns g) :
    Calls Try.prog 27 #[.slice a N c] w fun e w' => e = .returned (.bool (allO ns g N)) ∧ Below w.heap.size w w' := by
  have HA := Lib.hid hA
  have HS : Hid (∀ k, k < N → ns k ≤ 1000000) := Lib.hid (fun k hk => by have := pre_mono ns (show k + 1 ≤ N by omega); rw [pre] at this; omega)
  clear hA hs
  go_enter Try.func27, Try.ntmps27
  go_wp2_with fail
  go_step3
  go_wp2_with fail
  go_step3
  go_wp2_with fail
  go_loopw [3, 10] (fun s3 v V => s3 = .bool true ∧ ArO w ns g N v V) (fun _ v _ => N - (intOf v).toNat)
  case atStart => exact ⟨rfl, 0, rfl, by omega, rfl, Below.refl _ _⟩
  case round =>
    obtain ⟨rfl, k, rfl, hle, hz, hB⟩ := hrel
    rename World => V
    rcases Nat.lt_or_ge k N with hk | hk
    · obtain ⟨b, off, a', c', rfl, hc, h1, h2, hp⟩ := ot_below HA.out hB k hk
      have k2 : (0 : Int) ≤ (k : Int) := by omega
      have k3 : (k : Int) < (N : Int) := by omega
      have hs := HS.out k hk
      have hNo : Hid (allR (g k) (ns k) = false → allO ns g N = false) := Lib.hid (fun h => allO_no h N hk)
      have hYs : Hid (allR (g k) (ns k) = true → ∀ V', Below V.heap.size V V' → ArO w ns g N (.int .i64 ((k : Int) + 1)) V') := Lib.hid (fun h V' hb => ⟨k + 1, rfl, by omega, by rw [allO, hz, h]; rfl, bt hB hb⟩)
      have HP := Lib.hid hp
      clear hz hp
      generalize g k = gk at *
      generalize ns k = n at *
      go_wp2_with fail
      go_loopw [3, 16] (fun s3 v W => s3 = .bool true ∧ ArI V gk n v W) (fun _ v _ => n - (intOf v).toNat)
      case atStart => exact ⟨rfl, 0, rfl, by omega, rfl, Below.refl _ _⟩
      case round =>
        obtain ⟨rfl, i, rfl, hi, hz, hW⟩ := hrel
        rename World => W
        rcases Nat.lt_or_ge i n with hin | hin
        · obtain ⟨b', o', rfl, x0, x1, x2⟩ := pa_below HP.out hW i hin
          have i2 : (0 : Int) ≤ (i : Int) := by omega
          have i3 : (i : Int) < (n : Int) := by omega
          have hN : Hid (okR (gk i) = true → ∀ V', Below W.heap.size W V' → ArI V gk n (.int .i64 ((i : Int) + 1)) V') := Lib.hid (fun h V' h2 => ⟨i + 1, rfl, by omega, by rw [allR, hz, h]; rfl, bt hW h2⟩)
          have hY : Hid (okR (gk i) = false → allO ns g N = false) := Lib.hid (fun h => hNo.out (allR_no h n hin))
          have C1 := Lib.hid (fun w => isInRange_any (gk i).x w)
          have C2 := Lib.hid (fun w => isInRange_any (gk i).y w)
          clear hz hNo hYs
          unfold okR at hN hY
          rcases h1 : inR (gk i).x with _ | _
          · rw [h1] at C1 hN hY
            have hR := Lib.hid (hY.out rfl)
            clear hN hY h1
            generalize gk i = x at *
            go_wp2_with fail
            refine (C1.out _).mono ?_
            rintro e V1 ⟨rfl, rfl⟩
            go_wp2
            (try rw [Exit.noGoto_ret])
            go_ret
            exact ⟨by rw [hR.out]; rfl, bt hB (bt hW (ba (Below.refl _ _) _))⟩
          · rcases h2 : inR (gk i).y with _ | _
            · rw [h1] at C1
              rw [h2] at C2
              rw [h1, h2] at hN hY
              have hR := Lib.hid (hY.out rfl)
              clear hN hY h1 h2
              generalize gk i = x at *
              go_wp2_with fail
              refine (C1.out _).mono ?_
              rintro e V1 ⟨rfl, rfl⟩
              go_wp2_with fail
              refine (C2.out _).mono ?_
              rintro e V1 ⟨rfl, rfl⟩
              go_wp2
              (try rw [Exit.noGoto_ret])
              go_ret
              exact ⟨by rw [hR.out]; rfl, bt hB (bt hW (ba (Below.refl _ _) _))⟩
            · rw [h1] at C1
              rw [h2] at C2
              rw [h1, h2] at hN hY
              have hR := Lib.hid (hN.out rfl)
              clear hN hY h1 h2
              generalize gk i = x at *
              go_wp2_with fail
              refine (C1.out _).mono ?_
              rintro e V1 ⟨rfl, rfl⟩
              go_wp2_with fail
              refine (C2.out _).mono ?_
              rintro e V1 ⟨rfl, rfl⟩
              have R := Lib.hid (hR.out _ (ba (Below.refl _ _) (.cells #[.int .i64 x.x, .int .i64 x.y, .bool x.o] 63)))
              go_wp2_with fail
              exact ⟨⟨rfl, R.out⟩, by simp [intOf]; omega⟩
        · obtain rfl : i = n := by omega
          have R := Lib.hid (hYs.out hz _ hW)
          clear hz hYs hNo
          go_wp2_with fail
          exact ⟨⟨rfl, R.out⟩, by simp [intOf]; omega⟩
    · obtain rfl : k = N := by omega
      have hL := Lib.hid hz
      clear hz
      go_wp2
      (try rw [Exit.noGoto_ret])
      go_ret
      exact ⟨by rw [hL.out]; rfl, hB⟩
def RrO (w : World) (ns : Nat → Nat) (g : Nat → Nat → Pt) (N : Nat) (v : Value) (V : World) : Prop := ∃ k : Nat, v = .int .i64 k ∧ k ≤ N ∧ allO ns g k = true ∧ w = V
def RrI (w : World) (g : Nat → Pt) (n : Nat) (v : Value) (V : World) : Prop := ∃ k : Nat, v = .int .i64 k ∧ k ≤ n ∧ allR g k = true ∧ w = V
set_option maxRecDepth 100000 in
set_option maxHeartbeats 4000000 in
theorem ranged_any (a : Option Addr) (N c : Nat) (ns : Nat → Nat) (g : Nat → Nat → Pt) (hN : N ≤ 1000000) (hs : pre ns N ≤ 1000000) (w : World) (hA : OT w a N ns g) :
    Calls Try.prog 31 #[.slice a N c] w fun e w' => e = .returned (.bool (allO ns g N)) ∧ w = w' := by
  have HA := Lib.hid hA
  have HS : Hid (∀ k, k < N → ns k ≤ 1000000) := Lib.hid (fun k hk => by have := pre_mono ns (show k + 1 ≤ N by omega); rw [pre] at this; omega)
  clear hA hs
  go_enter Try.func31, Try.ntmps31
  go_wp2_with fail
  go_loopw [3, 4] (fun v _ V => RrO w ns g N v V) (fun v _ _ => N - (intOf v).toNat)
  case atStart => exact ⟨0, rfl, by omega, rfl, rfl⟩
  case round =>
    obtain ⟨k, rfl, hle, hz, rfl⟩ := hrel
    rcases Nat.lt_or_ge k N with hk | hk
    · obtain ⟨b, off, a', c', rfl, hc, h1, h2, hp⟩ := HA.out k hk
      have k2 : (0 : Int) ≤ (k : Int) := by omega
      have k3 : (k : Int) < (N : Int) := by omega
      have hs := HS.out k hk
      have hNo : Hid (allR (g k) (ns k) = false → allO ns g N = false) := Lib.hid (fun h => allO_no h N hk)
      have hYs : Hid (allR (g k) (ns k) = true → RrO w ns g N (.int .i64 ((k : Int) + 1)) w) := Lib.hid (fun h => ⟨k + 1, rfl, by omega, by rw [allO, hz, h]; rfl, rfl⟩)
      have HP := Lib.hid hp
      clear hz hp
      generalize g k = gk at *
      generalize ns k = n at *
      go_wp2_with fail
      go_loopw [4] (fun v W => RrI w gk n v W) (fun v _ => n - (intOf v).toNat)
      case atStart => exact ⟨0, rfl, by omega, rfl, rfl⟩
      case round =>
        obtain ⟨i, rfl, hi, hz, rfl⟩ := hrel
        rcases Nat.lt_or_ge i n with hin | hin
        · obtain ⟨b', o', rfl, x0, x1, x2⟩ := HP.out i hin
          have i2 : (0 : Int) ≤ (i : Int) := by omega
          have i3 : (i : Int) < (n : Int) := by omega
          have hN : Hid (okR (gk i) = true → RrI w gk n (.int .i64 ((i : Int) + 1)) w) := Lib.hid (fun h => ⟨i + 1, rfl, by omega, by rw [allR, hz, h]; rfl, rfl⟩)
          have hY : Hid (okR (gk i) = false → allO ns g N = false) := Lib.hid (fun h => hNo.out (allR_no h n hin))
          have C1 := Lib.hid (fun w => in_any (gk i).x w)
          have C2 := Lib.hid (fun w => in_any (gk i).y w)
          clear hz hNo hYs
          unfold okR at hN hY
          rcases h1 : inR (gk i).x with _ | _
          · rw [h1] at C1 hN hY
            have hR := Lib.hid (hY.out rfl)
            clear hN hY h1
            generalize gk i = x at *
            go_wp2_with fail
            refine (C1.out _).mono ?_
            rintro e V1 ⟨rfl, rfl⟩
            go_wp2
            go_ret
            exact ⟨by rw [hR.out]; rfl, rfl⟩
          · rcases h2 : inR (gk i).y with _ | _
            · rw [h1] at C1
              rw [h2] at C2
              rw [h1, h2] at hN hY
              have hR := Lib.hid (hY.out rfl)
              clear hN hY h1 h2
              generalize gk i = x at *
              go_wp2_with fail
              refine (C1.out _).mono ?_
              rintro e V1 ⟨rfl, rfl⟩
              go_wp2_with fail
              refine (C2.out _).mono ?_
              rintro e V1 ⟨rfl, rfl⟩
              go_wp2
              go_ret
              exact ⟨by rw [hR.out]; rfl, rfl⟩
            · rw [h1] at C1
              rw [h2] at C2
              rw [h1, h2] at hN hY
              have hR := Lib.hid (hN.out rfl)
              clear hN hY h1 h2
              generalize gk i = x at *
              go_wp2_with fail
              refine (C1.out _).mono ?_
              rintro e V1 ⟨rfl, rfl⟩
              go_wp2_with fail
              refine (C2.out _).mono ?_
              rintro e V1 ⟨rfl, rfl⟩
              go_wp2_with fail
              exact ⟨hR.out, by simp [intOf]; omega⟩
        · obtain rfl : i = n := by omega
          have R := Lib.hid (hYs.out hz)
          clear hz hYs hNo
          go_wp2_with fail
          exact ⟨R.out, by simp [intOf]; omega⟩
    · obtain rfl : k = N := by omega
      have hL := Lib.hid hz
      clear hz
      go_wp2
      go_ret
      exact ⟨by rw [hL.out]; rfl, rfl⟩
end Go.Proofs.Ytjeiapgniflnaaa.Rs
