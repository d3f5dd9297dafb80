/-
  Layer 6 (outline): the chapter's examples, walked.
-/
import Derived.Test.YtcogoomajfahkaaOtPa
import Derived.Test.YtcogoomajfahkaaOtE
namespace Go.Proofs.Ytcogoomajfahkaa.Ot
open Go.RowKit
theorem oo_as {w : World} {n₀ S : Nat} {ns B : Nat → Nat} {g : Nat → Nat → Pt} {n : Nat} {f : Nat → Pt} (h : OO w n₀ S 1 ns B g) (hn : ns 0 = n) (e : ∀ i, i < n → g 0 i = f i) : OT w (some ⟨S, 0, none⟩) 1 (fun _ => n) (fun _ => f) :=
  ot_congr (oo_ot h) (fun k hk => by obtain rfl : k = 0 := by omega
                                     exact hn) (fun k hk i hi => by obtain rfl : k = 0 := by omega
                                                                    exact e i (by omega))
theorem x_same {a a' : Option Addr} {c c' n n' : Nat} {g g' : Nat → Pt} {r : Bool} (hn : n ≤ 1000) (hn' : n' ≤ 1000) (hr : r = true ↔ (n = n' ∧ ∀ i, i < n → g i = g' i)) (w : World) (hA : OT w a 1 (fun _ => n) (fun _ => g)) (hB : OT w a' 1 (fun _ => n') (fun _ => g')) :
    Calls Try.prog 19 #[.slice a 1 c, .slice a' 1 c'] w fun e w' => e = .returned (.bool r) ∧ Below w.heap.size w w' :=
  Same_any a a' 1 c 1 c' (fun _ => n) (fun _ => n') (fun _ => g) (fun _ => g') r (Lib.hid (hr.trans ⟨fun h => ⟨rfl, fun _ _ => h⟩, fun h => h.2 0 (by omega)⟩)) (by omega) (by omega) (fun _ _ => by omega) (fun _ _ => by omega) w hA hB
theorem x_rsame {a a' : Option Addr} {c c' n n' : Nat} {g g' : Nat → Pt} {r : Bool} (hn : n ≤ 1000) (hn' : n' ≤ 1000) (hr : r = true ↔ (n = n' ∧ ∀ i, i < n → g i = g' i)) (w : World) (hA : OT w a 1 (fun _ => n) (fun _ => g)) (hB : OT w a' 1 (fun _ => n') (fun _ => g')) :
    Calls Try.prog 20 #[.slice a 1 c, .slice a' 1 c'] w fun e w' => e = .returned (.bool r) ∧ Below w.heap.size w w' :=
  rSame_any a a' 1 c 1 c' (fun _ => n) (fun _ => n') (fun _ => g) (fun _ => g') r (Lib.hid (hr.trans ⟨fun h => ⟨rfl, fun _ _ => h⟩, fun h => h.2 0 (by omega)⟩)) (by omega) (by omega) (fun _ _ => by omega) (fun _ _ => by omega) w hA hB
set_option maxRecDepth 100000 in
set_option maxHeartbeats 16000000 in
theorem sanity_any (w : World) :
    Calls Try.prog 9 #[] w fun e w' => e = .returned (.bool true) ∧ Below w.heap.size w w' := by
  go_enter Try.func9, Try.ntmps9
  go_wp2_with fail
  refine (example_any _).mono ?_
  rintro e V ⟨Bo, Bp, Bd, rfl, hX, hB⟩
  have hO := ot_one hX.c (Nat.le_refl _) (by omega) hX.p
  have C1 := Lib.hid (Check_any (some ⟨Bo, 0, none⟩) 1 1 (fun _ => 3) (fun _ => exP) (by omega) (by rw [e_n]; omega) V hO)
  rw [e_ck] at C1
  clear hO
  go_wp2_with fail
  refine C1.out.mono ?_
  clear C1
  rintro e V1 ⟨rfl, h1⟩
  replace hX := ex_below hX h1
  replace hB := bt hB h1
  clear h1
  have C2 := Lib.hid (Count_any (some ⟨Bo, 0, none⟩) 1 1 (fun _ => 3) (fun _ => exP) (by omega) (by rw [e_n]; omega) V1 (ot_one hX.c (Nat.le_refl _) (by omega) hX.p))
  rw [e_n] at C2
  have C3 := Lib.hid (Box_any (some ⟨Bo, 0, none⟩) 1 1 (fun _ => 3) (fun _ => exP) (by omega) (by rw [e_n]; omega) V1 (ot_one hX.c (Nat.le_refl _) (by omega) hX.p))
  rw [e_bx] at C3
  go_wp2_with fail
  refine C2.out.mono ?_
  rintro e V2 ⟨rfl, rfl⟩
  go_wp2_with fail
  refine C3.out.mono ?_
  clear C2 C3
  rintro e V3 ⟨rfl, h3⟩
  replace hX := ex_below hX h3
  replace hB := bt hB h3
  clear h3
  have y0 := hX.c
  have C4 : Hid (∀ W, Below V3.heap.size V3 W → ∀ b, W.cell? ⟨b, 0, none⟩ = some (.slice (some ⟨Bp, 0, none⟩) 2 3) → Calls Try.prog 13 #[.slice (some ⟨b, 0, none⟩) 1 1] W fun e w' => e = .returned (.int .i64 11) ∧ Below W.heap.size W w') := Lib.hid (fun W h b hc => by
    have := Check_any (some ⟨b, 0, none⟩) 1 1 (fun _ => 2) (fun _ => exP) (by omega) (by decide) W (ot_one hc (by omega) (by omega) (pa_below (pa_less hX.p (by omega)) h))
    rw [e_ck2] at this
    exact this)
  go_wp2_with fail
  refine (C4.out _ (ba (Below.refl _ _) _) _ (by go_cell)).mono ?_
  clear C4
  rintro e V4 ⟨rfl, h4⟩
  replace h4 := bt (ba (Below.refl _ _) _) h4
  replace hX := ex_below hX h4
  replace hB := bt hB h4
  clear h4 y0
  have y0 := hX.c
  have C5 : Hid (∀ W, Below V4.heap.size V4 W → ∀ b, W.cell? ⟨b, 0, none⟩ = some (.slice (some ⟨Bp, 3, none⟩) 2 2) → Calls Try.prog 13 #[.slice (some ⟨b, 0, none⟩) 1 1] W fun e w' => e = .returned (.int .i64 11) ∧ Below W.heap.size W w') := Lib.hid (fun W h b hc => by
    have hp : PA W (some ⟨Bp, 3, none⟩) 2 cD := fun i hi => by
      obtain ⟨b', o', e, hq⟩ := pa_below hX.p h (i + 1) (by omega)
      cases e
      refine ⟨Bp, 3, rfl, ?_⟩
      have e3 : 0 + (i + 1) * 3 = 3 + i * 3 := by omega
      rw [e3] at hq
      exact hq
    have := Check_any (some ⟨b, 0, none⟩) 1 1 (fun _ => 2) (fun _ => cD) (by omega) (by decide) W (ot_one hc (by omega) (by omega) hp)
    rw [e_ck3] at this
    exact this)
  go_wp2_with fail
  refine (C5.out _ (ba (Below.refl _ _) _) _ (by go_cell)).mono ?_
  clear C5
  rintro e V5 ⟨rfl, h5⟩
  replace h5 := bt (ba (Below.refl _ _) _) h5
  replace hX := ex_below hX h5
  replace hB := bt hB h5
  clear h5 y0
  have hF0 : OT ((V5.alloc (.cells #[.int .i64 0, .int .i64 0, .bool true, .int .i64 64, .int .i64 96, .bool true, .int .i64 128, .int .i64 128, .bool true, .int .i64 192, .int .i64 96, .bool true, .int .i64 256, .int .i64 0, .bool true] 62)).alloc (.cells #[.slice (some ⟨V5.heap.size, 0, none⟩) 5 5] 60)) (some ⟨V5.heap.size + 1, 0, none⟩) 1 (fun _ => 5) (fun _ => ftP) := ot_one (by go_cell) (Nat.le_refl _) (by omega) (pa_below (pa_ft V5 _) (ba (Below.refl _ _) _))
  have hb6 : Below V5.heap.size V5 ((V5.alloc (.cells #[.int .i64 0, .int .i64 0, .bool true, .int .i64 64, .int .i64 96, .bool true, .int .i64 128, .int .i64 128, .bool true, .int .i64 192, .int .i64 96, .bool true, .int .i64 256, .int .i64 0, .bool true] 62)).alloc (.cells #[.slice (some ⟨V5.heap.size, 0, none⟩) 5 5] 60)) := ba (ba (Below.refl _ _) _) _
  have C6 : Hid (∀ W, Below V5.heap.size V5 W → ∀ b, W.cell? ⟨b, 0, none⟩ = some (.int .i64 32) → _) := Lib.hid (fun W h b hc => Instance_yes (some ⟨Bo, 0, none⟩) 1 1 (fun _ => 3) (fun _ => exP) (some ⟨Bd, 0, none⟩) 1 1 exD (some ⟨b, 0, none⟩) 1 1 at1 (by omega) (by rw [e_n]; omega) (by omega) W (ot_one (kc h hX.c) (Nat.le_refl _) (by omega) (pa_below hX.p h)) (da_below hX.d h) (fun i hi => ⟨b, 0, rfl, by
    obtain rfl : i = 0 := by omega
    exact hc⟩) e_d1)
  go_wp2_with fail
  refine (C6.out _ (ba hb6 _) _ (by go_cell)).mono ?_
  clear C6
  rintro e V6 ⟨S6, B6, rfl, hO6, h6'⟩
  have hF := ot_below hF0 (bt (ba (Below.refl _ _) _) h6')
  have h6 := bt (ba hb6 _) h6'
  have hH := oo_as hO6 rfl e_in
  clear h6' hO6 hF0 hb6
  replace hX := ex_below hX h6
  replace hB := bt hB h6
  clear h6
  generalize V5.heap.size + 1 = b5 at *
  have C7 : Hid (∀ W, Below V6.heap.size V6 W → ∀ b, W.cell? ⟨b, 0, none⟩ = some (.int .i64 32) → W.cell? ⟨b, 1, none⟩ = some (.int .i64 0) → Calls Try.prog 29 #[.slice (some ⟨Bo, 0, none⟩) 1 1, .slice (some ⟨Bd, 0, none⟩) 1 1, .slice (some ⟨b, 0, none⟩) 2 2] W fun e w' => e = .returned (.tuple #[.slice none 0 0, .int .i64 12]) ∧ Below W.heap.size W w') := Lib.hid (fun W h b hc hc2 => by
    have := Instance_no (some ⟨Bo, 0, none⟩) 1 1 (fun _ => 3) (fun _ => exP) (some ⟨Bd, 0, none⟩) 1 1 exD (some ⟨b, 0, none⟩) 2 2 (by omega) (by rw [e_n]; omega) (by omega) W (ot_one (kc h hX.c) (Nat.le_refl _) (by omega) (pa_below hX.p h)) (da_below hX.d h) (by
      rw [e_n]
      have := e_d2
      intro h0
      have h1 : ckD exD 1 2 3 = 0 := h0
      omega)
    rw [e_n] at this
    have h2 : ckD exD 1 ((2 : Nat) : Int) ((3 : Nat) : Int) = 12 := e_d2
    rw [h2] at this
    exact this)
  go_wp2_with fail
  refine (C7.out _ (ba (Below.refl _ _) _) _ (by go_cell) (by go_cell)).mono ?_
  clear C7
  rintro e V7 ⟨rfl, h7⟩
  replace h7 := bt (ba (Below.refl _ _) _) h7
  replace hX := ex_below hX h7
  replace hH := ot_below hH h7
  replace hF := ot_below hF h7
  replace hB := bt hB h7
  clear h7
  have hb8 : Below V7.heap.size V7 (((V7.alloc (.cells #[.int .i64 0, .int .i64 0, .bool true, .int .i64 9, .int .i64 8, .bool false, .int .i64 10, .int .i64 (-1), .bool true] 62)).alloc (.cells #[.slice (some ⟨V7.heap.size, 0, none⟩) 3 3] 60))) := ba (ba (Below.refl _ _) _) _
  have hW : OT (((V7.alloc (.cells #[.int .i64 0, .int .i64 0, .bool true, .int .i64 9, .int .i64 8, .bool false, .int .i64 10, .int .i64 (-1), .bool true] 62)).alloc (.cells #[.slice (some ⟨V7.heap.size, 0, none⟩) 3 3] 60))) (some ⟨V7.heap.size + 1, 0, none⟩) 1 (fun _ => 3) (fun _ => hfP) := ot_one (by go_cell) (Nat.le_refl _) (by omega) (pa_below (pa_hf V7 _) (ba (Below.refl _ _) _))
  replace hX := ex_below hX hb8
  replace hH := ot_below hH hb8
  replace hF := ot_below hF hb8
  replace hB := bt hB hb8
  clear hb8
  have C8 := Lib.hid (x_rsame (c := 1) (c' := 1) (r := true) (by omega) (by omega) ⟨fun _ => ⟨rfl, fun _ _ => rfl⟩, fun _ => rfl⟩ _ hH hW)
  go_wp2_with fail
  refine C8.out.mono ?_
  clear C8
  rintro e V8 ⟨rfl, h8⟩
  generalize V7.heap.size + 1 = b7 at *
  replace hX := ex_below hX h8
  replace hH := ot_below hH h8
  replace hF := ot_below hF h8
  replace hW := ot_below hW h8
  replace hB := bt hB h8
  clear h8
  have C9 := Lib.hid (Flat_any (some ⟨Bo, 0, none⟩) 1 1 (fun _ => 3) (fun _ => exP) (by omega) (fun _ _ => by omega) V8 (ot_one hX.c (Nat.le_refl _) (by omega) hX.p))
  go_wp2_with fail
  refine C9.out.mono ?_
  clear C9
  rintro e V9 ⟨S9, B9, rfl, hO9, h9⟩
  have hFl := oo_as hO9 e_fn e_fp
  clear hO9
  replace hX := ex_below hX h9
  replace hH := ot_below hH h9
  replace hF := ot_below hF h9
  replace hW := ot_below hW h9
  replace hB := bt hB h9
  clear h9
  have C10 := Lib.hid (x_rsame (c := 1) (c' := 1) (r := true) (by omega) (by omega) ⟨fun _ => ⟨rfl, fun _ _ => rfl⟩, fun _ => rfl⟩ _ hFl hF)
  go_wp2_with fail
  refine C10.out.mono ?_
  clear C10 hFl
  rintro e V10 ⟨rfl, h10⟩
  replace hX := ex_below hX h10
  replace hH := ot_below hH h10
  replace hW := ot_below hW h10
  replace hB := bt hB h10
  clear h10 hF
  have C11 := Lib.hid (x_same (c := 1) (c' := 1) (r := true) (by omega) (by omega) ⟨fun _ => ⟨rfl, fun _ _ => rfl⟩, fun _ => rfl⟩ _ hH hW)
  go_wp2_with fail
  refine C11.out.mono ?_
  clear C11
  rintro e V11 ⟨rfl, h11⟩
  replace hX := ex_below hX h11
  replace hH := ot_below hH h11
  replace hB := bt hB h11
  clear h11 hW
  have C12 := Lib.hid (x_same (c := 1) (c' := 1) (r := false) (by omega) (by omega) ⟨fun h => Bool.noConfusion h, fun h => by
    have := h.2 1 (by omega)
    have := congrArg Pt.x this
    exact absurd this (by decide)⟩ _ hH (ot_one hX.c (Nat.le_refl _) (by omega) hX.p))
  go_wp2_with fail
  refine C12.out.mono ?_
  clear C12
  rintro e V12 ⟨rfl, h12⟩
  replace hB := bt hB h12
  clear h12 hX hH
  go_wp2_with fail
  go_ret
  exact ⟨rfl, hB⟩
end Go.Proofs.Ytcogoomajfahkaa.Ot
