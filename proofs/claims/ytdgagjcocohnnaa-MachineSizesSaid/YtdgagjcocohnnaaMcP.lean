/-
  Layer 9 (machine): the chapter's examples, walked.
-/
import Derived.Test.YtdgagjcocohnnaaMcO
namespace Go.Proofs.Ytdgagjcocohnnaa.Mc
open Go.RowKit
open Go.Proofs.Ytdgagjcocohnnaa.Ot (Pt PtAt PA PO OO OT pre pre_mono shP p0 EqO EqC rSame_any rCopy_any mo_oo oo_ot ot_below ot_congr)
theorem x_ok2 {a : Option Addr} {c : Nat} {f : Nat → Pt} {l : List Opn} {pa : Option Addr} {pc : Nat} (sz : Int) {n : Nat} (hn : l.length = n) (hpc : n ≤ pc ∧ pc ≤ 9223372036854775807) (w : World) (hA : OT w a 1 (fun _ => 3) (fun _ => f)) (hp : PrA w.heap.size w pa l) {st : Int} {g : Nat → Pt}
    (h1 : isOk (xR f l sz) = true) (h2 : okSt (xR f l sz) = st) (h3 : ∀ i, i < 3 → okF (xR f l sz) i = g i) :
    Calls Try.prog 12 #[.slice pa n pc, .slice a 1 c, .int .i64 sz] w fun e w' => ∃ S, e = .returned (.tuple #[.slice (some ⟨S, 0, none⟩) 1 1, .int .i64 st, .int .i64 0]) ∧ OT w' (some ⟨S, 0, none⟩) 1 (fun _ => 3) (fun _ => g) ∧ Below w.heap.size w w' := by
  subst hn
  refine (x_ok sz hpc w hA hp h1).mono ?_
  rintro e w' ⟨S, rfl, hO, hB⟩
  rw [h2]
  exact ⟨S, rfl, ot_congr hO (fun _ _ => rfl) (fun _ _ i hi => h3 i hi), hB⟩
theorem x_er2 {a : Option Addr} {c : Nat} {f : Nat → Pt} {l : List Opn} {pa : Option Addr} {pc : Nat} (sz : Int) {n : Nat} (hn : l.length = n) (hpc : n ≤ pc ∧ pc ≤ 9223372036854775807) (w : World) (hA : OT w a 1 (fun _ => 3) (fun _ => f)) (hp : PrA w.heap.size w pa l) {E : Int}
    (h1 : isOk (xR f l sz) = false) (h2 : erE (xR f l sz) = E) :
    Calls Try.prog 12 #[.slice pa n pc, .slice a 1 c, .int .i64 sz] w fun e w' => e = .returned (.tuple #[.slice none 0 0, .int .i64 0, .int .i64 E]) ∧ Below w.heap.size w w' := by
  subst hn
  subst h2
  exact x_er sz hpc w hA hp h1
theorem three {P : Nat → Prop} (h0 : P 0) (h1 : P 1) (h2 : P 2) (i : Nat) (hi : i < 3) : P i := by
  obtain rfl | rfl | rfl : i = 0 ∨ i = 1 ∨ i = 2 := by omega
  · exact h0
  · exact h1
  · exact h2
set_option maxRecDepth 100000 in
set_option maxHeartbeats 8000000 in
theorem sanity_any (w : World) :
    Calls Try.prog 9 #[] w fun e w' => e = .returned (.bool true) ∧ Below w.heap.size w w' := by
  go_enter Try.func9, Try.ntmps9
  go_wp2_with fail
  refine (example_any _).mono ?_
  rintro e V1 ⟨b1, rfl, hO, hB⟩
  go_upto_region 3 with (fail)
  have hb1 : Below V1.heap.size V1 (V1.alloc (.cells #[.int .i64 10, .int .i64 1, .int .i64 0, .int .i64 8, .int .i64 0, .int .i64 0, .int .i64 12, .int .i64 1, .int .i64 0] 45)) := ba (Below.refl _ _) _
  have qR : PrA (V1.alloc (.cells #[.int .i64 10, .int .i64 1, .int .i64 0, .int .i64 8, .int .i64 0, .int .i64 0, .int .i64 12, .int .i64 1, .int .i64 0] 45)).heap.size (V1.alloc (.cells #[.int .i64 10, .int .i64 1, .int .i64 0, .int .i64 8, .int .i64 0, .int .i64 0, .int .i64 12, .int .i64 1, .int .i64 0] 45)) (some ⟨V1.heap.size, 0, none⟩) [⟨10, 1, 0⟩, ⟨8, 0, 0⟩, ⟨12, 1, 0⟩] := pra_lit V1 [⟨10, 1, 0⟩, ⟨8, 0, 0⟩, ⟨12, 1, 0⟩] 45
  replace hO := ot_below hO hb1
  replace hB := bt hB hb1
  clear hb1
  generalize V1.alloc (.cells #[.int .i64 10, .int .i64 1, .int .i64 0, .int .i64 8, .int .i64 0, .int .i64 0, .int .i64 12, .int .i64 1, .int .i64 0] 45) = V2 at *
  generalize V1.heap.size = bqR at *
  go_upto_region 4 with (fail)
  have hb2 : Below V2.heap.size V2 (V2.alloc (.cells #[.int .i64 9, .int .i64 0, .int .i64 0, .int .i64 1, .int .i64 10, .int .i64 0, .int .i64 3, .int .i64 0, .int .i64 0, .int .i64 14, .int .i64 2, .int .i64 0, .int .i64 1, .int .i64 7, .int .i64 0, .int .i64 13, .int .i64 0, .int .i64 0] 45)) := ba (Below.refl _ _) _
  have qC : PrA (V2.alloc (.cells #[.int .i64 9, .int .i64 0, .int .i64 0, .int .i64 1, .int .i64 10, .int .i64 0, .int .i64 3, .int .i64 0, .int .i64 0, .int .i64 14, .int .i64 2, .int .i64 0, .int .i64 1, .int .i64 7, .int .i64 0, .int .i64 13, .int .i64 0, .int .i64 0] 45)).heap.size (V2.alloc (.cells #[.int .i64 9, .int .i64 0, .int .i64 0, .int .i64 1, .int .i64 10, .int .i64 0, .int .i64 3, .int .i64 0, .int .i64 0, .int .i64 14, .int .i64 2, .int .i64 0, .int .i64 1, .int .i64 7, .int .i64 0, .int .i64 13, .int .i64 0, .int .i64 0] 45)) (some ⟨V2.heap.size, 0, none⟩) [⟨9, 0, 0⟩, ⟨1, 10, 0⟩, ⟨3, 0, 0⟩, ⟨14, 2, 0⟩, ⟨1, 7, 0⟩, ⟨13, 0, 0⟩] := pra_lit V2 [⟨9, 0, 0⟩, ⟨1, 10, 0⟩, ⟨3, 0, 0⟩, ⟨14, 2, 0⟩, ⟨1, 7, 0⟩, ⟨13, 0, 0⟩] 45
  replace hO := ot_below hO hb2
  replace qR := pra_up qR hb2
  replace hB := bt hB hb2
  clear hb2
  generalize V2.alloc (.cells #[.int .i64 9, .int .i64 0, .int .i64 0, .int .i64 1, .int .i64 10, .int .i64 0, .int .i64 3, .int .i64 0, .int .i64 0, .int .i64 14, .int .i64 2, .int .i64 0, .int .i64 1, .int .i64 7, .int .i64 0, .int .i64 13, .int .i64 0, .int .i64 0] 45) = V3 at *
  generalize V2.heap.size = bqC at *
  go_upto_region 5 with (fail)
  have hb3 : Below V3.heap.size V3 (V3.alloc (.cells #[.int .i64 15, .int .i64 3, .int .i64 4, .int .i64 10, .int .i64 2, .int .i64 0, .int .i64 1, .int .i64 2, .int .i64 0, .int .i64 3, .int .i64 0, .int .i64 0, .int .i64 12, .int .i64 2, .int .i64 0] 45)) := ba (Below.refl _ _) _
  have qL : PrA (V3.alloc (.cells #[.int .i64 15, .int .i64 3, .int .i64 4, .int .i64 10, .int .i64 2, .int .i64 0, .int .i64 1, .int .i64 2, .int .i64 0, .int .i64 3, .int .i64 0, .int .i64 0, .int .i64 12, .int .i64 2, .int .i64 0] 45)).heap.size (V3.alloc (.cells #[.int .i64 15, .int .i64 3, .int .i64 4, .int .i64 10, .int .i64 2, .int .i64 0, .int .i64 1, .int .i64 2, .int .i64 0, .int .i64 3, .int .i64 0, .int .i64 0, .int .i64 12, .int .i64 2, .int .i64 0] 45)) (some ⟨V3.heap.size, 0, none⟩) [⟨15, 3, 4⟩, ⟨10, 2, 0⟩, ⟨1, 2, 0⟩, ⟨3, 0, 0⟩, ⟨12, 2, 0⟩] := pra_lit V3 [⟨15, 3, 4⟩, ⟨10, 2, 0⟩, ⟨1, 2, 0⟩, ⟨3, 0, 0⟩, ⟨12, 2, 0⟩] 45
  replace hO := ot_below hO hb3
  replace qR := pra_up qR hb3
  replace qC := pra_up qC hb3
  replace hB := bt hB hb3
  clear hb3
  generalize V3.alloc (.cells #[.int .i64 15, .int .i64 3, .int .i64 4, .int .i64 10, .int .i64 2, .int .i64 0, .int .i64 1, .int .i64 2, .int .i64 0, .int .i64 3, .int .i64 0, .int .i64 0, .int .i64 12, .int .i64 2, .int .i64 0] 45) = V4 at *
  generalize V3.heap.size = bqL at *
  have X4 : Hid (Calls Try.prog 12 #[.slice (some ⟨bqR, 0, none⟩) 3 3, .slice (some ⟨b1, 0, none⟩) 1 1, .int .i64 12] V4 fun e w' => ∃ S, e = .returned (.tuple #[.slice (some ⟨S, 0, none⟩) 1 1, .int .i64 3, .int .i64 0]) ∧ OT w' (some ⟨S, 0, none⟩) 1 (fun _ => 3) (fun _ => wiF exF 1 128 50) ∧ Below V4.heap.size V4 w') := Lib.hid (x_ok2 12 rfl ⟨by decide, by decide⟩ V4 hO qR (by kernel_rfl) (by kernel_rfl) (three (by kernel_rfl) (by kernel_rfl) (by kernel_rfl)))
  go_wp2_with fail
  refine X4.out.mono ?_
  clear X4
  rintro e V5 ⟨ShA, rfl, hA, h5⟩
  replace hO := ot_below hO h5
  replace qR := pra_up qR h5
  replace qC := pra_up qC h5
  replace qL := pra_up qL h5
  replace hB := bt hB h5
  clear h5
  have X5 : Hid (Calls Try.prog 12 #[.slice (some ⟨bqC, 0, none⟩) 6 6, .slice (some ⟨b1, 0, none⟩) 1 1, .int .i64 12] V5 fun e w' => ∃ S, e = .returned (.tuple #[.slice (some ⟨S, 0, none⟩) 1 1, .int .i64 6, .int .i64 0]) ∧ OT w' (some ⟨S, 0, none⟩) 1 (fun _ => 3) (fun _ => wiF exF 0 10 7) ∧ Below V5.heap.size V5 w') := Lib.hid (x_ok2 12 rfl ⟨by decide, by decide⟩ V5 hO qC (by kernel_rfl) (by kernel_rfl) (three (by kernel_rfl) (by kernel_rfl) (by kernel_rfl)))
  go_wp2_with fail
  refine X5.out.mono ?_
  clear X5
  rintro e V6 ⟨ShC, rfl, hC, h6⟩
  replace hO := ot_below hO h6
  replace qR := pra_up qR h6
  replace qC := pra_up qC h6
  replace qL := pra_up qL h6
  replace hA := ot_below hA h6
  replace hB := bt hB h6
  clear h6
  have X6 : Hid (Calls Try.prog 12 #[.slice (some ⟨bqC, 0, none⟩) 6 6, .slice (some ⟨b1, 0, none⟩) 1 1, .int .i64 10] V6 fun e w' => ∃ S, e = .returned (.tuple #[.slice (some ⟨S, 0, none⟩) 1 1, .int .i64 4, .int .i64 0]) ∧ OT w' (some ⟨S, 0, none⟩) 1 (fun _ => 3) (fun _ => exF) ∧ Below V6.heap.size V6 w') := Lib.hid (x_ok2 10 rfl ⟨by decide, by decide⟩ V6 hO qC (by kernel_rfl) (by kernel_rfl) (three (by kernel_rfl) (by kernel_rfl) (by kernel_rfl)))
  go_wp2_with fail
  refine X6.out.mono ?_
  clear X6
  rintro e V7 ⟨ShD, rfl, hD, h7⟩
  replace hO := ot_below hO h7
  replace qR := pra_up qR h7
  replace qC := pra_up qC h7
  replace qL := pra_up qL h7
  replace hA := ot_below hA h7
  replace hC := ot_below hC h7
  replace hB := bt hB h7
  clear h7
  have X7 : Hid (Calls Try.prog 12 #[.slice (some ⟨bqL, 0, none⟩) 5 5, .slice (some ⟨b1, 0, none⟩) 1 1, .int .i64 0] V7 fun e w' => ∃ S, e = .returned (.tuple #[.slice (some ⟨S, 0, none⟩) 1 1, .int .i64 13, .int .i64 0]) ∧ OT w' (some ⟨S, 0, none⟩) 1 (fun _ => 3) (fun _ => wiF exF 2 (-37) 7) ∧ Below V7.heap.size V7 w') := Lib.hid (x_ok2 0 rfl ⟨by decide, by decide⟩ V7 hO qL (by kernel_rfl) (by kernel_rfl) (three (by kernel_rfl) (by kernel_rfl) (by kernel_rfl)))
  go_wp2_with fail
  refine X7.out.mono ?_
  clear X7
  rintro e V8 ⟨ShE, rfl, hE, h8⟩
  replace hO := ot_below hO h8
  replace qR := pra_up qR h8
  replace qC := pra_up qC h8
  replace qL := pra_up qL h8
  replace hA := ot_below hA h8
  replace hC := ot_below hC h8
  replace hD := ot_below hD h8
  replace hB := bt hB h8
  clear h8
  clear qR qC qL
  have X8 : Hid (∀ W, Below V8.heap.size V8 W → ∀ b, PrA W.heap.size W (some ⟨b, 0, none⟩) [⟨2, 0, 0⟩] → Calls Try.prog 12 #[.slice (some ⟨b, 0, none⟩) 1 1, .slice (some ⟨b1, 0, none⟩) 1 1, .int .i64 0] W fun e w' => e = .returned (.tuple #[.slice none 0 0, .int .i64 0, .int .i64 20]) ∧ Below W.heap.size W w') := Lib.hid (fun W hW b hp => x_er2 0 rfl ⟨by decide, by decide⟩ W (ot_below hO hW) hp (by kernel_rfl) (by kernel_rfl))
  go_wp2_with fail
  refine (X8.out _ (ba (Below.refl _ _) _) _ (pra_lit V8 [⟨2, 0, 0⟩] 45)).mono ?_
  clear X8
  rintro e V9 ⟨rfl, h9⟩
  replace h9 := bt (ba (Below.refl _ _) _) h9
  replace hO := ot_below hO h9
  replace hA := ot_below hA h9
  replace hC := ot_below hC h9
  replace hD := ot_below hD h9
  replace hE := ot_below hE h9
  replace hB := bt hB h9
  clear h9
  have X9 : Hid (∀ W, Below V9.heap.size V9 W → ∀ b, PrA W.heap.size W (some ⟨b, 0, none⟩) [⟨10, 3, 0⟩] → Calls Try.prog 12 #[.slice (some ⟨b, 0, none⟩) 1 1, .slice (some ⟨b1, 0, none⟩) 1 1, .int .i64 0] W fun e w' => e = .returned (.tuple #[.slice none 0 0, .int .i64 0, .int .i64 22]) ∧ Below W.heap.size W w') := Lib.hid (fun W hW b hp => x_er2 0 rfl ⟨by decide, by decide⟩ W (ot_below hO hW) hp (by kernel_rfl) (by kernel_rfl))
  go_wp2_with fail
  refine (X9.out _ (ba (Below.refl _ _) _) _ (pra_lit V9 [⟨10, 3, 0⟩] 45)).mono ?_
  clear X9
  rintro e V10 ⟨rfl, h10⟩
  replace h10 := bt (ba (Below.refl _ _) _) h10
  replace hO := ot_below hO h10
  replace hA := ot_below hA h10
  replace hC := ot_below hC h10
  replace hD := ot_below hD h10
  replace hE := ot_below hE h10
  replace hB := bt hB h10
  clear h10
  have X10 : Hid (∀ W, Below V10.heap.size V10 W → ∀ b, PrA W.heap.size W (some ⟨b, 0, none⟩) [⟨1, 1, 1⟩] → Calls Try.prog 12 #[.slice (some ⟨b, 0, none⟩) 1 1, .slice (some ⟨b1, 0, none⟩) 1 1, .int .i64 0] W fun e w' => e = .returned (.tuple #[.slice none 0 0, .int .i64 0, .int .i64 5]) ∧ Below W.heap.size W w') := Lib.hid (fun W hW b hp => x_er2 0 rfl ⟨by decide, by decide⟩ W (ot_below hO hW) hp (by kernel_rfl) (by kernel_rfl))
  go_wp2_with fail
  refine (X10.out _ (ba (Below.refl _ _) _) _ (pra_lit V10 [⟨1, 1, 1⟩] 45)).mono ?_
  clear X10
  rintro e V11 ⟨rfl, h11⟩
  replace h11 := bt (ba (Below.refl _ _) _) h11
  replace hO := ot_below hO h11
  replace hA := ot_below hA h11
  replace hC := ot_below hC h11
  replace hD := ot_below hD h11
  replace hE := ot_below hE h11
  replace hB := bt hB h11
  clear h11
  have X11 : Hid (∀ W, Below V11.heap.size V11 W → ∀ b, PrA W.heap.size W (some ⟨b, 0, none⟩) [⟨14, 2, 0⟩, ⟨1, 1, 0⟩] → Calls Try.prog 12 #[.slice (some ⟨b, 0, none⟩) 2 2, .slice (some ⟨b1, 0, none⟩) 1 1, .int .i64 0] W fun e w' => e = .returned (.tuple #[.slice none 0 0, .int .i64 0, .int .i64 5]) ∧ Below W.heap.size W w') := Lib.hid (fun W hW b hp => x_er2 0 rfl ⟨by decide, by decide⟩ W (ot_below hO hW) hp (by kernel_rfl) (by kernel_rfl))
  go_wp2_with fail
  refine (X11.out _ (ba (Below.refl _ _) _) _ (pra_lit V11 [⟨14, 2, 0⟩, ⟨1, 1, 0⟩] 45)).mono ?_
  clear X11
  rintro e V12 ⟨rfl, h12⟩
  replace h12 := bt (ba (Below.refl _ _) _) h12
  replace hO := ot_below hO h12
  replace hA := ot_below hA h12
  replace hC := ot_below hC h12
  replace hD := ot_below hD h12
  replace hE := ot_below hE h12
  replace hB := bt hB h12
  clear h12
  have X12 := Lib.hid (with_any (some ⟨b1, 0, none⟩) 1 exF 1 (by decide) (128) 50 V12 hO)
  go_wp2_with fail
  refine X12.out.mono ?_
  clear X12
  rintro e V13 ⟨aw, cw, rfl, hW, h13⟩
  replace hO := ot_below hO h13
  replace hA := ot_below hA h13
  replace hC := ot_below hC h13
  replace hD := ot_below hD h13
  replace hE := ot_below hE h13
  replace hB := bt hB h13
  clear h13
  have X13 := Lib.hid (x_same (c := 1) (c' := cw) V13 hA hW (fun _ _ => rfl))
  go_wp2_with fail
  refine X13.out.mono ?_
  clear X13 hA hW
  rintro e V14 ⟨rfl, h14⟩
  replace hO := ot_below hO h14
  replace hC := ot_below hC h14
  replace hD := ot_below hD h14
  replace hE := ot_below hE h14
  replace hB := bt hB h14
  clear h14
  have X14 := Lib.hid (with_any (some ⟨b1, 0, none⟩) 1 exF 0 (by decide) (10) 7 V14 hO)
  go_wp2_with fail
  refine X14.out.mono ?_
  clear X14
  rintro e V15 ⟨aw, cw, rfl, hW, h15⟩
  replace hO := ot_below hO h15
  replace hC := ot_below hC h15
  replace hD := ot_below hD h15
  replace hE := ot_below hE h15
  replace hB := bt hB h15
  clear h15
  have X15 := Lib.hid (x_same (c := 1) (c' := cw) V15 hC hW (fun _ _ => rfl))
  go_wp2_with fail
  refine X15.out.mono ?_
  clear X15 hC hW
  rintro e V16 ⟨rfl, h16⟩
  replace hO := ot_below hO h16
  replace hD := ot_below hD h16
  replace hE := ot_below hE h16
  replace hB := bt hB h16
  clear h16
  have X16 := Lib.hid (x_same (c := 1) (c' := 1) V16 hD hO (fun _ _ => rfl))
  go_wp2_with fail
  refine X16.out.mono ?_
  clear X16 hD
  rintro e V17 ⟨rfl, h17⟩
  replace hO := ot_below hO h17
  replace hE := ot_below hE h17
  replace hB := bt hB h17
  clear h17
  have X17 := Lib.hid (with_any (some ⟨b1, 0, none⟩) 1 exF 2 (by decide) (-37) 7 V17 hO)
  go_wp2_with fail
  refine X17.out.mono ?_
  clear X17
  rintro e V18 ⟨aw, cw, rfl, hW, h18⟩
  replace hO := ot_below hO h18
  replace hE := ot_below hE h18
  replace hB := bt hB h18
  clear h18
  have X18 := Lib.hid (x_same (c := 1) (c' := cw) V18 hE hW (fun _ _ => rfl))
  go_wp2_with fail
  refine X18.out.mono ?_
  clear X18 hE hW
  rintro e V19 ⟨rfl, h19⟩
  replace hO := ot_below hO h19
  replace hB := bt hB h19
  clear h19
  go_wp2_with fail
  go_ret
  exact ⟨rfl, hB⟩
end Go.Proofs.Ytdgagjcocohnnaa.Mc
