/-
  Layer 4 (bitmap): the chapter's examples.
-/
import Derived.Test.YtfkpodhkbcocmaaBmO
namespace Go.Proofs.Ytfkpodhkbcocmaa.Bm
open Go.RowKit
def SA (w V : World) : Prop := BoxAt V (w.heap.size + 1) 3 2 (some ⟨w.heap.size, 0, none⟩) 6 6 ∧ BoxAt V (w.heap.size + 1 + 1 + 1) 2 1 (some ⟨w.heap.size + 1 + 1, 0, none⟩) 2 2 ∧ OB V w.heap.size 6 fa ∧ OB V (w.heap.size + 1 + 1) 2 fb ∧ Below w.heap.size w V
theorem sa_below {w V V' : World} (h : SA w V) (hB : Below V.heap.size V V') : SA w V' := by
  obtain ⟨h1, h2, h3, h4, h5⟩ := h
  exact ⟨boxat_below h1 hB, boxat_below h2 hB, ob_below h3 hB, ob_below h4 hB, bt h5 hB⟩
theorem sa_alloc {w V : World} (h : SA w V) (o : Obj) : SA w (V.alloc o) := sa_below h (ba (Below.refl _ _) o)
theorem box_alloc {V : World} {B : Nat} {W H : Int} {a : Option Addr} {m c : Nat} (h : BoxAt V B W H a m c) (o : Obj) : BoxAt (V.alloc o) B W H a m c := boxat_below h (ba (Below.refl _ _) o)
theorem ob_alloc {V : World} {b n : Nat} {f : Nat → Bool} (h : OB V b n f) (o : Obj) : OB (V.alloc o) b n f := ob_below h (ba (Below.refl _ _) o)
theorem box_new (V : World) (W H : Int) (a : Option Addr) (m c : Nat) (T : TypeId) : BoxAt (V.alloc (.cells #[.int .i64 W, .int .i64 H, .slice a m c] T)) V.heap.size W H a m c := ⟨by go_cell, by go_cell, by go_cell⟩
theorem da_ob {w : World} {b n : Nat} {f : Nat → Bool} (h : OB w b n f) : DA w (some ⟨b, 0, none⟩) n f := ob_da h
theorem ob_four (w : World) (T : TypeId) : OB (w.alloc (.cells #[.bool false, .bool true, .bool true, .bool false] T)) w.heap.size 4 fd := by
  intro i hi
  have e0 : fd 0 = false := rfl
  have e1 : fd 1 = true := rfl
  have e2 : fd 2 = true := rfl
  have e3 : fd 3 = false := rfl
  have : i = 0 ∨ i = 1 ∨ i = 2 ∨ i = 3 := by omega
  rcases this with rfl | rfl | rfl | rfl <;> exact ⟨by go_cell, by go_cell⟩
theorem ob_six (w : World) (T : TypeId) : OB (w.alloc (.cells #[.bool false, .bool true, .bool true, .bool true, .bool false, .bool true] T)) w.heap.size 6 fa := by
  intro i hi
  have e0 : fa 0 = false := rfl
  have e1 : fa 1 = true := rfl
  have e2 : fa 2 = true := rfl
  have e3 : fa 3 = true := rfl
  have e4 : fa 4 = false := rfl
  have e5 : fa 5 = true := rfl
  have : i = 0 ∨ i = 1 ∨ i = 2 ∨ i = 3 ∨ i = 4 ∨ i = 5 := by omega
  rcases this with rfl | rfl | rfl | rfl | rfl | rfl <;> exact ⟨by go_cell, by go_cell⟩
theorem ob_two (w : World) (T : TypeId) : OB (w.alloc (.cells #[.bool true, .bool true] T)) w.heap.size 2 fb := by
  intro i hi
  have e0 : fb 0 = true := rfl
  have e1 : fb 1 = true := rfl
  have : i = 0 ∨ i = 1 := by omega
  rcases this with rfl | rfl <;> exact ⟨by go_cell, by go_cell⟩
theorem sa_start (w : World) : SA w ((((w.alloc (.cells #[.bool false, .bool true, .bool true, .bool true, .bool false, .bool true] 4)).alloc (.cells #[.int .i64 3, .int .i64 2, .slice (some ⟨w.heap.size, 0, none⟩) 6 6] 28)).alloc (.cells #[.bool true, .bool true] 4)).alloc (.cells #[.int .i64 2, .int .i64 1, .slice (some ⟨w.heap.size + 1 + 1, 0, none⟩) 2 2] 28)) := by
  refine ⟨?_, ?_, ?_, ?_, ?_⟩
  · exact box_alloc (box_alloc (by have := box_new (w.alloc (.cells #[.bool false, .bool true, .bool true, .bool true, .bool false, .bool true] 4)) 3 2 (some ⟨w.heap.size, 0, none⟩) 6 6 28; simpa only [World.size_alloc] using this) _) _
  · have := box_new (((w.alloc (.cells #[.bool false, .bool true, .bool true, .bool true, .bool false, .bool true] 4)).alloc (.cells #[.int .i64 3, .int .i64 2, .slice (some ⟨w.heap.size, 0, none⟩) 6 6] 28)).alloc (.cells #[.bool true, .bool true] 4)) 2 1 (some ⟨w.heap.size + 1 + 1, 0, none⟩) 2 2 28
    simpa only [World.size_alloc] using this
  · exact ob_alloc (ob_alloc (ob_alloc (ob_six w _) _) _) _
  · have := ob_alloc (ob_two ((w.alloc (.cells #[.bool false, .bool true, .bool true, .bool true, .bool false, .bool true] 4)).alloc (.cells #[.int .i64 3, .int .i64 2, .slice (some ⟨w.heap.size, 0, none⟩) 6 6] 28)) 4) (.cells #[.int .i64 2, .int .i64 1, .slice (some ⟨w.heap.size + 1 + 1, 0, none⟩) 2 2] 28)
    simpa only [World.size_alloc] using this
  · exact ba (ba (ba (ba (Below.refl _ _) _) _) _) _
set_option maxRecDepth 100000 in
set_option maxHeartbeats 8000000 in
theorem sanity_any (w : World) :
    Calls Try.prog 8 #[] w fun e w' => e = .returned (.bool true) ∧ Below w.heap.size w w' := by
  obtain ⟨V0, hV0⟩ : ∃ V0, V0 = ((((w.alloc (.cells #[.bool false, .bool true, .bool true, .bool true, .bool false, .bool true] 4)).alloc (.cells #[.int .i64 3, .int .i64 2, .slice (some ⟨w.heap.size, 0, none⟩) 6 6] 28)).alloc (.cells #[.bool true, .bool true] 4)).alloc (.cells #[.int .i64 2, .int .i64 1, .slice (some ⟨w.heap.size + 1 + 1, 0, none⟩) 2 2] 28)) := ⟨_, rfl⟩
  have hS : SA w V0 := by rw [hV0]; exact sa_start w
  obtain ⟨V, hmk, hx1, hBm, hx2⟩ := make_bools V0 3 (by omega)
  replace hS := sa_below hS hBm
  have hmk' : (Instr.makeSlice 26 (.int .i64 3) (.int .i64 3)).run Try.prog V0 = .ok (.slice (some ⟨V0.heap.size, 0, none⟩) 3 3) V := hmk
  rw [hV0] at hmk'
  simp only [World.size_alloc] at hmk'
  clear hx1 hx2 hmk hBm
  clear hV0
  obtain ⟨⟨a0, a1, a2⟩, ⟨b0, b1, b2⟩, oa, ob, hW⟩ := id hS
  go_enter Try.func8, Try.ntmps8
  go_wp2_with fail
  refine (x_check _ _ _ _ _ 5 (by decide) _).mono ?_
  rintro e V1 ⟨rfl, hB⟩
  replace hS := sa_below hS hB
  obtain ⟨⟨a0, a1, a2⟩, ⟨b0, b1, b2⟩, oa, ob, hW⟩ := id hS
  clear hB
  go_wp2_with fail
  refine (x_check _ _ _ _ _ 13 (by decide) _).mono ?_
  rintro e V2 ⟨rfl, hB⟩
  replace hS := sa_below hS hB
  obtain ⟨⟨a0, a1, a2⟩, ⟨b0, b1, b2⟩, oa, ob, hW⟩ := id hS
  clear hB
  go_wp2_with fail
  refine (x_check _ _ _ _ _ 13 (by decide) _).mono ?_
  rintro e V3 ⟨rfl, hB⟩
  replace hS := sa_below hS hB
  obtain ⟨⟨a0, a1, a2⟩, ⟨b0, b1, b2⟩, oa, ob, hW⟩ := id hS
  clear hB
  go_wp2_with fail
  refine (x_check _ _ _ _ _ 0 (by decide) _).mono ?_
  rintro e V4 ⟨rfl, hB⟩
  replace hS := sa_below hS hB
  obtain ⟨⟨a0, a1, a2⟩, ⟨b0, b1, b2⟩, oa, ob, hW⟩ := id hS
  clear hB
  go_wp2_with fail
  refine (x_get _ _ true e_g1 _ _ (da_ob oa)).mono ?_
  rintro e V5 ⟨rfl, hB⟩
  replace hS := sa_below hS hB
  obtain ⟨⟨a0, a1, a2⟩, ⟨b0, b1, b2⟩, oa, ob, hW⟩ := id hS
  clear hB
  go_wp2_with fail
  refine (x_get _ _ false e_g2 _ _ (da_ob oa)).mono ?_
  rintro e V6 ⟨rfl, hB⟩
  replace hS := sa_below hS hB
  obtain ⟨⟨a0, a1, a2⟩, ⟨b0, b1, b2⟩, oa, ob, hW⟩ := id hS
  clear hB
  go_wp2_with fail
  refine (x_get _ _ false e_g3 _ _ (da_ob oa)).mono ?_
  rintro e V7 ⟨rfl, hB⟩
  replace hS := sa_below hS hB
  obtain ⟨⟨a0, a1, a2⟩, ⟨b0, b1, b2⟩, oa, ob, hW⟩ := id hS
  clear hB
  go_wp2_with fail
  refine (x_get _ _ false e_g4 _ _ (da_ob oa)).mono ?_
  rintro e V8 ⟨rfl, hB⟩
  replace hS := sa_below hS hB
  obtain ⟨⟨a0, a1, a2⟩, ⟨b0, b1, b2⟩, oa, ob, hW⟩ := id hS
  clear hB
  go_wp2_with fail
  refine (x_count _ _ (da_ob oa)).mono ?_
  rintro e V9 ⟨rfl, hB⟩
  replace hS := sa_below hS hB
  obtain ⟨⟨a0, a1, a2⟩, ⟨b0, b1, b2⟩, oa, ob, hW⟩ := id hS
  clear hB
  go_wp2_with fail
  refine (x_crop _ _ (da_ob oa)).mono ?_
  rintro e V10 ⟨bc, rfl, oc, ⟨hbc, hbc2⟩, hB⟩
  replace hS := sa_below hS hB
  obtain ⟨⟨a0, a1, a2⟩, ⟨b0, b1, b2⟩, oa, ob, hW⟩ := id hS
  clear hB
  have hBx := ba (Below.refl _ V10) (.cells #[.int .i64 3, .int .i64 2, .slice (some ⟨bc, 0, none⟩) 6 6] 28)
  replace hS := sa_below hS hBx
  replace oc := ob_below oc hBx
  obtain ⟨⟨a0, a1, a2⟩, ⟨b0, b1, b2⟩, oa, ob, hW⟩ := id hS
  have xc : BoxAt (V10.alloc (.cells #[.int .i64 3, .int .i64 2, .slice (some ⟨bc, 0, none⟩) 6 6] 28)) V10.heap.size 3 2 (some ⟨bc, 0, none⟩) 6 6 := box_new V10 3 2 (some ⟨bc, 0, none⟩) 6 6 _
  obtain ⟨xc0, xc1, xc2⟩ := id xc
  clear hBx
  go_wp2_with fail
  refine (x_paste 0 0 ⟨by decide, by decide⟩ ⟨by decide, by decide⟩ _ _ _ (da_ob oa) (da_ob ob)).mono ?_
  rintro e V11 ⟨bp, rfl, op, _, hB⟩
  replace hS := sa_below hS hB
  replace oc := ob_below oc hB
  replace xc := boxat_below xc hB
  obtain ⟨⟨a0, a1, a2⟩, ⟨b0, b1, b2⟩, oa, ob, hW⟩ := id hS
  obtain ⟨xc0, xc1, xc2⟩ := id xc
  clear hB
  go_wp2_with fail
  refine (x_texts _ _ _ e_t1 _ op).mono ?_
  rintro e V12 ⟨rfl, hB⟩
  replace hS := sa_below hS hB
  replace oc := ob_below oc hB
  replace xc := boxat_below xc hB
  obtain ⟨⟨a0, a1, a2⟩, ⟨b0, b1, b2⟩, oa, ob, hW⟩ := id hS
  obtain ⟨xc0, xc1, xc2⟩ := id xc
  clear hB
  go_wp2_with fail
  clear op
  refine (x_paste 2 1 ⟨by decide, by decide⟩ ⟨by decide, by decide⟩ _ _ _ (da_ob oa) (da_ob ob)).mono ?_
  rintro e V13 ⟨bp, rfl, op, _, hB⟩
  replace hS := sa_below hS hB
  replace oc := ob_below oc hB
  replace xc := boxat_below xc hB
  obtain ⟨⟨a0, a1, a2⟩, ⟨b0, b1, b2⟩, oa, ob, hW⟩ := id hS
  obtain ⟨xc0, xc1, xc2⟩ := id xc
  clear hB
  go_wp2_with fail
  refine (x_texts _ _ _ e_t2 _ op).mono ?_
  rintro e V14 ⟨rfl, hB⟩
  replace hS := sa_below hS hB
  replace oc := ob_below oc hB
  replace xc := boxat_below xc hB
  obtain ⟨⟨a0, a1, a2⟩, ⟨b0, b1, b2⟩, oa, ob, hW⟩ := id hS
  obtain ⟨xc0, xc1, xc2⟩ := id xc
  clear hB
  go_wp2_with fail
  clear op
  refine (x_texts _ _ _ e_t3 _ oc).mono ?_
  rintro e V15 ⟨rfl, hB⟩
  replace hS := sa_below hS hB
  replace oc := ob_below oc hB
  replace xc := boxat_below xc hB
  obtain ⟨⟨a0, a1, a2⟩, ⟨b0, b1, b2⟩, oa, ob, hW⟩ := id hS
  obtain ⟨xc0, xc1, xc2⟩ := id xc
  clear hB
  go_wp2_with fail
  refine (x_only 0 0 3 e_o1 _ _ _ (da_ob oa) (da_ob ob)).mono ?_
  rintro e V16 ⟨rfl, hB⟩
  replace hS := sa_below hS hB
  replace oc := ob_below oc hB
  replace xc := boxat_below xc hB
  obtain ⟨⟨a0, a1, a2⟩, ⟨b0, b1, b2⟩, oa, ob, hW⟩ := id hS
  obtain ⟨xc0, xc1, xc2⟩ := id xc
  clear hB
  go_wp2_with fail
  refine (x_only 1 0 2 e_o2 _ _ _ (da_ob oa) (da_ob ob)).mono ?_
  rintro e V17 ⟨rfl, hB⟩
  replace hS := sa_below hS hB
  replace oc := ob_below oc hB
  replace xc := boxat_below xc hB
  obtain ⟨⟨a0, a1, a2⟩, ⟨b0, b1, b2⟩, oa, ob, hW⟩ := id hS
  obtain ⟨xc0, xc1, xc2⟩ := id xc
  clear hB
  go_wp2_with fail
  refine (x_only 1 1 1 e_o3 _ _ _ (da_ob oa) (da_ob ob)).mono ?_
  rintro e V18 ⟨rfl, hB⟩
  replace hS := sa_below hS hB
  replace oc := ob_below oc hB
  replace xc := boxat_below xc hB
  obtain ⟨⟨a0, a1, a2⟩, ⟨b0, b1, b2⟩, oa, ob, hW⟩ := id hS
  obtain ⟨xc0, xc1, xc2⟩ := id xc
  clear hB
  go_wp2_with fail
  refine (x_only2 _ _ _ (da_ob oa) (da_ob ob)).mono ?_
  rintro e V19 ⟨rfl, hB⟩
  replace hS := sa_below hS hB
  replace oc := ob_below oc hB
  replace xc := boxat_below xc hB
  obtain ⟨⟨a0, a1, a2⟩, ⟨b0, b1, b2⟩, oa, ob, hW⟩ := id hS
  obtain ⟨xc0, xc1, xc2⟩ := id xc
  clear hB
  go_wp2_with fail
  refine (x_parse _).mono ?_
  rintro e V20 ⟨bd', rfl, od, _, hB⟩
  replace hS := sa_below hS hB
  replace oc := ob_below oc hB
  replace xc := boxat_below xc hB
  obtain ⟨⟨a0, a1, a2⟩, ⟨b0, b1, b2⟩, oa, ob, hW⟩ := id hS
  obtain ⟨xc0, xc1, xc2⟩ := id xc
  clear hB
  have hBx := ba (Below.refl _ V20) (.cells #[.int .i64 2, .int .i64 2, .slice (some ⟨bd', 0, none⟩) 4 4] 28)
  replace hS := sa_below hS hBx
  replace oc := ob_below oc hBx
  replace xc := boxat_below xc hBx
  replace od := ob_below od hBx
  obtain ⟨⟨a0, a1, a2⟩, ⟨b0, b1, b2⟩, oa, ob, hW⟩ := id hS
  obtain ⟨xc0, xc1, xc2⟩ := id xc
  have xd : BoxAt (V20.alloc (.cells #[.int .i64 2, .int .i64 2, .slice (some ⟨bd', 0, none⟩) 4 4] 28)) V20.heap.size 2 2 (some ⟨bd', 0, none⟩) 4 4 := box_new V20 2 2 (some ⟨bd', 0, none⟩) 4 4 _
  obtain ⟨xd0, xd1, xd2⟩ := id xd
  clear hBx
  go_wp2_with fail
  refine (x_parse_no ⟨#[35, 46, 10, 35, 10]⟩ 2 (by kernel_rfl) e_p1 (by decide) _).mono ?_
  rintro e V21 ⟨rfl, hB⟩
  replace hS := sa_below hS hB
  replace oc := ob_below oc hB
  replace xc := boxat_below xc hB
  replace od := ob_below od hB
  replace xd := boxat_below xd hB
  obtain ⟨⟨a0, a1, a2⟩, ⟨b0, b1, b2⟩, oa, ob, hW⟩ := id hS
  obtain ⟨xc0, xc1, xc2⟩ := id xc
  obtain ⟨xd0, xd1, xd2⟩ := id xd
  clear hB
  have hBx := ba (Below.refl _ V21) (.cells #[.int .i64 0, .int .i64 0, .slice none 0 0] 28)
  replace hS := sa_below hS hBx
  replace oc := ob_below oc hBx
  replace xc := boxat_below xc hBx
  replace od := ob_below od hBx
  replace xd := boxat_below xd hBx
  obtain ⟨⟨a0, a1, a2⟩, ⟨b0, b1, b2⟩, oa, ob, hW⟩ := id hS
  obtain ⟨xc0, xc1, xc2⟩ := id xc
  obtain ⟨xd0, xd1, xd2⟩ := id xd
  clear hBx
  go_wp2_with fail
  refine (x_parse_no ⟨#[35]⟩ (-1) (by kernel_rfl) e_p2 (by decide) _).mono ?_
  rintro e V22 ⟨rfl, hB⟩
  replace hS := sa_below hS hB
  replace oc := ob_below oc hB
  replace xc := boxat_below xc hB
  replace od := ob_below od hB
  replace xd := boxat_below xd hB
  obtain ⟨⟨a0, a1, a2⟩, ⟨b0, b1, b2⟩, oa, ob, hW⟩ := id hS
  obtain ⟨xc0, xc1, xc2⟩ := id xc
  obtain ⟨xd0, xd1, xd2⟩ := id xd
  clear hB
  have hBx := ba (Below.refl _ V22) (.cells #[.int .i64 0, .int .i64 0, .slice none 0 0] 28)
  replace hS := sa_below hS hBx
  replace oc := ob_below oc hBx
  replace xc := boxat_below xc hBx
  replace od := ob_below od hBx
  replace xd := boxat_below xd hBx
  obtain ⟨⟨a0, a1, a2⟩, ⟨b0, b1, b2⟩, oa, ob, hW⟩ := id hS
  obtain ⟨xc0, xc1, xc2⟩ := id xc
  obtain ⟨xd0, xd1, xd2⟩ := id xd
  clear hBx
  go_wp2_with fail
  refine (x_parse_no ⟨#[10]⟩ 0 (by kernel_rfl) e_p3 (by decide) _).mono ?_
  rintro e V23 ⟨rfl, hB⟩
  replace hS := sa_below hS hB
  replace oc := ob_below oc hB
  replace xc := boxat_below xc hB
  replace od := ob_below od hB
  replace xd := boxat_below xd hB
  obtain ⟨⟨a0, a1, a2⟩, ⟨b0, b1, b2⟩, oa, ob, hW⟩ := id hS
  obtain ⟨xc0, xc1, xc2⟩ := id xc
  obtain ⟨xd0, xd1, xd2⟩ := id xd
  clear hB
  have hBx := ba (Below.refl _ V23) (.cells #[.int .i64 0, .int .i64 0, .slice none 0 0] 28)
  replace hS := sa_below hS hBx
  replace oc := ob_below oc hBx
  replace xc := boxat_below xc hBx
  replace od := ob_below od hBx
  replace xd := boxat_below xd hBx
  obtain ⟨⟨a0, a1, a2⟩, ⟨b0, b1, b2⟩, oa, ob, hW⟩ := id hS
  obtain ⟨xc0, xc1, xc2⟩ := id xc
  obtain ⟨xd0, xd1, xd2⟩ := id xd
  clear hBx
  go_wp2_with fail
  have h4 := ob_four (V23.alloc (.cells #[.int .i64 0, .int .i64 0, .slice none 0 0] 28)) 4
  have od2 := ob_alloc od (.cells #[.bool false, .bool true, .bool true, .bool false] 4)
  have hW2 := ba hW (.cells #[.bool false, .bool true, .bool true, .bool false] 4)
  simp only [World.size_alloc] at h4
  refine (x_same _ _ _ od2 h4).mono ?_
  rintro e V99 ⟨rfl, hB⟩
  have hW9 := bt hW2 hB
  clear hB hW hS xc oc xd od od2 h4 oa ob xc0 xc1 xc2 xd0 xd1 xd2 a0 a1 a2 b0 b1 b2 hmk'
  go_wp2_with fail
  go_ret
  exact ⟨rfl, hW9⟩
end Go.Proofs.Ytfkpodhkbcocmaa.Bm
