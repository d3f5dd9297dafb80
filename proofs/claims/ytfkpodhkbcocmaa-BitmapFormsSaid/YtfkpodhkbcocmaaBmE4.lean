/-
  Layer 4 (bitmap): Paste of the document's own. NOT WHOLE: the branch va = true (see NOTES).
-/
import Derived.Test.YtfkpodhkbcocmaaBmE3
import Derived.Deep.RegionHeldLaw
namespace Go.Proofs.Ytfkpodhkbcocmaa.Bm
open Go.RowKit
def RpPost (w : World) (W H m : Nat) (P : Nat → Bool) (e : Ending) (w' : World) : Prop := ∃ b, e = .returned (.agg #[.int .i64 W, .int .i64 H, .slice (some ⟨b, 0, none⟩) m m]) ∧ OB w' b m P ∧ Below w.heap.size w w'
set_option maxRecDepth 100000 in
set_option maxHeartbeats 8000000 in
theorem rPaste_yes (W H : Nat) (a : Option Addr) (n c : Nat) (f : Nat → Bool) (W2 H2 : Int) (a2 : Option Addr) (n2 c2 : Nat) (f2 : Nat → Bool) (x y : Int) (hW : W ≤ 96) (hH : H ≤ 96) (hm : n = W * H) (w : World) (hD : DA w a n f) (hD2 : DA w a2 n2 f2) :
    Calls Try.prog 27 #[bv W H a n c, bv W2 H2 a2 n2 c2, .int .i64 x, .int .i64 y] w (RpPost w W H n (pst W W2 H2 n2 f2 f x y)) := by
  have hg : gd W H n = true := (gd_iff _ _ _).2 ⟨by omega, by omega, by rw [hm]; simp⟩
  have CK := Lib.hid (rCheck_any W H a n c)
  have hz3 : ck W H n = 0 := by have hz := ck_zero W H n; rw [hg] at hz; exact eq_of_beq hz
  rw [hz3] at CK
  have NW := Lib.hid (rNew_yes W H n (by rw [Bool.and_eq_true, sd_iff, sd_iff]; omega) (by rw [hm]; simp))
  have GA := Lib.hid (fun x y w h => rGet_any W H a n c f x y w h)
  have GB := Lib.hid (fun x y w h => rGet_any W2 H2 a2 n2 c2 f2 x y w h)
  have HD := Lib.hid hD
  have HD2 := Lib.hid hD2
  have HM := Lib.hid hm
  have HP := Lib.hid (fun (i j : Nat) hi hj => pst_at (f := f) (W2 := W2) (H2 := H2) (n2 := n2) (f2 := f2) (x := x) (y := y) (i := i) (j := j) hW hH hi hj)
  have PO : Hid (∀ b V, OB V b n (mixd (pst W W2 H2 n2 f2 f x y) (H * W)) → OB V b n (pst W W2 H2 n2 f2 f x y)) := Lib.hid (fun b V h => ob_congr h (fun i hi => by unfold mixd; rw [if_pos (by rw [Nat.mul_comm, ← hm]; exact hi)]))
  generalize pst W W2 H2 n2 f2 f x y = P at *
  clear hz3 hg hD hD2 hm
  unfold bv at *
  go_enter Try.func27, Try.ntmps27
  go_wp2_with fail
  refine (NW.out _).mono ?_
  rintro e V2 ⟨b, rfl, ho, ⟨hb0, hb1⟩, hB2⟩
  have hBa : Below w.heap.size w (((w.alloc (.cells #[.int .i64 W, .int .i64 H, .slice a n c] 28)).alloc (.cells #[.int .i64 W2, .int .i64 H2, .slice a2 n2 c2] 28)).alloc (.cells #[.int .i64 0, .int .i64 0, .slice none 0 0] 28)) := ba (ba (ba (Below.refl _ w) _) _) _
  have rz : RZ V2 (w.heap.size + 1 + 1) := rz_below (⟨⟨by go_cell, by go_cell, by go_cell⟩, by go_cell, by go_cell, by go_cell⟩ : RZ (((w.alloc (.cells #[.int .i64 W, .int .i64 H, .slice a n c] 28)).alloc (.cells #[.int .i64 W2, .int .i64 H2, .slice a2 n2 c2] 28)).alloc (.cells #[.int .i64 0, .int .i64 0, .slice none 0 0] 28)) (w.heap.size + 1 + 1)) hB2
  have bx : BoxAt V2 w.heap.size W H a n c := boxat_below (⟨by go_cell, by go_cell, by go_cell⟩ : BoxAt (((w.alloc (.cells #[.int .i64 W, .int .i64 H, .slice a n c] 28)).alloc (.cells #[.int .i64 W2, .int .i64 H2, .slice a2 n2 c2] 28)).alloc (.cells #[.int .i64 0, .int .i64 0, .slice none 0 0] 28)) w.heap.size W H a n c) hB2
  have by2 : BoxAt V2 (w.heap.size + 1) W2 H2 a2 n2 c2 := boxat_below (⟨by go_cell, by go_cell, by go_cell⟩ : BoxAt (((w.alloc (.cells #[.int .i64 W, .int .i64 H, .slice a n c] 28)).alloc (.cells #[.int .i64 W2, .int .i64 H2, .slice a2 n2 c2] 28)).alloc (.cells #[.int .i64 0, .int .i64 0, .slice none 0 0] 28)) (w.heap.size + 1) W2 H2 a2 n2 c2) hB2
  have hB := bt hBa hB2
  simp only [World.size_alloc] at hb0
  clear hB2 hBa
  have hBo := ba (Below.refl _ V2) (.cells #[.int .i64 W, .int .i64 H, .slice (some ⟨b, 0, none⟩) n n] 28)
  have F0 : FP w (V2.alloc (.cells #[.int .i64 W, .int .i64 H, .slice (some ⟨b, 0, none⟩) n n] 28)) V2.heap.size b W H n (mixd P 0) w.heap.size W H a n c (w.heap.size + 1 + 1) (w.heap.size + 1) W2 H2 a2 n2 c2 :=
    ⟨⟨ob_congr (ob_below ho hBo) (fun i hi => by unfold mixd; rw [if_neg (by omega)]), ⟨by go_cell, by go_cell, by go_cell⟩, boxat_below bx hBo, rz_below rz hBo, ba hB _, by omega, by omega, by omega, by omega⟩, boxat_below by2 hBo, by omega⟩
  clear hBo ho rz bx hB by2
  go_upto_region 2 with (fail)
  generalize (V2.alloc (.cells #[.int .i64 W, .int .i64 H, .slice (some ⟨b, 0, none⟩) n n] 28)) = V3 at *
  generalize V2.heap.size = Bo at *
  obtain ⟨y0, y1, y2⟩ := F0.fw.b1
  go_wp2_with fail
  refine (CK.out _).mono ?_
  rintro e V4 ⟨rfl, hB4⟩
  replace F0 := fp_below F0 hB4
  clear hB4 y0 y1 y2
  go_wp2_with fail
  go_loopw [11] (fun s11 V => PJ w Bo b W H n P w.heap.size W H a n c (w.heap.size + 1 + 1) (w.heap.size + 1) W2 H2 a2 n2 c2 s11 V) (fun s11 _ => H - (intOf s11).toNat)
  case atStart => exact ⟨0, by omega, rfl, by rw [Nat.zero_mul]; exact F0⟩
  case round =>
    clear F0
    obtain ⟨j, hj, rfl, F⟩ := hrel
    rename World => Vj
    obtain ⟨y0, y1, y2⟩ := F.fw.b1
    rcases Nat.lt_or_ge j H with hjH | hjH
    · go_wp2_with fail
      clear y0 y1 y2
      go_loopw [12] (fun s12 V => PI w Bo b W H n P w.heap.size W H a n c (w.heap.size + 1 + 1) (w.heap.size + 1) W2 H2 a2 n2 c2 j s12 V) (fun s12 _ => W - (intOf s12).toNat)
      case atStart => exact ⟨0, by omega, rfl, by rw [Nat.add_zero]; exact F⟩
      case round =>
        clear F
        obtain ⟨i, hi, rfl, F⟩ := hrel
        rename World => Vi
        obtain ⟨y0, y1, y2⟩ := F.fw.b1
        rcases Nat.lt_or_ge i W with hiW | hiW
        · obtain ⟨e1, e2, hp, hn9⟩ := mul_in HM.out hW hH hiW hjH
          obtain ⟨p, hpp⟩ : ∃ p, j * W + i = p := ⟨_, rfl⟩
          obtain ⟨p0, hp0⟩ : ∃ p0, j * W = p0 := ⟨_, rfl⟩
          have hv := HP.out i j hiW hjH
          rw [hpp] at hv hp e2
          rw [hp0] at e1 e2
          have gA := GA.out i j
          have gB := GB.out (RowKit.wrap64 ((i : Int) - x)) (RowKit.wrap64 ((j : Int) - y))
          rw [← HM.out] at hv
          generalize has W H n f i j = va at *
          generalize has W2 H2 n2 f2 (RowKit.wrap64 ((i : Int) - x)) (RowKit.wrap64 ((j : Int) - y)) = vb at *
          have g1 := Lib.hid gA
          have g2 := Lib.hid gB
          have HDa := Lib.hid (da_below HD.out F.fw.be)
          have HDb := Lib.hid (da_below HD2.out F.fw.be)
          have NX : Hid (∀ v V', P p = v → FP w V' Bo b W H n (mixd P (j * W + i)) w.heap.size W H a n c (w.heap.size + 1 + 1) (w.heap.size + 1) W2 H2 a2 n2 c2 → PI w Bo b W H n P w.heap.size W H a n c (w.heap.size + 1 + 1) (w.heap.size + 1) W2 H2 a2 n2 c2 j (.int .i64 ((i : Int) + 1)) (V'.setCell ⟨b, p, none⟩ (.bool v))) := Lib.hid (fun v V' hv h => pi_next h hiW hpp hp hv)
          obtain ⟨x0, x1, x2⟩ := F.fw.bx
          obtain ⟨s0, s1, s2⟩ := F.b2
          have n1 := F.fw.l1
          have n2' := F.fw.l2
          have n3 := F.l4
          have hFF := Lib.hid F
          have HV := Lib.hid hv
          have u1 := Lib.hid ((IntWalk.i64_left _).trans e1)
          have u2 := Lib.hid ((IntWalk.i64_left _).trans e2)
          clear gA gB hv hpp hp0 F e1 e2
          go_wp2_with fail
          have x2' : ∀ w', FR Vi w' (some ⟨b, 0, none⟩) → w'.cell? ⟨Bo, 2, none⟩ = some (.slice (some ⟨b, 0, none⟩) n n) := fun _ h => (h.cell x2 (fun q e => by cases e; exact fun e => n1 e.symm)).1
          have y0' : ∀ w', FR Vi w' (some ⟨b, 0, none⟩) → w'.cell? ⟨w.heap.size, 0, none⟩ = some (.int .i64 W) := fun _ h => (h.cell y0 (fun q e => by cases e; exact fun e => n2' e.symm)).1
          have y1' : ∀ w', FR Vi w' (some ⟨b, 0, none⟩) → w'.cell? ⟨w.heap.size, 1, none⟩ = some (.int .i64 H) := fun _ h => (h.cell y1 (fun q e => by cases e; exact fun e => n2' e.symm)).1
          have y2' : ∀ w', FR Vi w' (some ⟨b, 0, none⟩) → w'.cell? ⟨w.heap.size, 2, none⟩ = some (.slice a n c) := fun _ h => (h.cell y2 (fun q e => by cases e; exact fun e => n2' e.symm)).1
          have s0' : ∀ w', FR Vi w' (some ⟨b, 0, none⟩) → w'.cell? ⟨w.heap.size + 1, 0, none⟩ = some (.int .i64 W2) := fun _ h => (h.cell s0 (fun q e => by cases e; exact fun e => n3 e.symm)).1
          have s1' : ∀ w', FR Vi w' (some ⟨b, 0, none⟩) → w'.cell? ⟨w.heap.size + 1, 1, none⟩ = some (.int .i64 H2) := fun _ h => (h.cell s1 (fun q e => by cases e; exact fun e => n3 e.symm)).1
          have s2' : ∀ w', FR Vi w' (some ⟨b, 0, none⟩) → w'.cell? ⟨w.heap.size + 1, 2, none⟩ = some (.slice a2 n2 c2) := fun _ h => (h.cell s2 (fun q e => by cases e; exact fun e => n3 e.symm)).1
          have v1 : IntKind.i64.wrap ((j : Int) * W) = p0 := u1.out
          have v2 : IntKind.i64.wrap ((p0 : Int) + i) = p := u2.out
          have v3 : (0 : Int) ≤ p := Int.natCast_nonneg p
          have v4 : (p : Int) < n := Int.ofNat_lt.2 hp
          have v5 : IntKind.i64.wrap ((i : Int) - x) = RowKit.wrap64 ((i : Int) - x) := IntWalk.i64_left _
          have v6 : IntKind.i64.wrap ((j : Int) - y) = RowKit.wrap64 ((j : Int) - y) := IntWalk.i64_left _
          cases va
          · clear x0 x1 x2 y0 y1 y2 s0 s1 s2
            go_region_held3 (fun w' => FR Vi w' (some ⟨b, 0, none⟩)) (first
              | (with_reducible exact FR.drew _ _)
              | (with_reducible exact FR.set (by assumption) _)
              | (with_reducible exact FR.below (by assumption) hba)
              | (with_reducible assumption))
              (first
              | ((with_reducible refine (g1.out _ (da_below HDa.out (bd1 (Below.refl _ _)))).mono ?_); rintro en wa ⟨rfl, hba⟩; have hF1 := fp_below (fp_below hFF.out (bd1 (Below.refl _ _))) hba; have hbw : Below Vi.heap.size Vi wa := bt (bd1 (Below.refl _ _)) hba; obtain ⟨o1, o2⟩ := hF1.fw.ob p hp)
              | ((with_reducible refine (g2.out _ (da_below HDb.out hbw)).mono ?_); rintro en wa ⟨rfl, hba⟩; have hF1 := fp_below hF1 hba; obtain ⟨o1, o2⟩ := hF1.fw.ob p hp))
            have R := Lib.hid (NX.out _ _ (HV.out.trans rfl) hF1)
            clear v1 v2 v3 v4 v5 v6 x2' y0' y1' y2' s0' s1' s2' o1 o2
            go_wp2_with fail
            exact ⟨R.out, by simp [intOf]; omega⟩
          · clear x0 x1 x2 y0 y1 y2 s0 s1 s2
            refine wp_region_held_drew (S := fun w' => FR Vi w' (some ⟨b, 0, none⟩)) (by kernel_rfl) (FR.drew _ _) (fun hHeld => ?_)
            refine wpAnyH_take (i := 0) (v := ?_) rfl (by kernel_rfl) (by kernel_rfl) (by kernel_rfl) (fun _ _ _ h => h) (Or.inl ⟨by rfl, ?_⟩) (by assumption) ?_
            rotate_left
            · intro w hSw; (try dsimp only at hSw); go_simp; try with_reducible rfl
            try simp only [Act.put, List.setIfInBounds_toArray, List.set_cons_zero, List.set_cons_succ]
            refine wpAnyH_take (i := 1) (v := ?_) rfl (by kernel_rfl) (by kernel_rfl) (by kernel_rfl) (fun _ _ _ h => h) (Or.inl ⟨by rfl, ?_⟩) (by assumption) ?_
            rotate_left
            · intro w hSw; (try dsimp only at hSw); go_simp; try with_reducible rfl
            try simp only [Act.put, List.setIfInBounds_toArray, List.set_cons_zero, List.set_cons_succ]
            refine wpAnyH_take (i := 2) (v := ?_) rfl (by kernel_rfl) (by kernel_rfl) (by kernel_rfl) (fun _ _ _ h => h) (Or.inl ⟨by rfl, ?_⟩) (by assumption) ?_
            rotate_left
            · intro w hSw; (try dsimp only at hSw); go_simp; try with_reducible rfl
            try simp only [Act.put, List.setIfInBounds_toArray, List.set_cons_zero, List.set_cons_succ]
            refine wpAnyH_take (i := 3) (v := ?_) rfl (by kernel_rfl) (by kernel_rfl) (by kernel_rfl) (fun _ _ _ h => h) (Or.inl ⟨by rfl, ?_⟩) (by assumption) ?_
            rotate_left
            · intro w hSw; (try dsimp only at hSw); go_simp; try with_reducible rfl
            try simp only [Act.put, List.setIfInBounds_toArray, List.set_cons_zero, List.set_cons_succ]
            refine wpAnyH_take (i := 4) (v := ?_) rfl (by kernel_rfl) (by kernel_rfl) (by kernel_rfl) (fun _ _ _ h => h) (Or.inl ⟨by rfl, ?_⟩) (by assumption) ?_
            rotate_left
            · intro w hSw; (try dsimp only at hSw); go_simp; try with_reducible rfl
            try simp only [Act.put, List.setIfInBounds_toArray, List.set_cons_zero, List.set_cons_succ]
            refine wpAnyH_take (i := 5) (v := ?_) rfl (by kernel_rfl) (by kernel_rfl) (by kernel_rfl) (fun _ _ _ h => h) (Or.inl ⟨by rfl, ?_⟩) (by assumption) ?_
            rotate_left
            · intro w hSw; (try dsimp only at hSw); go_simp; try with_reducible rfl
            try simp only [Act.put, List.setIfInBounds_toArray, List.set_cons_zero, List.set_cons_succ]
            refine wpAnyH_take (i := 6) (v := ?_) rfl (by kernel_rfl) (by kernel_rfl) (by kernel_rfl) (fun _ _ _ h => h) (Or.inl ⟨by rfl, ?_⟩) (by assumption) ?_
            rotate_left
            · intro w hSw; (try dsimp only at hSw); go_simp; try with_reducible rfl
            try simp only [Act.put, List.setIfInBounds_toArray, List.set_cons_zero, List.set_cons_succ]
            refine wpAnyH_take (i := 7) (v := ?_) rfl (by kernel_rfl) (by kernel_rfl) (by kernel_rfl) (fun _ _ _ h => h) (Or.inl ⟨by rfl, ?_⟩) (by assumption) ?_
            rotate_left
            · intro w hSw; (try dsimp only at hSw); go_simp; try with_reducible rfl
            try simp only [Act.put, List.setIfInBounds_toArray, List.set_cons_zero, List.set_cons_succ]
            refine wpAnyH_take (i := 8) (v := ?_) rfl (by kernel_rfl) (by kernel_rfl) (by kernel_rfl) (fun _ _ _ h => h) (Or.inl ⟨by rfl, ?_⟩) (by assumption) ?_
            rotate_left
            · intro w hSw; (try dsimp only at hSw); go_simp; try with_reducible rfl
            try simp only [Act.put, List.setIfInBounds_toArray, List.set_cons_zero, List.set_cons_succ]
            refine wpAnyH_take (i := 9) (v := ?_) rfl (by kernel_rfl) (by kernel_rfl) (by kernel_rfl) (fun _ _ _ h => h) (Or.inl ⟨by rfl, ?_⟩) (by assumption) ?_
            rotate_left
            · intro w hSw; (try dsimp only at hSw); go_simp; try with_reducible rfl
            try simp only [Act.put, List.setIfInBounds_toArray, List.set_cons_zero, List.set_cons_succ]
            refine wpAnyH_take (i := 10) (v := ?_) rfl (by kernel_rfl) (by kernel_rfl) (by kernel_rfl) (fun _ _ _ h => h) (Or.inl ⟨by rfl, ?_⟩) (by assumption) ?_
            rotate_left
            · intro w hSw; (try dsimp only at hSw); go_simp; try with_reducible rfl
            try simp only [Act.put, List.setIfInBounds_toArray, List.set_cons_zero, List.set_cons_succ]
            refine wpAnyH_ready (rs := [11]) (by kernel_rfl) (by simp) ?_
            refine AllReadyH.cons rfl (fun K hK => ?_) AllReadyH.nil
            go_simp
            with_reducible refine (g1.out _ (da_below HDa.out (bd1 (Below.refl _ _)))).mono ?_
            rintro en wa ⟨rfl, hba⟩
            have hF1 := fp_below (fp_below hFF.out (bd1 (Below.refl _ _))) hba
            obtain ⟨o1, o2⟩ := hF1.fw.ob p hp
            try dsimp only
            refine hK.out _ _ (FR.below hHeld hba) (fun hHeld => ?_)
            clear hK K
            try simp only [Act.put, List.setIfInBounds_toArray, List.set_cons_zero, List.set_cons_succ]
            refine wpAnyH_take (i := 12) (v := ?_) rfl (by kernel_rfl) (by kernel_rfl) (by kernel_rfl) (fun _ _ _ h => h) (Or.inl ⟨by rfl, ?_⟩) (by assumption) ?_
            rotate_left
            · intro w hSw; (try dsimp only at hSw); go_simp; try with_reducible rfl
            try simp only [Act.put, List.setIfInBounds_toArray, List.set_cons_zero, List.set_cons_succ]
            refine wpAnyH_take (i := 13) (v := undef) rfl (by kernel_rfl) (by kernel_rfl) (by kernel_rfl) (fun _ _ _ h => h) (Or.inr ⟨by simp [Region.wanted, yielded], rfl⟩) (by assumption) ?_
            try simp only [Act.put, List.setIfInBounds_toArray, List.set_cons_zero, List.set_cons_succ]
            refine wpAnyH_take (i := 14) (v := undef) rfl (by kernel_rfl) (by kernel_rfl) (by kernel_rfl) (fun _ _ _ h => h) (Or.inr ⟨by simp [Region.wanted, yielded], rfl⟩) (by assumption) ?_
            try simp only [Act.put, List.setIfInBounds_toArray, List.set_cons_zero, List.set_cons_succ]
            refine wpAnyH_take (i := 15) (v := undef) rfl (by kernel_rfl) (by kernel_rfl) (by kernel_rfl) (fun _ _ _ h => h) (Or.inr ⟨by simp [Region.wanted, yielded], rfl⟩) (by assumption) ?_
            try simp only [Act.put, List.setIfInBounds_toArray, List.set_cons_zero, List.set_cons_succ]
            refine wpAnyH_take (i := 16) (v := undef) rfl (by kernel_rfl) (by kernel_rfl) (by kernel_rfl) (fun _ _ _ h => h) (Or.inr ⟨by simp [Region.wanted, yielded], rfl⟩) (by assumption) ?_
            try simp only [Act.put, List.setIfInBounds_toArray, List.set_cons_zero, List.set_cons_succ]
            refine wpAnyH_take (i := 17) (v := undef) rfl (by kernel_rfl) (by kernel_rfl) (by kernel_rfl) (fun _ _ _ h => h) (Or.inr ⟨by simp [Region.wanted, yielded], rfl⟩) (by assumption) ?_
            try simp only [Act.put, List.setIfInBounds_toArray, List.set_cons_zero, List.set_cons_succ]
            refine wpAnyH_take (i := 18) (v := undef) rfl (by kernel_rfl) (by kernel_rfl) (by kernel_rfl) (fun _ _ _ h => h) (Or.inr ⟨by simp [Region.wanted, yielded], rfl⟩) (by assumption) ?_
            try simp only [Act.put, List.setIfInBounds_toArray, List.set_cons_zero, List.set_cons_succ]
            refine wpAnyH_take (i := 19) (v := undef) rfl (by kernel_rfl) (by kernel_rfl) (by kernel_rfl) (fun _ _ _ h => h) (Or.inr ⟨by simp [Region.wanted, yielded], rfl⟩) (by assumption) ?_
            try simp only [Act.put, List.setIfInBounds_toArray, List.set_cons_zero, List.set_cons_succ]
            refine wpAnyH_take (i := 20) (v := undef) rfl (by kernel_rfl) (by kernel_rfl) (by kernel_rfl) (fun _ _ _ h => h) (Or.inr ⟨by simp [Region.wanted, yielded], rfl⟩) (by assumption) ?_
            try simp only [Act.put, List.setIfInBounds_toArray, List.set_cons_zero, List.set_cons_succ]
            refine wpAnyH_take (i := 21) (v := ?_) rfl (by kernel_rfl) (by kernel_rfl) (by kernel_rfl) (fun _ _ _ h => h) (Or.inl ⟨by rfl, ?_⟩) (by assumption) ?_
            rotate_left
            · intro w hSw; (try dsimp only at hSw); go_simp; try with_reducible rfl
            try simp only [Act.put, List.setIfInBounds_toArray, List.set_cons_zero, List.set_cons_succ]
            refine wpAnyH_take (i := 22) (v := ?_) rfl (by kernel_rfl) (by kernel_rfl) (by kernel_rfl) (fun _ _ _ h => h) (Or.inl ⟨by rfl, ?_⟩) (by assumption) ?_
            rotate_left
            · intro w hSw; (try dsimp only at hSw); go_simp; try with_reducible rfl
            try simp only [Act.put, List.setIfInBounds_toArray, List.set_cons_zero, List.set_cons_succ]
            refine wpAnyH_ready (rs := [23]) (by kernel_rfl) (by simp) ?_
            refine AllReadyH.cons rfl (fun K hK => ?_) AllReadyH.nil
            go_simp
            try dsimp only
            refine hK.out _ _ (FR.set hHeld _) (fun hHeld => ?_)
            clear hK K
            try simp only [Act.put, List.setIfInBounds_toArray, List.set_cons_zero, List.set_cons_succ]
            refine wpAnyH_done (by kernel_rfl) ?_ _
            have R := Lib.hid (NX.out _ _ (HV.out.trans rfl) hF1)
            clear v1 v2 v3 v4 v5 v6 x2' y0' y1' y2' s0' s1' s2' o1 o2
            go_wp2_with fail
            exact ⟨R.out, by simp [intOf]; omega⟩
        · obtain rfl : i = W := by omega
          have R := Lib.hid (pj_next F rfl hjH)
          go_wp2_with fail
          exact ⟨R.out, by simp [intOf]; omega⟩
    · obtain rfl : j = H := by omega
      have ho := PO.out _ _ F.fw.ob
      obtain ⟨⟨_, ⟨x0, x1, x2⟩, _, ⟨⟨r0, r1, r2⟩, r3, r4, r5⟩, hB, h6, h7, h8, h9⟩, _, _⟩ := F
      go_wp2
      refine bodyPost_ret (v := .agg #[.int .i64 W, .int .i64 j, .slice (some ⟨b, 0, none⟩) n n]) (by simp [results, Try.results27, go_sem, r0, r1, r2]) rfl ⟨b, rfl, ?_, ?_⟩
      · exact ob_other (ob_other (ob_other ho h9) h9) h9
      · exact bs (bs (bs hB (by simp; omega) _) (by simp; omega) _) (by simp; omega) _
end Go.Proofs.Ytfkpodhkbcocmaa.Bm
