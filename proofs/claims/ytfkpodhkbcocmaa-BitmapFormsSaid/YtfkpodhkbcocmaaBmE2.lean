/-
  Layer 4 (bitmap): Crop of the document's own.
-/
import Derived.Test.YtfkpodhkbcocmaaBmE1
import Derived.Deep.RegionHeld3
namespace Go.Proofs.Ytfkpodhkbcocmaa.Bm
open Go.RowKit
theorem FR.drew (w : World) (ta : Option Addr) : FR w w.drew ta := ⟨rfl, rfl, rfl, Nat.le_refl _, fun _ _ _ => rfl⟩
/-- The first dots of a bitmap. -/
def mixd (P : Nat → Bool) (k t : Nat) : Bool := if t < k then P t else false
theorem mixd_next {P : Nat → Bool} {k : Nat} (t : Nat) : mixd P (k + 1) t = if t = k then P k else mixd P k t := by
  unfold mixd
  by_cases h : t = k
  · subst h
    rw [if_pos (by omega), if_pos rfl]
  · rw [if_neg h]
    by_cases h2 : t < k
    · rw [if_pos (by omega), if_pos h2]
    · rw [if_neg (by omega), if_neg h2]
/-- What a loop that fills a bitmap keeps. -/
structure FW (w V : World) (Bo b W H m : Nat) (g : Nat → Bool) (B1 : Nat) (W1 H1 : Int) (a1 : Option Addr) (n1 c1 : Nat) (R : Nat) : Prop where
  ob : OB V b m g
  bx : BoxAt V Bo W H (some ⟨b, 0, none⟩) m m
  b1 : BoxAt V B1 W1 H1 a1 n1 c1
  rz : RZ V R
  be : Below w.heap.size w V
  lb : w.heap.size ≤ b
  l1 : ¬ b = Bo
  l2 : ¬ b = B1
  l3 : ¬ b = R
theorem fw_set {w V : World} {Bo b W H m : Nat} {g g' : Nat → Bool} {B1 : Nat} {W1 H1 : Int} {a1 : Option Addr} {n1 c1 R : Nat} {p : Nat} {v : Bool} (h : FW w V Bo b W H m g B1 W1 H1 a1 n1 c1 R) (hp : p < m) (e : ∀ t, g' t = if t = p then v else g t) : FW w (V.setCell ⟨b, p, none⟩ (.bool v)) Bo b W H m g' B1 W1 H1 a1 n1 c1 R := by
  obtain ⟨h1, ⟨x0, x1, x2⟩, ⟨y0, y1, y2⟩, ⟨⟨r0, r1, r2⟩, r3, r4, r5⟩, h5, h6, h7, h8, h9⟩ := h
  exact ⟨ob_set h1 hp e, ⟨by go_cell, by go_cell, by go_cell⟩, ⟨by go_cell, by go_cell, by go_cell⟩, ⟨⟨by go_cell, by go_cell, by go_cell⟩, by go_cell, by go_cell, by go_cell⟩, bs h5 h6 _, h6, h7, h8, h9⟩
theorem fw_below {w V V' : World} {Bo b W H m : Nat} {g : Nat → Bool} {B1 : Nat} {W1 H1 : Int} {a1 : Option Addr} {n1 c1 R : Nat} (h : FW w V Bo b W H m g B1 W1 H1 a1 n1 c1 R) (hB : Below V.heap.size V V') : FW w V' Bo b W H m g B1 W1 H1 a1 n1 c1 R :=
  ⟨ob_below h.ob hB, boxat_below h.bx hB, boxat_below h.b1 hB, rz_below h.rz hB, bt h.be hB, h.lb, h.l1, h.l2, h.l3⟩
def FJ (w : World) (Bo b W H m : Nat) (P : Nat → Bool) (B1 : Nat) (W1 H1 : Int) (a1 : Option Addr) (n1 c1 R : Nat) (s : Value) (V : World) : Prop := ∃ j : Nat, j ≤ H ∧ s = .int .i64 j ∧ FW w V Bo b W H m (mixd P (j * W)) B1 W1 H1 a1 n1 c1 R
def FI (w : World) (Bo b W H m : Nat) (P : Nat → Bool) (B1 : Nat) (W1 H1 : Int) (a1 : Option Addr) (n1 c1 R j : Nat) (s : Value) (V : World) : Prop := ∃ i : Nat, i ≤ W ∧ s = .int .i64 i ∧ FW w V Bo b W H m (mixd P (j * W + i)) B1 W1 H1 a1 n1 c1 R
theorem fi_next {w V : World} {Bo b W H m : Nat} {P : Nat → Bool} {B1 : Nat} {W1 H1 : Int} {a1 : Option Addr} {n1 c1 R j i p : Nat} {v : Bool} (h : FW w V Bo b W H m (mixd P (j * W + i)) B1 W1 H1 a1 n1 c1 R) (hi : i < W) (hp : j * W + i = p) (hpm : p < m) (hv : P p = v) :
    FI w Bo b W H m P B1 W1 H1 a1 n1 c1 R j (.int .i64 ((i : Int) + 1)) (V.setCell ⟨b, p, none⟩ (.bool v)) :=
  ⟨i + 1, by omega, by congr 1, fw_set h hpm (fun t => by
    subst hp hv
    exact mixd_next t)⟩
theorem fj_next {w V : World} {Bo b W H m : Nat} {P : Nat → Bool} {B1 : Nat} {W1 H1 : Int} {a1 : Option Addr} {n1 c1 R j i : Nat} (h : FW w V Bo b W H m (mixd P (j * W + i)) B1 W1 H1 a1 n1 c1 R) (hi : i = W) (hj : j < H) : FJ w Bo b W H m P B1 W1 H1 a1 n1 c1 R (.int .i64 ((j : Int) + 1)) V :=
  ⟨j + 1, by omega, by congr 1, by
    rw [Nat.succ_mul, ← hi]
    rw [hi] at h ⊢
    exact h⟩
theorem crp_at {cw : Nat} {W H : Int} {n : Nat} {f : Nat → Bool} {x y : Int} {i j : Nat} (hi : i < cw) : crp cw W H n f x y (j * cw + i) = has W H n f (RowKit.wrap64 (x + i)) (RowKit.wrap64 (y + j)) := by
  have hd := div_mod_at (W := cw) (u := i) (v := j) ⟨by omega, by omega⟩
  have e : ((j * cw + i : Nat) : Int) = (j : Int) * cw + i := by rw [Int.natCast_add, Int.natCast_mul]
  unfold crp
  rw [e, hd.1, hd.2]
def RcPost (w : World) (cw chh m : Nat) (P : Nat → Bool) (e : Ending) (w' : World) : Prop := ∃ b, e = .returned (.tuple #[.agg #[.int .i64 cw, .int .i64 chh, .slice (some ⟨b, 0, none⟩) m m], .int .i64 0]) ∧ OB w' b m P ∧ Below w.heap.size w w'
set_option maxRecDepth 100000 in
set_option maxHeartbeats 8000000 in
theorem rCrop_yes (W H : Int) (a : Option Addr) (n c : Nat) (f : Nat → Bool) (x y : Int) (cw chh m : Nat) (hg : gd W H n = true) (hcw : cw ≤ 96) (hch : chh ≤ 96) (hm : m = cw * chh) (w : World) (hD : DA w a n f) :
    Calls Try.prog 29 #[bv W H a n c, .int .i64 x, .int .i64 y, .int .i64 cw, .int .i64 chh] w (RcPost w cw chh m (crp cw W H n f x y)) := by
  have CK := Lib.hid (rCheck_any W H a n c)
  have hz3 : ck W H n = 0 := by have hz := ck_zero W H n; rw [hg] at hz; exact eq_of_beq hz
  rw [hz3] at CK
  have NW := Lib.hid (rNew_yes cw chh m (by rw [Bool.and_eq_true, sd_iff, sd_iff]; omega) (by rw [hm]; simp))
  have GA := Lib.hid (fun x y w h => rGet_any W H a n c f x y w h)
  have HD := Lib.hid hD
  have HM := Lib.hid hm
  have HP := Lib.hid (fun (i j : Nat) hi => crp_at (cw := cw) (W := W) (H := H) (n := n) (f := f) (x := x) (y := y) (i := i) (j := j) hi)
  have PO : Hid (∀ b V, OB V b m (mixd (crp cw W H n f x y) (chh * cw)) → OB V b m (crp cw W H n f x y)) := Lib.hid (fun b V h => ob_congr h (fun i hi => by unfold mixd; rw [if_pos (by rw [Nat.mul_comm, ← hm]; exact hi)]))
  generalize crp cw W H n f x y = P at *
  clear hz3 hg hD hm
  unfold bv at *
  go_enter Try.func29, Try.ntmps29
  go_wp2_with fail
  refine (CK.out _).mono ?_
  rintro e V1 ⟨rfl, hB1⟩
  have hBa : Below w.heap.size w ((w.alloc (.cells #[.int .i64 W, .int .i64 H, .slice a n c] 28)).alloc (.cells #[.int .i64 0, .int .i64 0, .slice none 0 0] 28)) := ba (ba (Below.refl _ w) _) _
  have rz : RZ V1 (w.heap.size + 1) := rz_below (⟨⟨by go_cell, by go_cell, by go_cell⟩, by go_cell, by go_cell, by go_cell⟩ : RZ ((w.alloc (.cells #[.int .i64 W, .int .i64 H, .slice a n c] 28)).alloc (.cells #[.int .i64 0, .int .i64 0, .slice none 0 0] 28)) (w.heap.size + 1)) hB1
  have bx : BoxAt V1 w.heap.size W H a n c := boxat_below (⟨by go_cell, by go_cell, by go_cell⟩ : BoxAt ((w.alloc (.cells #[.int .i64 W, .int .i64 H, .slice a n c] 28)).alloc (.cells #[.int .i64 0, .int .i64 0, .slice none 0 0] 28)) w.heap.size W H a n c) hB1
  have hB := bt hBa hB1
  have hlt : w.heap.size + 1 < V1.heap.size := block_lt_of_cell rz.1.1
  clear hB1 hBa
  go_wp2_with fail
  refine (NW.out _).mono ?_
  rintro e V2 ⟨b, rfl, ho, ⟨hb0, hb1⟩, hB2⟩
  replace rz := rz_below rz hB2
  replace bx := boxat_below bx hB2
  replace hB := bt hB hB2
  have hlt2 := hB2.size
  clear hB2
  have hBo := ba (Below.refl _ V2) (.cells #[.int .i64 cw, .int .i64 chh, .slice (some ⟨b, 0, none⟩) m m] 28)
  have F0 : FW w (V2.alloc (.cells #[.int .i64 cw, .int .i64 chh, .slice (some ⟨b, 0, none⟩) m m] 28)) V2.heap.size b cw chh m (mixd P 0) w.heap.size W H a n c (w.heap.size + 1) :=
    ⟨ob_congr (ob_below ho hBo) (fun i hi => by unfold mixd; rw [if_neg (by omega)]), ⟨by go_cell, by go_cell, by go_cell⟩, boxat_below bx hBo, rz_below rz hBo, ba hB _, by omega, by omega, by omega, by omega⟩
  clear hBo ho rz bx hB
  go_upto_region 5 with (fail)
  generalize (V2.alloc (.cells #[.int .i64 cw, .int .i64 chh, .slice (some ⟨b, 0, none⟩) m m] 28)) = V3 at *
  generalize V2.heap.size = Bo at *
  go_wp2_with fail
  go_loopw [14] (fun s14 V => FJ w Bo b cw chh m P w.heap.size W H a n c (w.heap.size + 1) s14 V) (fun s14 _ => chh - (intOf s14).toNat)
  case atStart => exact ⟨0, by omega, rfl, by rw [Nat.zero_mul]; exact F0⟩
  case round =>
    clear F0
    obtain ⟨j, hj, rfl, F⟩ := hrel
    rename World => Vj
    rcases Nat.lt_or_ge j chh with hjH | hjH
    · go_wp2_with fail
      go_loopw [15] (fun s15 V => FI w Bo b cw chh m P w.heap.size W H a n c (w.heap.size + 1) j s15 V) (fun s15 _ => cw - (intOf s15).toNat)
      case atStart => exact ⟨0, by omega, rfl, by rw [Nat.add_zero]; exact F⟩
      case round =>
        clear F
        obtain ⟨i, hi, rfl, F⟩ := hrel
        rename World => Vi
        rcases Nat.lt_or_ge i cw with hiW | hiW
        · obtain ⟨e1, e2, hp, hn9⟩ := mul_in HM.out hcw hch hiW hjH
          obtain ⟨p, hpp⟩ : ∃ p, j * cw + i = p := ⟨_, rfl⟩
          obtain ⟨p0, hp0⟩ : ∃ p0, j * cw = p0 := ⟨_, rfl⟩
          have hv := HP.out i j hiW
          rw [hpp] at hv hp e2
          rw [hp0] at e1 e2
          obtain ⟨v, hv2⟩ : ∃ v, P p = v := ⟨_, rfl⟩
          rw [hv2] at hv
          have gA := GA.out (RowKit.wrap64 (x + i)) (RowKit.wrap64 (y + j))
          rw [← hv] at gA
          have g1 := Lib.hid gA
          have HD2 := Lib.hid (da_below HD.out F.be)
          have NX : Hid (∀ V', FW w V' Bo b cw chh m (mixd P (j * cw + i)) w.heap.size W H a n c (w.heap.size + 1) → FI w Bo b cw chh m P w.heap.size W H a n c (w.heap.size + 1) j (.int .i64 ((i : Int) + 1)) (V'.setCell ⟨b, p, none⟩ (.bool v))) := Lib.hid (fun V' h => fi_next h hiW hpp hp hv2)
          obtain ⟨x0, x1, x2⟩ := F.bx
          obtain ⟨y0, y1, y2⟩ := F.b1
          have n1 := F.l1
          have n2 := F.l2
          have hFF := Lib.hid F
          clear gA hv hv2 hpp hp0 F
          go_wp2_with fail
          have x2' : ∀ w', FR Vi w' (some ⟨b, 0, none⟩) → w'.cell? ⟨Bo, 2, none⟩ = some (.slice (some ⟨b, 0, none⟩) m m) := fun _ h => (h.cell x2 (fun q e => by cases e; exact fun e => n1 e.symm)).1
          have y0' : ∀ w', FR Vi w' (some ⟨b, 0, none⟩) → w'.cell? ⟨w.heap.size, 0, none⟩ = some (.int .i64 W) := fun _ h => (h.cell y0 (fun q e => by cases e; exact fun e => n2 e.symm)).1
          have y1' : ∀ w', FR Vi w' (some ⟨b, 0, none⟩) → w'.cell? ⟨w.heap.size, 1, none⟩ = some (.int .i64 H) := fun _ h => (h.cell y1 (fun q e => by cases e; exact fun e => n2 e.symm)).1
          have y2' : ∀ w', FR Vi w' (some ⟨b, 0, none⟩) → w'.cell? ⟨w.heap.size, 2, none⟩ = some (.slice a n c) := fun _ h => (h.cell y2 (fun q e => by cases e; exact fun e => n2 e.symm)).1
          have u1 : IntKind.i64.wrap ((j : Int) * cw) = p0 := (IntWalk.i64_left _).trans e1
          have u2 : IntKind.i64.wrap ((p0 : Int) + i) = p := (IntWalk.i64_left _).trans e2
          have u3 : (0 : Int) ≤ p := Int.natCast_nonneg p
          have u4 : (p : Int) < m := Int.ofNat_lt.2 hp
          have u5 : IntKind.i64.wrap (x + (i : Int)) = RowKit.wrap64 (x + i) := IntWalk.i64_left _
          have u6 : IntKind.i64.wrap (y + (j : Int)) = RowKit.wrap64 (y + j) := IntWalk.i64_left _
          clear x0 x1 x2 y0 y1 y2 e1 e2
          go_region_held3 (fun w' => FR Vi w' (some ⟨b, 0, none⟩)) (first
            | (with_reducible exact FR.drew _ _)
            | (with_reducible exact FR.set (by assumption) _)
            | (with_reducible exact FR.below (by assumption) hba)
            | (with_reducible assumption))
            (((with_reducible refine (g1.out _ (da_below HD2.out (bd1 (Below.refl _ _)))).mono ?_); rintro en wa ⟨rfl, hba⟩; have hF1 := fw_below (fw_below hFF.out (bd1 (Below.refl _ _))) hba; obtain ⟨o1, o2⟩ := hF1.ob p hp))
          have R := Lib.hid (NX.out _ hF1)
          clear u1 u2 u3 u4 u5 u6 x2' y0' y1' y2' o1 o2
          go_wp2_with fail
          exact ⟨R.out, by simp [intOf]; omega⟩
        · obtain rfl : i = cw := by omega
          have R := Lib.hid (fj_next F rfl hjH)
          go_wp2_with fail
          exact ⟨R.out, by simp [intOf]; omega⟩
    · obtain rfl : j = chh := by omega
      have ho := PO.out _ _ F.ob
      obtain ⟨_, ⟨x0, x1, x2⟩, _, ⟨⟨r0, r1, r2⟩, r3, r4, r5⟩, hB, h6, h7, h8, h9⟩ := F
      go_wp2
      refine bodyPost_ret (v := .tuple #[.agg #[.int .i64 cw, .int .i64 j, .slice (some ⟨b, 0, none⟩) m m], .int .i64 0]) (by simp [results, Try.results29, go_sem, r0, r1, r2]) rfl ⟨b, rfl, ?_, ?_⟩
      · exact ob_other (ob_other (ob_other ho h9) h9) h9
      · exact bs (bs (bs hB (by simp) _) (by simp) _) (by simp) _
end Go.Proofs.Ytfkpodhkbcocmaa.Bm
