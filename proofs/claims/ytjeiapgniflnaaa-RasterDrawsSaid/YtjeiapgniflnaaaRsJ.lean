/-
  Layer 7 (raster): covers of the program.
-/
import Derived.Test.YtjeiapgniflnaaaRsH
import Derived.Test.YtjeiapgniflnaaaRsI
namespace Go.Proofs.Ytjeiapgniflnaaa.Rs
open Go.RowKit
open Go.Proofs.Ytjeiapgniflnaaa.Ot
theorem both2 {x y : Int} (e : x = y) (h : -1000000000 ≤ y ∧ y ≤ 1000000000) : wrap64 x = y ∧ IntKind.i64.wrap x = y := both e (by omega)
/-- The numbers of a sample of a picture. -/
theorem cell_facts {W H M n y x : Nat} (hW : 0 ≤ W ∧ W ≤ 96) (hH : 0 ≤ H ∧ H ≤ 96) (hM : M = 2 * H * (2 * W + 1)) (hn : n = W * H) (hy : y < 2 * H) (hx : x < 2 * W) :
    ∃ i0 k0 : Nat, i0 = y * (2 * W + 1) + x ∧ i0 < M ∧ k0 = y / 2 * W + x / 2 ∧ k0 < n ∧ (wrap64 ((y : Int) * (2 * (W : Int) + 1)) = (y : Int) * (2 * (W : Int) + 1)) ∧ (wrap64 ((y : Int) * (2 * (W : Int) + 1) + x) = (i0 : Int)) ∧
      ((y : Int).tdiv 2 = ((y / 2 : Nat) : Int) ∧ (y : Int) / 2 = ((y / 2 : Nat) : Int) ∧ IntKind.i64.wrap (((y / 2 : Nat) : Int)) = ((y / 2 : Nat) : Int)) ∧ ((x : Int).tdiv 2 = ((x / 2 : Nat) : Int) ∧ (x : Int) / 2 = ((x / 2 : Nat) : Int) ∧ IntKind.i64.wrap (((x / 2 : Nat) : Int)) = ((x / 2 : Nat) : Int)) ∧
      (wrap64 (((y / 2 : Nat) : Int) * (W : Int)) = ((y / 2 : Nat) : Int) * (W : Int)) ∧ (wrap64 (((y / 2 : Nat) : Int) * (W : Int) + ((x / 2 : Nat) : Int)) = (k0 : Int)) := by
  have h1 : (y + 1) * (2 * W + 1) ≤ 2 * H * (2 * W + 1) := Nat.mul_le_mul_right _ (by omega)
  have hMl : M ≤ 100000 := by
    have : 2 * H * (2 * W + 1) ≤ 192 * 193 := Nat.mul_le_mul (by omega) (by omega)
    omega
  have h2 : (y / 2 + 1) * W ≤ H * W := Nat.mul_le_mul_right _ (by omega)
  have hnl : H * W ≤ 96 * 96 := Nat.mul_le_mul (by omega) (by omega)
  rw [Nat.add_mul] at h1 h2
  have hc1 : ((y * (2 * W + 1) : Nat) : Int) = (y : Int) * (2 * (W : Int) + 1) := by simp
  have hc2 : ((y / 2 * W : Nat) : Int) = ((y / 2 : Nat) : Int) * (W : Int) := by rw [Int.natCast_mul]
  have hn2 : n = H * W := by rw [hn, Nat.mul_comm]
  refine ⟨y * (2 * W + 1) + x, y / 2 * W + x / 2, rfl, by omega, rfl, by omega, ?_, ?_, ⟨?_, ?_, ?_⟩, ⟨?_, ?_, ?_⟩, ?_, ?_⟩
  · rw [← hc1]; exact (both rfl (by omega)).1
  · rw [← hc1, ← Int.natCast_add]; exact (both rfl (by omega)).1
  · rw [Int.tdiv_eq_ediv_of_nonneg (by omega)]; omega
  · omega
  · exact (both rfl (by omega)).2
  · rw [Int.tdiv_eq_ediv_of_nonneg (by omega)]; omega
  · omega
  · exact (both rfl (by omega)).2
  · rw [← hc2]; exact (both rfl (by omega)).1
  · rw [← hc2, ← Int.natCast_add]; exact (both rfl (by omega)).1
def CvB (w : World) (Le Lo : Int) (W H : Nat) (d : Option Addr) (n dc : Nat) (V : World) : Prop :=
  V.cell? ⟨w.heap.size, 0, none⟩ = some (.int .i64 Le) ∧ V.cell? ⟨w.heap.size, 1, none⟩ = some (.int .i64 Lo) ∧ V.cell? ⟨w.heap.size, 2, none⟩ = some (.int .i64 (W : Int)) ∧ V.cell? ⟨w.heap.size, 3, none⟩ = some (.int .i64 (H : Int)) ∧ V.cell? ⟨w.heap.size, 4, none⟩ = some (.slice d n dc)
theorem cvb_below {w : World} {Le Lo : Int} {W H : Nat} {d : Option Addr} {n dc : Nat} {V V' : World} (h : CvB w Le Lo W H d n dc V) (hB : Below V.heap.size V V') : CvB w Le Lo W H d n dc V' :=
  ⟨kc hB h.1, kc hB h.2.1, kc hB h.2.2.1, kc hB h.2.2.2.1, kc hB h.2.2.2.2⟩
/-- What covers holds. -/
def CvI (w : World) (bn bs M : Nat) (Le Lo : Int) (W H : Nat) (d : Option Addr) (n dc : Nat) (T : Nat → Int) (f : Nat → Int) (V : World) : Prop :=
  OI V bn n f ∧ OI V bs M T ∧ CvB w Le Lo W H d n dc V ∧ Below w.heap.size w V
theorem cvi_below {w : World} {bn bs M : Nat} {Le Lo : Int} {W H : Nat} {d : Option Addr} {n dc : Nat} {T f : Nat → Int} {V V' : World} (h : CvI w bn bs M Le Lo W H d n dc T f V) (hB : Below V.heap.size V V') : CvI w bn bs M Le Lo W H d n dc T f V' :=
  ⟨oi_below h.1 hB, oi_below h.2.1 hB, cvb_below h.2.2.1 hB, bt h.2.2.2 hB⟩
theorem cvi_congr {w : World} {bn bs M : Nat} {Le Lo : Int} {W H : Nat} {d : Option Addr} {n dc : Nat} {T f f' : Nat → Int} {V : World} (h : CvI w bn bs M Le Lo W H d n dc T f V) (e : ∀ i, f i = f' i) : CvI w bn bs M Le Lo W H d n dc T f' V :=
  ⟨oi_congr h.1 (fun i _ => e i), h.2⟩
theorem cvi_congr2 {w : World} {bn bs M : Nat} {Le Lo : Int} {W H : Nat} {d : Option Addr} {n dc : Nat} {T f f' : Nat → Int} {V : World} (h : CvI w bn bs M Le Lo W H d n dc T f V) (e : ∀ i, i < n → f i = f' i) : CvI w bn bs M Le Lo W H d n dc T f' V :=
  ⟨oi_congr h.1 e, h.2⟩
theorem pos_of {W H i : Nat} (h : i < W * H) : 0 < W := by
  rcases Nat.eq_zero_or_pos W with h0 | h0
  · subst h0; rw [Nat.zero_mul] at h; omega
  · exact h0
theorem cvi_set {w : World} {bn bs M : Nat} {Le Lo : Int} {W H : Nat} {d : Option Addr} {n dc : Nat} {T f f' : Nat → Int} {V : World} (h1 : w.heap.size < bn) (h2 : bs ≠ bn) (h : CvI w bn bs M Le Lo W H d n dc T f V) {k : Nat} (hk : k < n) {v : Int} (e : ∀ i, f' i = if i = k then v else f i) : CvI w bn bs M Le Lo W H d n dc T f' (V.setCell ⟨bn, k, none⟩ (.int .i64 v)) := by
  obtain ⟨k1, k2, ⟨k3, k4, k5, k6, k7⟩, k8⟩ := h
  have n1 : ¬ bn = w.heap.size := by omega
  exact ⟨oi_set k1 hk e, oi_other k2 h2, ⟨by go_cell, by go_cell, by go_cell, by go_cell, by go_cell⟩, Ot.bs k8 (by show w.heap.size ≤ bn; omega) _⟩
theorem pS_le {f : Nat → Int} {C y K : Nat} (hf : ∀ i, -(K : Int) ≤ f i ∧ f i ≤ K) : ∀ x : Nat, -((x * K : Nat) : Int) ≤ pS f C y x ∧ pS f C y x ≤ (x * K : Nat)
  | 0 => by unfold pS; omega
  | x + 1 => by
    have h1 := pS_le (f := f) (C := C) (y := y) hf x
    have h2 := hf (y * C + x)
    rw [pS, Nat.add_mul]
    omega
theorem cv_up {m : Nat} (h : m ≤ 4) : wrap64 ((m : Int) + 1) = ((m + 1 : Nat) : Int) := (both rfl (by omega)).1
theorem pS_wrap {T : Nat → Int} {C y x i0 : Nat} (h : -(((x + 1) * 1000000 : Nat) : Int) ≤ pS T C y (x + 1) ∧ pS T C y (x + 1) ≤ ((x + 1) * 1000000 : Nat)) (hx : x ≤ 192) (hi : i0 = y * C + x) : wrap64 (pS T C y x + T i0) = pS T C y (x + 1) := by
  have hp : pS T C y (x + 1) = pS T C y x + T i0 := by rw [pS, hi]
  rw [← hp]
  exact (both rfl (by omega)).1
def CvO (w : World) (bn bs M : Nat) (Le Lo : Int) (W H : Nat) (d : Option Addr) (n dc : Nat) (T : Nat → Int) (B : Nat → Nat → Nat) (s25 : Value) (V : World) : Prop :=
  ∃ y : Nat, s25 = .int .i64 y ∧ y ≤ 2 * H ∧ CvI w bn bs M Le Lo W H d n dc T (fun i => (cN B W y 0 i : Nat)) V
def CvJ (w : World) (bn bs M : Nat) (Le Lo : Int) (W H : Nat) (d : Option Addr) (n dc : Nat) (T : Nat → Int) (B : Nat → Nat → Nat) (y : Nat) (s10 s32 : Value) (V : World) : Prop :=
  ∃ x : Nat, s32 = .int .i64 x ∧ x ≤ 2 * W ∧ s10 = .int .i64 (pS T (2 * W + 1) y x) ∧ CvI w bn bs M Le Lo W H d n dc T (fun i => (cN B W y x i : Nat)) V
set_option maxRecDepth 100000 in
set_option maxHeartbeats 16000000 in
theorem covers_any (a : Option Addr) (N c : Nat) (ns : Nat → Nat) (g : Nat → Nat → Pt) (u Le Lo : Int) (W H : Nat) (d : Option Addr) (n dc : Nat) (hn : n = W * H) (hG : Geo u Le Lo W H) (hr : allO ns g N = true) (hin : ∀ k, k < N → ∀ i, i < ns k → inG u Le Lo W H (g k i)) (hN : N ≤ 1000000) (hs : pre ns N ≤ 1000000) (w : World) (hA : OT w a N ns g)
    (T : Nat → Int) (hT : T = tF u Le Lo W (eJ N ns g) (pre ns N)) (B : Nat → Nat → Nat) (hB1 : ∀ y x, B y x ≤ 1) (hB : ∀ y x, x < 2 * W → B y x = bit (pS T (2 * W + 1) y (x + 1))) :
    Calls Try.prog 38 #[.slice a N c, .int .i64 u, pv Le Lo W H d n dc] w fun e w' => ∃ b, e = .returned (.slice (some ⟨b, 0, none⟩) n n) ∧ OI w' b n (fun i => (cN B W (2 * H) 0 i : Nat)) ∧ w.heap.size ≤ b ∧ Below w.heap.size w w' := by
  obtain ⟨M, hM⟩ : ∃ M, M = 2 * H * (2 * W + 1) := ⟨_, rfl⟩
  have hTle : ∀ i, -((1000000 : Nat) : Int) ≤ T i ∧ T i ≤ (1000000 : Nat) := fun i => by
    have := tF_le (u := u) (Le := Le) (Lo := Lo) (W := W) (eJ_w N ns g) i (pre ns N)
    rw [hT]; omega
  have hnl : n ≤ 100000 := by
    have : W * H ≤ 96 * 96 := Nat.mul_le_mul hG.W.2 hG.H.2
    omega
  have TU := Lib.hid (fun V hb => turns_any a N c ns g u Le Lo W H d n dc M hM hG hr hin hN hs V (ot_below hA hb))
  rw [← hT] at TU
  have CO := Lib.hid (columns_any Le Lo W H d n dc hG.W.2)
  have HW := Lib.hid hG.W
  have HH := Lib.hid hG.H
  have HM := Lib.hid hM
  have HN := Lib.hid hn
  have HL := Lib.hid (fun y x => pS_le (C := 2 * W + 1) (y := y) hTle x)
  have HB := Lib.hid hB
  have HB1 := Lib.hid hB1
  have h2H : wrap64 (2 * (H : Int)) = 2 * (H : Int) := (both rfl (by have := hG.H; omega)).1
  have h2W : wrap64 (2 * (W : Int)) = 2 * (W : Int) := (both rfl (by have := hG.W; omega)).1
  clear hTle hT hM hn hG hr hin hA hB hB1
  unfold pv at *
  go_enter Try.func38, Try.ntmps38
  have hA0 : Below w.heap.size w (w.alloc (.cells #[.int .i64 Le, .int .i64 Lo, .int .i64 (W : Int), .int .i64 (H : Int), .slice d n dc] 40)) := ba (Below.refl _ _) _
  have hC0 : CvB w Le Lo W H d n dc (w.alloc (.cells #[.int .i64 Le, .int .i64 Lo, .int .i64 (W : Int), .int .i64 (H : Int), .slice d n dc] 40)) := ⟨by go_cell, by go_cell, by go_cell, by go_cell, by go_cell⟩
  obtain ⟨V2, hmk, hO, hB2, hlt⟩ := make_ints (w.alloc (.cells #[.int .i64 Le, .int .i64 Lo, .int .i64 (W : Int), .int .i64 (H : Int), .slice d n dc] 40)) n hnl
  obtain ⟨c0, c1, c2, c3, c4⟩ := cvb_below hC0 hB2
  have TV := Lib.hid (TU.out V2 (bt hA0 hB2))
  have hsz : V2.heap.size = V2.heap.size := rfl
  go_wp2_with ((with_reducible refine (TV.out).mono ?_); rintro e V3 ⟨bs, rfl, hT3, hbs, hB3⟩; obtain ⟨c0, c1, c2, c3, c4⟩ := cvb_below (cvb_below hC0 hB2) hB3)
  rw [World.size_alloc] at hO hlt
  obtain ⟨bn, hbn⟩ : ∃ bn, w.heap.size + 1 = bn := ⟨_, rfl⟩
  rw [hbn] at hO ⊢
  have hI0 : CvI w bn bs M Le Lo W H d n dc T (fun _ => 0) V3 := ⟨oi_below hO hB3, hT3, cvb_below (cvb_below hC0 hB2) hB3, bt (bt hA0 hB2) hB3⟩
  have hb1 : w.heap.size < bn := by omega
  have hb2 : bs ≠ bn := by omega
  clear c0 c1 c2 c3 c4 hO hT3 hB3 hbs hlt hmk hB2 hC0 TV TU hsz hbn
  clear hA0
  rw [h2H]
  go_loopw [25] (fun s25 V => CvO w bn bs M Le Lo W H d n dc T B s25 V) (fun s25 _ => 2 * H - (intOf s25).toNat)
  case atStart => exact ⟨0, rfl, by omega, cvi_congr hI0 (fun i => by rw [cN_zero]; rfl)⟩
  case round =>
    clear hI0
    obtain ⟨y, rfl, hy, hI⟩ := hrel
    rename World => V
    obtain ⟨_, _, ⟨c0, c1, c2, c3, c4⟩, hBV⟩ := id hI
    rcases Nat.lt_or_ge y (2 * H) with hy2 | hy2
    · have y2 := nat_c y
      have y3 : (y : Int) < 2 * (H : Int) := by omega
      have hlty := ltn hy2
      have HR0 : Hid (∀ V', CvI w bn bs M Le Lo W H d n dc T (fun i => (cN B W (y + 1) 0 i : Nat)) V' → CvO w bn bs M Le Lo W H d n dc T B (.int .i64 ((y : Int) + 1)) V') := Lib.hid (fun V' h => ⟨y + 1, rfl, hy2, h⟩)
      have CF := Lib.hid (fun x hx => cell_facts HW.out HH.out HM.out HN.out hy2 (x := x) hx)
      have hy9 : y ≤ 192 := by have := HH.out; omega
      go_wp2_with fail
      rw [h2W]
      go_loopw [10, 32] (fun s10 s32 V => CvJ w bn bs M Le Lo W H d n dc T B y s10 s32 V) (fun _ s32 _ => 2 * W - (intOf s32).toNat)
      case atStart => exact ⟨0, rfl, by omega, rfl, hI⟩
      case round =>
        clear hI c0 c1 c2 c3 c4
        obtain ⟨x, rfl, hx, rfl, hI⟩ := hrel
        rename World => Vx
        rcases Nat.lt_or_ge x (2 * W) with hx2 | hx2
        · have x2 := nat_c x
          have x3 : (x : Int) < 2 * (W : Int) := by omega
          have hltx := ltn hx2
          have hx9 : x ≤ 192 := by have := HW.out; omega
          obtain ⟨i0, k0, hi0e, hi0, hk0e, hk0, w1, w2, ⟨w3, w4, w5⟩, ⟨w6, w7, w8⟩, w9, w10⟩ := CF.out x hx2
          have i2 := nat_c i0
          have i3 := lt_c hi0
          have j2 := nat_c k0
          have j3 := lt_c hk0
          have wp := pS_wrap (HL.out y (x + 1)) hx9 hi0e
          have hbt := HB.out y x hx2
          have hnx := fun i => cN_next B (W := W) (y := y) (x := x) hx2 i
          rw [← hk0e] at hnx
          have hup := cv_up (cN_le HB1.out W y x k0)
          have RN : Hid (∀ V', Below Vx.heap.size Vx V' → B y x = 0 → CvJ w bn bs M Le Lo W H d n dc T B y (.int .i64 (pS T (2 * W + 1) y (x + 1))) (.int .i64 ((x : Int) + 1)) V') := Lib.hid (fun V' hb h0 => ⟨x + 1, rfl, hx2, rfl, cvi_congr (cvi_below hI hb) (fun i => by rw [hnx i, h0]; split <;> rfl)⟩)
          have RY : Hid (∀ V', Below Vx.heap.size Vx V' → B y x = 1 → CvJ w bn bs M Le Lo W H d n dc T B y (.int .i64 (pS T (2 * W + 1) y (x + 1))) (.int .i64 ((x : Int) + 1)) (V'.setCell ⟨bn, k0, none⟩ (.int .i64 ((cN B W y x k0 + 1 : Nat) : Int)))) := Lib.hid (fun V' hb h1 => ⟨x + 1, rfl, hx2, rfl, cvi_set hb1 hb2 (cvi_below hI hb) hk0 (fun i => by
            rw [hnx i, h1]
            by_cases e : i = k0
            · rw [if_pos e, if_pos e, e]
            · rw [if_neg e, if_neg e])⟩)
          have KB : Hid (∀ V', Below Vx.heap.size Vx V' → CvB w Le Lo W H d n dc V' ∧ (V'.cell? ⟨bs, i0, none⟩ = some (.int .i64 (T i0))) ∧ (V'.cell? ⟨bn, k0, none⟩ = some (.int .i64 ((cN B W y x k0 : Nat) : Int)) ∧ V'.frozen? ⟨bn, k0, none⟩ = false)) := Lib.hid (fun V' hb => ⟨(cvi_below hI hb).2.2.1, ((cvi_below hI hb).2.1 i0 hi0).1, (cvi_below hI hb).1 k0 hk0⟩)
          obtain ⟨⟨c0, c1, c2, c3, c4⟩, d0, d1, d2⟩ := KB.out _ (Below.refl _ _)
          clear hI HL HB HB1 CF hi0e hk0e hnx HR0 hx hy hx2 hi0 hk0
          generalize pS T (2 * W + 1) y (x + 1) = p1 at *
          generalize pS T (2 * W + 1) y x = p0 at *
          generalize ((y / 2 : Nat) : Int) = yh at *
          generalize ((x / 2 : Nat) : Int) = xh at *
          generalize cN B W y x k0 = cc at *
          unfold bit at hbt
          by_cases h0 : p1 = 0
          · rw [if_pos h0] at hbt
            have R := Lib.hid (fun V' hb => RN.out V' hb hbt)
            rw [h0] at wp R
            clear RN RY hbt h0
            go_wp2_with ((with_reducible refine (CO.out _).mono ?_); rintro e Vz ⟨rfl, hbz⟩; obtain ⟨⟨c0, c1, c2, c3, c4⟩, d0, d1, d2⟩ := KB.out _ hbz)
            rw [wp]
            exact ⟨R.out _ hbz, hltx⟩
          · rw [if_neg h0] at hbt
            have hq : (p1 != 0) = true := bne_iff_ne.2 h0
            have R := Lib.hid (fun V' hb => RY.out V' hb hbt)
            clear RN RY hbt
            go_wp2_with ((with_reducible refine (CO.out _).mono ?_); rintro e Vz ⟨rfl, hbz⟩; obtain ⟨⟨c0, c1, c2, c3, c4⟩, d0, d1, d2⟩ := KB.out _ hbz)
            rw [wp]
            exact ⟨R.out _ hbz, hltx⟩
        · obtain rfl : x = 2 * W := by omega
          have R := Lib.hid (HR0.out _ (cvi_congr2 hI (fun i hi => by rw [cN_row B (pos_of (by rw [← HN.out]; exact hi))])))
          go_wp2_with fail
          exact ⟨R.out, hlty⟩
    · obtain rfl : y = 2 * H := by omega
      have hR := Lib.hid hI
      clear hI
      go_wp2_with fail
      go_ret
      exact ⟨bn, rfl, hR.out.1, by omega, hBV⟩
end Go.Proofs.Ytjeiapgniflnaaa.Rs
