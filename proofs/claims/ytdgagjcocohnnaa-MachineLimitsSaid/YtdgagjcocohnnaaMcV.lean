/-
  Layer 9 (machine): MachineLimits, walked.
-/
import Derived.Test.YtdgagjcocohnnaaMcT
import Derived.Test.YtdgagjcocohnnaaMcU
namespace Go.Proofs.Ytdgagjcocohnnaa.Mc
open Go.RowKit
open Go.Proofs.Ytdgagjcocohnnaa.Ot (Pt PtAt PA PO OO OT pre pre_mono shP p0 EqO EqC rSame_any rCopy_any mo_oo oo_ot ot_below ot_congr)
theorem down_x {x : Int} (h1 : -1073741824 ≤ x) (h2 : x ≤ 1073741824) : (x.tmod 2 < 0 → x.tdiv 2 - 1 = x / 2) ∧ (¬ x.tmod 2 < 0 → x.tdiv 2 = x / 2) := by
  rcases Int.lt_or_le x 0 with h | h
  · have e1 : x.tdiv 2 = -((-x) / 2) := by
      rw [← Int.tdiv_eq_ediv_of_nonneg (show 0 ≤ -x by omega), Int.neg_tdiv, Int.neg_neg]
    have e2 : x.tmod 2 = -((-x) % 2) := by
      rw [← Int.tmod_eq_emod_of_nonneg (show 0 ≤ -x by omega), Int.neg_tmod, Int.neg_neg]
    omega
  · have e1 : x.tdiv 2 = x / 2 := Int.tdiv_eq_ediv_of_nonneg h
    have e2 : x.tmod 2 = x % 2 := Int.tmod_eq_emod_of_nonneg h
    omega
/-- The law's tables. -/
structure Tb (a b : Int) (w : World) (B1 B2 : Nat) (V : World) : Prop where
  wa : ∀ k, k < 7 → V.cell? ⟨B1, k, none⟩ = some (.int .i64 (wantK a b k))
  co : ∀ k, k < 7 → V.cell? ⟨B2, k, none⟩ = some (.int .i64 (codeK k))
  be : Below w.heap.size w V
theorem tb_below {a b : Int} {w : World} {B1 B2 : Nat} {V V' : World} (h : Tb a b w B1 B2 V) (hB : Below V.heap.size V V') : Tb a b w B1 B2 V' := ⟨fun k hk => kc hB (h.wa k hk), fun k hk => kc hB (h.co k hk), bt h.be hB⟩
def LiRel (a b : Int) (w : World) (B1 B2 : Nat) (s11 : Value) (V : World) : Prop := ∃ k : Nat, s11 = .int .i64 k ∧ k ≤ 7 ∧ Tb a b w B1 B2 V
set_option maxRecDepth 100000 in
set_option maxHeartbeats 16000000 in
theorem Limits_any (a b : Int) (w : World) :
    Calls Try.prog 8 #[.int .i64 a, .int .i64 b] w fun e w' => e = .returned (.bool true) ∧ Below w.heap.size w w' := by
  go_enter Try.func8, Try.ntmps8
  go_wp2_with fail
  refine (sanity_any _).mono ?_
  rintro e V1 ⟨rfl, hB⟩
  go_wp2_with fail
  refine (xlimited_any a _).mono ?_
  rintro e _ ⟨rfl, rfl⟩
  go_wp2_with fail
  refine (xlimited_any b _).mono ?_
  rintro e _ ⟨rfl, rfl⟩
  have XL := Lib.hid (fun x W => xlimited_any x W)
  obtain ⟨x1, x2⟩ := lim_le a
  obtain ⟨y1, y2⟩ := lim_le b
  have HX := Lib.hid (down_x x1 x2)
  obtain ⟨x, hx⟩ : ∃ x, lim a = x := ⟨_, rfl⟩
  obtain ⟨y, hy⟩ : ∃ y, lim b = y := ⟨_, rfl⟩
  rw [hx] at x1 x2 HX ⊢
  rw [hy] at y1 y2 ⊢
  have hxx := Lib.hid hx
  have hyy := Lib.hid hy
  clear hx hy
  rename World => V1
  go_upto_region 4 with (fail)
  go_upto_if 25 with (fail)
  go_cut [8] (fun s8 V' => s8 = .int .i64 (x / 2) ∧ V' = V1)
  case first =>
    by_cases h : x.tmod 2 < 0
    · have h2 := HX.out.1 h
      have h3 : wrap64 (x.tdiv 2 - 1) = x / 2 := (congrArg wrap64 h2).trans (IntWalk.wrap64_in _ ⟨by omega, by omega⟩)
      go_wp2_with fail
      go_meet
      exact ⟨rfl, rfl⟩
    · have h2 := HX.out.2 (by omega)
      go_wp2_with fail
      go_meet
      exact ⟨rfl, rfl⟩
  case rest =>
    obtain ⟨rfl, rfl⟩ := hcut
    have q1 : x / 2 ≤ 1073741824 := by omega
    have q2 : -1073741824 ≤ x / 2 := by omega
    have HD : Hid (∃ d, d = x / 2) := Lib.hid ⟨_, rfl⟩
    obtain ⟨d, hd⟩ := HD.out
    rw [← hd] at q1 q2 ⊢
    have hdd := Lib.hid hd
    clear hd HX HD
    have HB1 := Lib.hid hB
    clear hB
    go_upto_region 8 with (first
      | ((with_reducible refine (XL.out _ _).mono ?_); rintro e _ ⟨rfl, rfl⟩))
    rename World => V1
    have T0 : Tb a b w V1.heap.size (V1.heap.size + 1) ((V1.alloc (.cells #[.int .i64 (lim (x + y)), .int .i64 (lim (x - y)), .int .i64 (min x y), .int .i64 (max x y), .int .i64 (-x), .int .i64 d, .int .i64 x] 56)).alloc (.cells #[.int .i64 2, .int .i64 3, .int .i64 4, .int .i64 5, .int .i64 6, .int .i64 7, .int .i64 9] 56)) := by
      refine ⟨fun k hk => ?_, fun k hk => ?_, ba (ba HB1.out _) _⟩
      · obtain rfl | rfl | rfl | rfl | rfl | rfl | rfl : k = 0 ∨ k = 1 ∨ k = 2 ∨ k = 3 ∨ k = 4 ∨ k = 5 ∨ k = 6 := by omega
        all_goals
          unfold wantK
          simp only [hxx.out, hyy.out, ← hdd.out]
          go_cell
      · obtain rfl | rfl | rfl | rfl | rfl | rfl | rfl : k = 0 ∨ k = 1 ∨ k = 2 ∨ k = 3 ∨ k = 4 ∨ k = 5 ∨ k = 6 := by omega
        all_goals
          unfold codeK
          simp only
          go_cell
    generalize ((V1.alloc (.cells #[.int .i64 (lim (x + y)), .int .i64 (lim (x - y)), .int .i64 (min x y), .int .i64 (max x y), .int .i64 (-x), .int .i64 d, .int .i64 x] 56)).alloc (.cells #[.int .i64 2, .int .i64 3, .int .i64 4, .int .i64 5, .int .i64 6, .int .i64 7, .int .i64 9] 56)) = V2 at *
    generalize V1.heap.size = B1 at *
    generalize B1 + 1 = B2 at *
    clear x1 x2 y1 y2 q1 q2 hdd hxx hyy HB1 XL
    go_wp2_with fail
    go_loopw [11] (fun s11 V => LiRel a b w B1 B2 s11 V) (fun s11 _ => 7 - (intOf s11).toNat)
    case atStart => exact ⟨0, rfl, by omega, T0⟩
    case round =>
      clear T0
      obtain ⟨k, rfl, hk, hT⟩ := hrel
      rename World => V
      by_cases hk7 : k = 7
      · subst hk7
        have hbe := hT.be
        go_wp2_with fail
        go_ret
        exact ⟨rfl, hbe⟩
      · have hk7' : k < 7 := by omega
        have xr := xr_k a b k hk7'
        have c1 := hT.wa k hk7'
        have c2 := hT.co k hk7'
        have HT := Lib.hid hT
        clear hT hk7
        obtain rfl | rfl | rfl | rfl | rfl | rfl | rfl : k = 0 ∨ k = 1 ∨ k = 2 ∨ k = 3 ∨ k = 4 ∨ k = 5 ∨ k = 6 := by omega
        · go_upto_region 16 with (fail)
          have hP : PrA (V.alloc (.cells #[.int .i64 1, .int .i64 a, .int .i64 0, .int .i64 1, .int .i64 b, .int .i64 0, .int .i64 (codeK 0), .int .i64 0, .int .i64 0, .int .i64 13, .int .i64 1, .int .i64 0] 45)).heap.size (V.alloc (.cells #[.int .i64 1, .int .i64 a, .int .i64 0, .int .i64 1, .int .i64 b, .int .i64 0, .int .i64 (codeK 0), .int .i64 0, .int .i64 0, .int .i64 13, .int .i64 1, .int .i64 0] 45)) (some ⟨V.heap.size, 0, none⟩) (progK a b 0) := pra_lit V (progK a b 0) 45
          have hVW : Below V.heap.size V (V.alloc (.cells #[.int .i64 1, .int .i64 a, .int .i64 0, .int .i64 1, .int .i64 b, .int .i64 0, .int .i64 (codeK 0), .int .i64 0, .int .i64 0, .int .i64 13, .int .i64 1, .int .i64 0] 45)) := ba (Below.refl _ _) _
          generalize V.alloc (.cells #[.int .i64 1, .int .i64 a, .int .i64 0, .int .i64 1, .int .i64 b, .int .i64 0, .int .i64 (codeK 0), .int .i64 0, .int .i64 0, .int .i64 13, .int .i64 1, .int .i64 0] 45) = W1 at *
          obtain ⟨pa, hpa⟩ : ∃ pa, (some ⟨V.heap.size, 0, none⟩ : Option Addr) = pa := ⟨_, rfl⟩
          rw [hpa] at hP ⊢
          clear hpa
          obtain ⟨pc, hpc', hpc⟩ : ∃ pc, (4 : Nat) = pc ∧ (4 ≤ pc ∧ pc ≤ 9223372036854775807) := ⟨4, rfl, by decide, by decide⟩
          have hVc : ∀ (x : Option Addr), Value.slice x 4 4 = Value.slice x 4 pc := fun x => by rw [← hpc']
          rw [hVc]
          clear hVc hpc'
          go_wp2_with fail
          refine (example_any _).mono ?_
          rintro e W2 ⟨b2, rfl, hO, h2⟩
          have X : Hid (Calls Try.prog 12 #[.slice pa 4 pc, .slice (some ⟨b2, 0, none⟩) 1 1, .int .i64 a] W2 fun e w' => ∃ S, e = .returned (.tuple #[.slice (some ⟨S, 0, none⟩) 1 1, .int .i64 4, .int .i64 0]) ∧ OT w' (some ⟨S, 0, none⟩) 1 (fun _ => 3) (fun _ => wiF exF 1 100 (wantK a b 0)) ∧ Below W2.heap.size W2 w') := Lib.hid (x_ok2 (l := progK a b 0) a rfl hpc W2 hO (pra_up hP h2) (by rw [xr]; rfl) (by rw [xr]; rfl) (fun i hi => by rw [xr]; exact f1_at _ i hi))
          replace hVW := bt hVW h2
          clear hP hO h2 xr
          go_wp2_with fail
          refine X.out.mono ?_
          rintro e W3 ⟨S, rfl, hA, h3⟩
          replace hVW := bt hVW h3
          have cw := kc hVW c1
          have R : Hid (∀ V', Below W3.heap.size W3 V' → LiRel a b w B1 B2 (.int .i64 (1 : Int)) V') := Lib.hid (fun V' h => ⟨1, rfl, by omega, tb_below HT.out (bt hVW h)⟩)
          clear X h3 c1 c2 hVW
          generalize wantK a b 0 = wv at *
          have EX := Lib.hid (fun W => example_any W)
          have WI : Hid (∀ W b, OT W (some ⟨b, 0, none⟩) 1 (fun _ => 3) (fun _ => exF) → Calls Try.prog 22 #[.slice (some ⟨b, 0, none⟩) 1 1, .int .i64 1, .int .i64 100, .int .i64 wv] W fun e w' => ∃ a' c', e = .returned (.slice a' 1 c') ∧ OT w' a' 1 (fun _ => 3) (fun _ => wiF exF 1 100 wv) ∧ Below W.heap.size W w') := Lib.hid (fun W b h => with_any (some ⟨b, 0, none⟩) 1 exF 1 (by decide) 100 wv W h)
          have SA : Hid (∀ W, Below W3.heap.size W3 W → ∀ a' c', OT W a' 1 (fun _ => 3) (fun _ => wiF exF 1 100 wv) → Calls Try.prog 14 #[.slice (some ⟨S, 0, none⟩) 1 1, .slice a' 1 c'] W fun e w' => e = .returned (.bool true) ∧ Below W.heap.size W w') := Lib.hid (fun W h a' c' hq => x_same W (ot_below hA h) hq (fun _ _ => rfl))
          have CW : ∀ W, Below W3.heap.size W3 W → W.cell? ⟨B1, 0, none⟩ = some (.int .i64 wv) := fun _ h => kc h cw
          clear hA cw
          go_upto_region 17 with (fail)
          go_region_held3 (fun w' => Below W3.heap.size W3 w') (first
            | (with_reducible exact bd1 (Below.refl _ _))
            | (with_reducible assumption))
            (first
            | ((with_reducible refine (EX.out _).mono ?_); rintro e w4 ⟨b4, rfl, hO4, h4⟩; have hq4 := bt (w := W3) (by assumption) h4)
            | ((with_reducible refine (WI.out _ _ hO4).mono ?_); rintro e w5 ⟨a5, c5, rfl, hO5, h5⟩; have hq5 := bt (w := W3) (by assumption) h5)
            | ((with_reducible refine (SA.out _ (by assumption) _ _ hO5).mono ?_); rintro e w6 ⟨rfl, h6⟩; have hq6 := bt (w := W3) (by assumption) h6))
          go_wp2_with fail
          exact ⟨R.out _ (by assumption), by simp [intOf]⟩
        · go_upto_region 16 with (fail)
          have hP : PrA (V.alloc (.cells #[.int .i64 1, .int .i64 a, .int .i64 0, .int .i64 1, .int .i64 b, .int .i64 0, .int .i64 (codeK 1), .int .i64 0, .int .i64 0, .int .i64 13, .int .i64 1, .int .i64 0] 45)).heap.size (V.alloc (.cells #[.int .i64 1, .int .i64 a, .int .i64 0, .int .i64 1, .int .i64 b, .int .i64 0, .int .i64 (codeK 1), .int .i64 0, .int .i64 0, .int .i64 13, .int .i64 1, .int .i64 0] 45)) (some ⟨V.heap.size, 0, none⟩) (progK a b 1) := pra_lit V (progK a b 1) 45
          have hVW : Below V.heap.size V (V.alloc (.cells #[.int .i64 1, .int .i64 a, .int .i64 0, .int .i64 1, .int .i64 b, .int .i64 0, .int .i64 (codeK 1), .int .i64 0, .int .i64 0, .int .i64 13, .int .i64 1, .int .i64 0] 45)) := ba (Below.refl _ _) _
          generalize V.alloc (.cells #[.int .i64 1, .int .i64 a, .int .i64 0, .int .i64 1, .int .i64 b, .int .i64 0, .int .i64 (codeK 1), .int .i64 0, .int .i64 0, .int .i64 13, .int .i64 1, .int .i64 0] 45) = W1 at *
          obtain ⟨pa, hpa⟩ : ∃ pa, (some ⟨V.heap.size, 0, none⟩ : Option Addr) = pa := ⟨_, rfl⟩
          rw [hpa] at hP ⊢
          clear hpa
          obtain ⟨pc, hpc', hpc⟩ : ∃ pc, (4 : Nat) = pc ∧ (4 ≤ pc ∧ pc ≤ 9223372036854775807) := ⟨4, rfl, by decide, by decide⟩
          have hVc : ∀ (x : Option Addr), Value.slice x 4 4 = Value.slice x 4 pc := fun x => by rw [← hpc']
          rw [hVc]
          clear hVc hpc'
          go_wp2_with fail
          refine (example_any _).mono ?_
          rintro e W2 ⟨b2, rfl, hO, h2⟩
          have X : Hid (Calls Try.prog 12 #[.slice pa 4 pc, .slice (some ⟨b2, 0, none⟩) 1 1, .int .i64 a] W2 fun e w' => ∃ S, e = .returned (.tuple #[.slice (some ⟨S, 0, none⟩) 1 1, .int .i64 4, .int .i64 0]) ∧ OT w' (some ⟨S, 0, none⟩) 1 (fun _ => 3) (fun _ => wiF exF 1 100 (wantK a b 1)) ∧ Below W2.heap.size W2 w') := Lib.hid (x_ok2 (l := progK a b 1) a rfl hpc W2 hO (pra_up hP h2) (by rw [xr]; rfl) (by rw [xr]; rfl) (fun i hi => by rw [xr]; exact f1_at _ i hi))
          replace hVW := bt hVW h2
          clear hP hO h2 xr
          go_wp2_with fail
          refine X.out.mono ?_
          rintro e W3 ⟨S, rfl, hA, h3⟩
          replace hVW := bt hVW h3
          have cw := kc hVW c1
          have R : Hid (∀ V', Below W3.heap.size W3 V' → LiRel a b w B1 B2 (.int .i64 (2 : Int)) V') := Lib.hid (fun V' h => ⟨2, rfl, by omega, tb_below HT.out (bt hVW h)⟩)
          clear X h3 c1 c2 hVW
          generalize wantK a b 1 = wv at *
          have EX := Lib.hid (fun W => example_any W)
          have WI : Hid (∀ W b, OT W (some ⟨b, 0, none⟩) 1 (fun _ => 3) (fun _ => exF) → Calls Try.prog 22 #[.slice (some ⟨b, 0, none⟩) 1 1, .int .i64 1, .int .i64 100, .int .i64 wv] W fun e w' => ∃ a' c', e = .returned (.slice a' 1 c') ∧ OT w' a' 1 (fun _ => 3) (fun _ => wiF exF 1 100 wv) ∧ Below W.heap.size W w') := Lib.hid (fun W b h => with_any (some ⟨b, 0, none⟩) 1 exF 1 (by decide) 100 wv W h)
          have SA : Hid (∀ W, Below W3.heap.size W3 W → ∀ a' c', OT W a' 1 (fun _ => 3) (fun _ => wiF exF 1 100 wv) → Calls Try.prog 14 #[.slice (some ⟨S, 0, none⟩) 1 1, .slice a' 1 c'] W fun e w' => e = .returned (.bool true) ∧ Below W.heap.size W w') := Lib.hid (fun W h a' c' hq => x_same W (ot_below hA h) hq (fun _ _ => rfl))
          have CW : ∀ W, Below W3.heap.size W3 W → W.cell? ⟨B1, 1, none⟩ = some (.int .i64 wv) := fun _ h => kc h cw
          clear hA cw
          go_upto_region 17 with (fail)
          go_region_held3 (fun w' => Below W3.heap.size W3 w') (first
            | (with_reducible exact bd1 (Below.refl _ _))
            | (with_reducible assumption))
            (first
            | ((with_reducible refine (EX.out _).mono ?_); rintro e w4 ⟨b4, rfl, hO4, h4⟩; have hq4 := bt (w := W3) (by assumption) h4)
            | ((with_reducible refine (WI.out _ _ hO4).mono ?_); rintro e w5 ⟨a5, c5, rfl, hO5, h5⟩; have hq5 := bt (w := W3) (by assumption) h5)
            | ((with_reducible refine (SA.out _ (by assumption) _ _ hO5).mono ?_); rintro e w6 ⟨rfl, h6⟩; have hq6 := bt (w := W3) (by assumption) h6))
          go_wp2_with fail
          exact ⟨R.out _ (by assumption), by simp [intOf]⟩
        · go_upto_region 16 with (fail)
          have hP : PrA (V.alloc (.cells #[.int .i64 1, .int .i64 a, .int .i64 0, .int .i64 1, .int .i64 b, .int .i64 0, .int .i64 (codeK 2), .int .i64 0, .int .i64 0, .int .i64 13, .int .i64 1, .int .i64 0] 45)).heap.size (V.alloc (.cells #[.int .i64 1, .int .i64 a, .int .i64 0, .int .i64 1, .int .i64 b, .int .i64 0, .int .i64 (codeK 2), .int .i64 0, .int .i64 0, .int .i64 13, .int .i64 1, .int .i64 0] 45)) (some ⟨V.heap.size, 0, none⟩) (progK a b 2) := pra_lit V (progK a b 2) 45
          have hVW : Below V.heap.size V (V.alloc (.cells #[.int .i64 1, .int .i64 a, .int .i64 0, .int .i64 1, .int .i64 b, .int .i64 0, .int .i64 (codeK 2), .int .i64 0, .int .i64 0, .int .i64 13, .int .i64 1, .int .i64 0] 45)) := ba (Below.refl _ _) _
          generalize V.alloc (.cells #[.int .i64 1, .int .i64 a, .int .i64 0, .int .i64 1, .int .i64 b, .int .i64 0, .int .i64 (codeK 2), .int .i64 0, .int .i64 0, .int .i64 13, .int .i64 1, .int .i64 0] 45) = W1 at *
          obtain ⟨pa, hpa⟩ : ∃ pa, (some ⟨V.heap.size, 0, none⟩ : Option Addr) = pa := ⟨_, rfl⟩
          rw [hpa] at hP ⊢
          clear hpa
          obtain ⟨pc, hpc', hpc⟩ : ∃ pc, (4 : Nat) = pc ∧ (4 ≤ pc ∧ pc ≤ 9223372036854775807) := ⟨4, rfl, by decide, by decide⟩
          have hVc : ∀ (x : Option Addr), Value.slice x 4 4 = Value.slice x 4 pc := fun x => by rw [← hpc']
          rw [hVc]
          clear hVc hpc'
          go_wp2_with fail
          refine (example_any _).mono ?_
          rintro e W2 ⟨b2, rfl, hO, h2⟩
          have X : Hid (Calls Try.prog 12 #[.slice pa 4 pc, .slice (some ⟨b2, 0, none⟩) 1 1, .int .i64 a] W2 fun e w' => ∃ S, e = .returned (.tuple #[.slice (some ⟨S, 0, none⟩) 1 1, .int .i64 4, .int .i64 0]) ∧ OT w' (some ⟨S, 0, none⟩) 1 (fun _ => 3) (fun _ => wiF exF 1 100 (wantK a b 2)) ∧ Below W2.heap.size W2 w') := Lib.hid (x_ok2 (l := progK a b 2) a rfl hpc W2 hO (pra_up hP h2) (by rw [xr]; rfl) (by rw [xr]; rfl) (fun i hi => by rw [xr]; exact f1_at _ i hi))
          replace hVW := bt hVW h2
          clear hP hO h2 xr
          go_wp2_with fail
          refine X.out.mono ?_
          rintro e W3 ⟨S, rfl, hA, h3⟩
          replace hVW := bt hVW h3
          have cw := kc hVW c1
          have R : Hid (∀ V', Below W3.heap.size W3 V' → LiRel a b w B1 B2 (.int .i64 (3 : Int)) V') := Lib.hid (fun V' h => ⟨3, rfl, by omega, tb_below HT.out (bt hVW h)⟩)
          clear X h3 c1 c2 hVW
          generalize wantK a b 2 = wv at *
          have EX := Lib.hid (fun W => example_any W)
          have WI : Hid (∀ W b, OT W (some ⟨b, 0, none⟩) 1 (fun _ => 3) (fun _ => exF) → Calls Try.prog 22 #[.slice (some ⟨b, 0, none⟩) 1 1, .int .i64 1, .int .i64 100, .int .i64 wv] W fun e w' => ∃ a' c', e = .returned (.slice a' 1 c') ∧ OT w' a' 1 (fun _ => 3) (fun _ => wiF exF 1 100 wv) ∧ Below W.heap.size W w') := Lib.hid (fun W b h => with_any (some ⟨b, 0, none⟩) 1 exF 1 (by decide) 100 wv W h)
          have SA : Hid (∀ W, Below W3.heap.size W3 W → ∀ a' c', OT W a' 1 (fun _ => 3) (fun _ => wiF exF 1 100 wv) → Calls Try.prog 14 #[.slice (some ⟨S, 0, none⟩) 1 1, .slice a' 1 c'] W fun e w' => e = .returned (.bool true) ∧ Below W.heap.size W w') := Lib.hid (fun W h a' c' hq => x_same W (ot_below hA h) hq (fun _ _ => rfl))
          have CW : ∀ W, Below W3.heap.size W3 W → W.cell? ⟨B1, 2, none⟩ = some (.int .i64 wv) := fun _ h => kc h cw
          clear hA cw
          go_upto_region 17 with (fail)
          go_region_held3 (fun w' => Below W3.heap.size W3 w') (first
            | (with_reducible exact bd1 (Below.refl _ _))
            | (with_reducible assumption))
            (first
            | ((with_reducible refine (EX.out _).mono ?_); rintro e w4 ⟨b4, rfl, hO4, h4⟩; have hq4 := bt (w := W3) (by assumption) h4)
            | ((with_reducible refine (WI.out _ _ hO4).mono ?_); rintro e w5 ⟨a5, c5, rfl, hO5, h5⟩; have hq5 := bt (w := W3) (by assumption) h5)
            | ((with_reducible refine (SA.out _ (by assumption) _ _ hO5).mono ?_); rintro e w6 ⟨rfl, h6⟩; have hq6 := bt (w := W3) (by assumption) h6))
          go_wp2_with fail
          exact ⟨R.out _ (by assumption), by simp [intOf]⟩
        · go_upto_region 16 with (fail)
          have hP : PrA (V.alloc (.cells #[.int .i64 1, .int .i64 a, .int .i64 0, .int .i64 1, .int .i64 b, .int .i64 0, .int .i64 (codeK 3), .int .i64 0, .int .i64 0, .int .i64 13, .int .i64 1, .int .i64 0] 45)).heap.size (V.alloc (.cells #[.int .i64 1, .int .i64 a, .int .i64 0, .int .i64 1, .int .i64 b, .int .i64 0, .int .i64 (codeK 3), .int .i64 0, .int .i64 0, .int .i64 13, .int .i64 1, .int .i64 0] 45)) (some ⟨V.heap.size, 0, none⟩) (progK a b 3) := pra_lit V (progK a b 3) 45
          have hVW : Below V.heap.size V (V.alloc (.cells #[.int .i64 1, .int .i64 a, .int .i64 0, .int .i64 1, .int .i64 b, .int .i64 0, .int .i64 (codeK 3), .int .i64 0, .int .i64 0, .int .i64 13, .int .i64 1, .int .i64 0] 45)) := ba (Below.refl _ _) _
          generalize V.alloc (.cells #[.int .i64 1, .int .i64 a, .int .i64 0, .int .i64 1, .int .i64 b, .int .i64 0, .int .i64 (codeK 3), .int .i64 0, .int .i64 0, .int .i64 13, .int .i64 1, .int .i64 0] 45) = W1 at *
          obtain ⟨pa, hpa⟩ : ∃ pa, (some ⟨V.heap.size, 0, none⟩ : Option Addr) = pa := ⟨_, rfl⟩
          rw [hpa] at hP ⊢
          clear hpa
          obtain ⟨pc, hpc', hpc⟩ : ∃ pc, (4 : Nat) = pc ∧ (4 ≤ pc ∧ pc ≤ 9223372036854775807) := ⟨4, rfl, by decide, by decide⟩
          have hVc : ∀ (x : Option Addr), Value.slice x 4 4 = Value.slice x 4 pc := fun x => by rw [← hpc']
          rw [hVc]
          clear hVc hpc'
          go_wp2_with fail
          refine (example_any _).mono ?_
          rintro e W2 ⟨b2, rfl, hO, h2⟩
          have X : Hid (Calls Try.prog 12 #[.slice pa 4 pc, .slice (some ⟨b2, 0, none⟩) 1 1, .int .i64 a] W2 fun e w' => ∃ S, e = .returned (.tuple #[.slice (some ⟨S, 0, none⟩) 1 1, .int .i64 4, .int .i64 0]) ∧ OT w' (some ⟨S, 0, none⟩) 1 (fun _ => 3) (fun _ => wiF exF 1 100 (wantK a b 3)) ∧ Below W2.heap.size W2 w') := Lib.hid (x_ok2 (l := progK a b 3) a rfl hpc W2 hO (pra_up hP h2) (by rw [xr]; rfl) (by rw [xr]; rfl) (fun i hi => by rw [xr]; exact f1_at _ i hi))
          replace hVW := bt hVW h2
          clear hP hO h2 xr
          go_wp2_with fail
          refine X.out.mono ?_
          rintro e W3 ⟨S, rfl, hA, h3⟩
          replace hVW := bt hVW h3
          have cw := kc hVW c1
          have R : Hid (∀ V', Below W3.heap.size W3 V' → LiRel a b w B1 B2 (.int .i64 (4 : Int)) V') := Lib.hid (fun V' h => ⟨4, rfl, by omega, tb_below HT.out (bt hVW h)⟩)
          clear X h3 c1 c2 hVW
          generalize wantK a b 3 = wv at *
          have EX := Lib.hid (fun W => example_any W)
          have WI : Hid (∀ W b, OT W (some ⟨b, 0, none⟩) 1 (fun _ => 3) (fun _ => exF) → Calls Try.prog 22 #[.slice (some ⟨b, 0, none⟩) 1 1, .int .i64 1, .int .i64 100, .int .i64 wv] W fun e w' => ∃ a' c', e = .returned (.slice a' 1 c') ∧ OT w' a' 1 (fun _ => 3) (fun _ => wiF exF 1 100 wv) ∧ Below W.heap.size W w') := Lib.hid (fun W b h => with_any (some ⟨b, 0, none⟩) 1 exF 1 (by decide) 100 wv W h)
          have SA : Hid (∀ W, Below W3.heap.size W3 W → ∀ a' c', OT W a' 1 (fun _ => 3) (fun _ => wiF exF 1 100 wv) → Calls Try.prog 14 #[.slice (some ⟨S, 0, none⟩) 1 1, .slice a' 1 c'] W fun e w' => e = .returned (.bool true) ∧ Below W.heap.size W w') := Lib.hid (fun W h a' c' hq => x_same W (ot_below hA h) hq (fun _ _ => rfl))
          have CW : ∀ W, Below W3.heap.size W3 W → W.cell? ⟨B1, 3, none⟩ = some (.int .i64 wv) := fun _ h => kc h cw
          clear hA cw
          go_upto_region 17 with (fail)
          go_region_held3 (fun w' => Below W3.heap.size W3 w') (first
            | (with_reducible exact bd1 (Below.refl _ _))
            | (with_reducible assumption))
            (first
            | ((with_reducible refine (EX.out _).mono ?_); rintro e w4 ⟨b4, rfl, hO4, h4⟩; have hq4 := bt (w := W3) (by assumption) h4)
            | ((with_reducible refine (WI.out _ _ hO4).mono ?_); rintro e w5 ⟨a5, c5, rfl, hO5, h5⟩; have hq5 := bt (w := W3) (by assumption) h5)
            | ((with_reducible refine (SA.out _ (by assumption) _ _ hO5).mono ?_); rintro e w6 ⟨rfl, h6⟩; have hq6 := bt (w := W3) (by assumption) h6))
          go_wp2_with fail
          exact ⟨R.out _ (by assumption), by simp [intOf]⟩
        · go_upto_if 67 with (fail)
          have hP4 : PrA (V.alloc (.cells #[.int .i64 1, .int .i64 a, .int .i64 0, .int .i64 1, .int .i64 b, .int .i64 0, .int .i64 (codeK 4), .int .i64 0, .int .i64 0, .int .i64 13, .int .i64 1, .int .i64 0] 45)).heap.size (V.alloc (.cells #[.int .i64 1, .int .i64 a, .int .i64 0, .int .i64 1, .int .i64 b, .int .i64 0, .int .i64 (codeK 4), .int .i64 0, .int .i64 0, .int .i64 13, .int .i64 1, .int .i64 0] 45)) (some ⟨V.heap.size, 0, none⟩) [⟨1, a, 0⟩, ⟨1, b, 0⟩, ⟨codeK 4, 0, 0⟩, ⟨13, 1, 0⟩] := pra_lit V [⟨1, a, 0⟩, ⟨1, b, 0⟩, ⟨codeK 4, 0, 0⟩, ⟨13, 1, 0⟩] 45
          have hV1 : Below V.heap.size V (V.alloc (.cells #[.int .i64 1, .int .i64 a, .int .i64 0, .int .i64 1, .int .i64 b, .int .i64 0, .int .i64 (codeK 4), .int .i64 0, .int .i64 0, .int .i64 13, .int .i64 1, .int .i64 0] 45)) := ba (Below.refl _ _) _
          have y0 : (V.alloc (.cells #[.int .i64 1, .int .i64 a, .int .i64 0, .int .i64 1, .int .i64 b, .int .i64 0, .int .i64 (codeK 4), .int .i64 0, .int .i64 0, .int .i64 13, .int .i64 1, .int .i64 0] 45)).cell? ⟨V.heap.size, 0, none⟩ = some (.int .i64 1) := by go_cell
          have y1 : (V.alloc (.cells #[.int .i64 1, .int .i64 a, .int .i64 0, .int .i64 1, .int .i64 b, .int .i64 0, .int .i64 (codeK 4), .int .i64 0, .int .i64 0, .int .i64 13, .int .i64 1, .int .i64 0] 45)).cell? ⟨V.heap.size, 1, none⟩ = some (.int .i64 a) := by go_cell
          have y2 : (V.alloc (.cells #[.int .i64 1, .int .i64 a, .int .i64 0, .int .i64 1, .int .i64 b, .int .i64 0, .int .i64 (codeK 4), .int .i64 0, .int .i64 0, .int .i64 13, .int .i64 1, .int .i64 0] 45)).cell? ⟨V.heap.size, 2, none⟩ = some (.int .i64 0) := by go_cell
          generalize V.alloc (.cells #[.int .i64 1, .int .i64 a, .int .i64 0, .int .i64 1, .int .i64 b, .int .i64 0, .int .i64 (codeK 4), .int .i64 0, .int .i64 0, .int .i64 13, .int .i64 1, .int .i64 0] 45) = W1 at *
          go_cut [12] (fun s12 V' => ∃ pa pc, s12 = .slice pa 3 pc ∧ (3 ≤ pc ∧ pc ≤ 9223372036854775807) ∧ PrA V'.heap.size V' pa (progK a b 4) ∧ Below V.heap.size V V')
          case rest =>
            obtain ⟨pa, pc, rfl, hpc, hP, hVW⟩ := hcut
            clear hP4 hV1 y0 y1 y2
            go_wp2_with fail
            refine (example_any _).mono ?_
            rintro e W2 ⟨b2, rfl, hO, h2⟩
            have X : Hid (Calls Try.prog 12 #[.slice pa 3 pc, .slice (some ⟨b2, 0, none⟩) 1 1, .int .i64 a] W2 fun e w' => ∃ S, e = .returned (.tuple #[.slice (some ⟨S, 0, none⟩) 1 1, .int .i64 3, .int .i64 0]) ∧ OT w' (some ⟨S, 0, none⟩) 1 (fun _ => 3) (fun _ => wiF exF 1 100 (wantK a b 4)) ∧ Below W2.heap.size W2 w') := Lib.hid (x_ok2 (l := progK a b 4) a rfl hpc W2 hO (pra_up hP h2) (by rw [xr]; rfl) (by rw [xr]; rfl) (fun i hi => by rw [xr]; exact f1_at _ i hi))
            replace hVW := bt hVW h2
            clear hP hO h2 xr
            go_wp2_with fail
            refine X.out.mono ?_
            rintro e W3 ⟨S, rfl, hA, h3⟩
            replace hVW := bt hVW h3
            have cw := kc hVW c1
            have R : Hid (∀ V', Below W3.heap.size W3 V' → LiRel a b w B1 B2 (.int .i64 (5 : Int)) V') := Lib.hid (fun V' h => ⟨5, rfl, by omega, tb_below HT.out (bt hVW h)⟩)
            clear X h3 c1 c2 hVW
            generalize wantK a b 4 = wv at *
            have EX := Lib.hid (fun W => example_any W)
            have WI : Hid (∀ W b, OT W (some ⟨b, 0, none⟩) 1 (fun _ => 3) (fun _ => exF) → Calls Try.prog 22 #[.slice (some ⟨b, 0, none⟩) 1 1, .int .i64 1, .int .i64 100, .int .i64 wv] W fun e w' => ∃ a' c', e = .returned (.slice a' 1 c') ∧ OT w' a' 1 (fun _ => 3) (fun _ => wiF exF 1 100 wv) ∧ Below W.heap.size W w') := Lib.hid (fun W b h => with_any (some ⟨b, 0, none⟩) 1 exF 1 (by decide) 100 wv W h)
            have SA : Hid (∀ W, Below W3.heap.size W3 W → ∀ a' c', OT W a' 1 (fun _ => 3) (fun _ => wiF exF 1 100 wv) → Calls Try.prog 14 #[.slice (some ⟨S, 0, none⟩) 1 1, .slice a' 1 c'] W fun e w' => e = .returned (.bool true) ∧ Below W.heap.size W w') := Lib.hid (fun W h a' c' hq => x_same W (ot_below hA h) hq (fun _ _ => rfl))
            have CW : ∀ W, Below W3.heap.size W3 W → W.cell? ⟨B1, 4, none⟩ = some (.int .i64 wv) := fun _ h => kc h cw
            clear hA cw
            go_upto_region 17 with (fail)
            go_region_held3 (fun w' => Below W3.heap.size W3 w') (first
              | (with_reducible exact bd1 (Below.refl _ _))
              | (with_reducible assumption))
              (first
              | ((with_reducible refine (EX.out _).mono ?_); rintro e w4 ⟨b4, rfl, hO4, h4⟩; have hq4 := bt (w := W3) (by assumption) h4)
              | ((with_reducible refine (WI.out _ _ hO4).mono ?_); rintro e w5 ⟨a5, c5, rfl, hO5, h5⟩; have hq5 := bt (w := W3) (by assumption) h5)
              | ((with_reducible refine (SA.out _ (by assumption) _ _ hO5).mono ?_); rintro e w6 ⟨rfl, h6⟩; have hq6 := bt (w := W3) (by assumption) h6))
            go_wp2_with fail
            exact ⟨R.out _ (by assumption), by simp [intOf]⟩
          case first =>
            have Y0 : ∀ W, Below W1.heap.size W1 W → W.cell? ⟨V.heap.size, 0, none⟩ = some (.int .i64 1) := fun _ h => kc h y0
            have Y1 : ∀ W, Below W1.heap.size W1 W → W.cell? ⟨V.heap.size, 1, none⟩ = some (.int .i64 a) := fun _ h => kc h y1
            have Y2 : ∀ W, Below W1.heap.size W1 W → W.cell? ⟨V.heap.size, 2, none⟩ = some (.int .i64 0) := fun _ h => kc h y2
            have hcs : Hid ((#[.int .i64 1, .int .i64 a, .int .i64 0] : Array Value) = (opCells [⟨1, a, 0⟩]).toArray) := Lib.hid rfl
            have hbV := block_lt_of_cell y0
            simp only at hbV
            go_upto_region 13 with (fail)
            refine wp_region_held_drew (S := fun w' => Below W1.heap.size W1 w') (by kernel_rfl) (bd1 (Below.refl _ _)) (fun hHeld => ?_)
            refine wpAnyH_take (i := 1) (v := ?_) rfl (by kernel_rfl) (by kernel_rfl) (by kernel_rfl) (fun _ _ _ h => h) (Or.inl ⟨by rfl, ?_⟩) (by assumption) ?_
            rotate_left
            · intro w hSw; (try dsimp only at hSw); go_simp; try with_reducible rfl
            try simp only [Act.put, List.getElem_toArray, List.getElem_cons_zero, List.getElem_cons_succ, List.setIfInBounds_toArray, List.set_cons_zero, List.set_cons_succ]
            refine wpAnyH_take (i := 2) (v := ?_) rfl (by kernel_rfl) (by kernel_rfl) (by kernel_rfl) (fun _ _ _ h => h) (Or.inl ⟨by rfl, ?_⟩) (by assumption) ?_
            rotate_left
            · intro w hSw; (try dsimp only at hSw); go_simp; try with_reducible rfl
            try simp only [Act.put, List.getElem_toArray, List.getElem_cons_zero, List.getElem_cons_succ, List.setIfInBounds_toArray, List.set_cons_zero, List.set_cons_succ]
            refine wpAnyH_take (i := 3) (v := ?_) rfl (by kernel_rfl) (by kernel_rfl) (by kernel_rfl) (fun _ _ _ h => h) (Or.inl ⟨by rfl, ?_⟩) (by assumption) ?_
            rotate_left
            · intro w hSw; (try dsimp only at hSw); go_simp; try with_reducible rfl
            try simp only [Act.put, List.getElem_toArray, List.getElem_cons_zero, List.getElem_cons_succ, List.setIfInBounds_toArray, List.set_cons_zero, List.set_cons_succ]
            refine wpAnyH_take (i := 6) (v := ?_) rfl (by kernel_rfl) (by kernel_rfl) (by kernel_rfl) (fun _ _ _ h => h) (Or.inl ⟨by rfl, ?_⟩) (by assumption) ?_
            rotate_left
            · intro w hSw; (try dsimp only at hSw); go_simp; try with_reducible rfl
            try simp only [Act.put, List.getElem_toArray, List.getElem_cons_zero, List.getElem_cons_succ, List.setIfInBounds_toArray, List.set_cons_zero, List.set_cons_succ]
            refine wpAnyH_take (i := 7) (v := ?_) rfl (by kernel_rfl) (by kernel_rfl) (by kernel_rfl) (fun _ _ _ h => h) (Or.inl ⟨by rfl, ?_⟩) (by assumption) ?_
            rotate_left
            · intro w hSw; (try dsimp only at hSw); go_simp; try with_reducible rfl
            try simp only [Act.put, List.getElem_toArray, List.getElem_cons_zero, List.getElem_cons_succ, List.setIfInBounds_toArray, List.set_cons_zero, List.set_cons_succ]
            refine wpAnyH_ready (rs := [0, 4]) (by kernel_rfl) (by simp) ?_
            refine AllReadyH.cons rfl (fun K hK => ?_) (AllReadyH.cons rfl (fun K hK => ?_) AllReadyH.nil)
            · go_simp
              try dsimp only
              refine hK.out _ _ (ba hHeld _) (fun hHeld => ?_)
              clear hK K
              try simp only [Act.put, List.getElem_toArray, List.getElem_cons_zero, List.getElem_cons_succ, List.setIfInBounds_toArray, List.set_cons_zero, List.set_cons_succ]
              first | (with_reducible have hE := own_e1 hHeld (by simp) (World.size_alloc W1 _)) | (with_reducible have hE := own_e1 hHeld (by simp) (Eq.refl W1.heap.size))
              try (replace hL := pra_c hL hHeld)
              refine wpAnyH_ready (rs := [4]) (by kernel_rfl) (by simp) ?_
              refine AllReadyH.cons rfl (fun K hK => ?_) AllReadyH.nil
              go_simp
              try dsimp only
              refine hK.out _ _ (ba hHeld _) (fun hHeld => ?_)
              clear hK K
              try simp only [Act.put, List.getElem_toArray, List.getElem_cons_zero, List.getElem_cons_succ, List.setIfInBounds_toArray, List.set_cons_zero, List.set_cons_succ]
              first | (with_reducible have hL := pra_l1 [⟨1, a, 0⟩] hHeld hcs.out (World.size_alloc W1 _)) | (with_reducible have hL := pra_l1 [⟨1, a, 0⟩] hHeld hcs.out (Eq.refl W1.heap.size))
              try (replace hE := own_c hE hHeld)
              refine wpAnyH_ready (rs := [5]) (by kernel_rfl) (by simp) ?_
              refine AllReadyH.cons rfl (fun K hK => ?_) AllReadyH.nil
              refine (if_pos (by kernel_rfl)).mpr ?_
              obtain ⟨v5, w5, hr5, ho5, hg5⟩ := run_ops W1.heap.size 27 (l := []) (l2 := [⟨1, a, 0⟩]) (n := 0) (m := 1) 1 rfl rfl hE hL (by omega) (by omega) hHeld.size
              refine wp_val_of (app_ex rfl rfl rfl hr5) ?_
              refine hK.out _ _ (gBo hHeld hg5 (fun q e => (hE.lt q e).1)) (fun hHeld => ?_)
              clear hK K
              try simp only [Act.put, List.getElem_toArray, List.getElem_cons_zero, List.getElem_cons_succ, List.setIfInBounds_toArray, List.set_cons_zero, List.set_cons_succ]
              refine wpAnyH_ready (rs := [8]) (by kernel_rfl) (by simp) ?_
              refine AllReadyH.cons rfl (fun K hK => ?_) AllReadyH.nil
              refine (if_pos (by kernel_rfl)).mpr ?_
              obtain ⟨v8, w8, hr8, ho8, hg8⟩ := run_ops W1.heap.size 27 (l := [] ++ [⟨1, a, 0⟩]) (l2 := [⟨codeK 4, 0, 0⟩, ⟨13, 1, 0⟩]) (n := 1) (m := 2) 2 rfl rfl ho5 (pra_up (pra_drop hP4 2) hHeld) (by omega) (by omega) hHeld.size
              refine wp_val_of (app_ex rfl rfl rfl hr8) ?_
              refine hK.out _ _ (gBo hHeld hg8 (fun q e => (ho5.lt q e).1)) (fun hHeld => ?_)
              clear hK K
              try simp only [Act.put, List.getElem_toArray, List.getElem_cons_zero, List.getElem_cons_succ, List.setIfInBounds_toArray, List.set_cons_zero, List.set_cons_succ]
              refine wpAnyH_take (i := 9) (v := ?_) rfl (by kernel_rfl) (by kernel_rfl) (by kernel_rfl) (fun _ _ _ h => h) (Or.inl ⟨by rfl, ?_⟩) (by assumption) ?_
              rotate_left
              · intro w hSw; (try dsimp only at hSw); go_simp; try with_reducible rfl
              try simp only [Act.put, List.getElem_toArray, List.getElem_cons_zero, List.getElem_cons_succ, List.setIfInBounds_toArray, List.set_cons_zero, List.set_cons_succ]
              refine wpAnyH_done (by kernel_rfl) ?_ _
              obtain ⟨pa, pc, rfl, hpc1, hpc2, hpr⟩ := own_pra (n := 3) rfl ho8
              go_step
              go_step
              go_meet
              exact ⟨pa, pc, rfl, ⟨hpc1, hpc2⟩, hpr, bt hV1 hHeld⟩
            · go_simp
              try dsimp only
              refine hK.out _ _ (ba hHeld _) (fun hHeld => ?_)
              clear hK K
              try simp only [Act.put, List.getElem_toArray, List.getElem_cons_zero, List.getElem_cons_succ, List.setIfInBounds_toArray, List.set_cons_zero, List.set_cons_succ]
              first | (with_reducible have hL := pra_l1 [⟨1, a, 0⟩] hHeld hcs.out (World.size_alloc W1 _)) | (with_reducible have hL := pra_l1 [⟨1, a, 0⟩] hHeld hcs.out (Eq.refl W1.heap.size))
              try (replace hE := own_c hE hHeld)
              refine wpAnyH_ready (rs := [0]) (by kernel_rfl) (by simp) ?_
              refine AllReadyH.cons rfl (fun K hK => ?_) AllReadyH.nil
              go_simp
              try dsimp only
              refine hK.out _ _ (ba hHeld _) (fun hHeld => ?_)
              clear hK K
              try simp only [Act.put, List.getElem_toArray, List.getElem_cons_zero, List.getElem_cons_succ, List.setIfInBounds_toArray, List.set_cons_zero, List.set_cons_succ]
              first | (with_reducible have hE := own_e1 hHeld (by simp) (World.size_alloc W1 _)) | (with_reducible have hE := own_e1 hHeld (by simp) (Eq.refl W1.heap.size))
              try (replace hL := pra_c hL hHeld)
              refine wpAnyH_ready (rs := [5]) (by kernel_rfl) (by simp) ?_
              refine AllReadyH.cons rfl (fun K hK => ?_) AllReadyH.nil
              refine (if_pos (by kernel_rfl)).mpr ?_
              obtain ⟨v5, w5, hr5, ho5, hg5⟩ := run_ops W1.heap.size 27 (l := []) (l2 := [⟨1, a, 0⟩]) (n := 0) (m := 1) 1 rfl rfl hE hL (by omega) (by omega) hHeld.size
              refine wp_val_of (app_ex rfl rfl rfl hr5) ?_
              refine hK.out _ _ (gBo hHeld hg5 (fun q e => (hE.lt q e).1)) (fun hHeld => ?_)
              clear hK K
              try simp only [Act.put, List.getElem_toArray, List.getElem_cons_zero, List.getElem_cons_succ, List.setIfInBounds_toArray, List.set_cons_zero, List.set_cons_succ]
              refine wpAnyH_ready (rs := [8]) (by kernel_rfl) (by simp) ?_
              refine AllReadyH.cons rfl (fun K hK => ?_) AllReadyH.nil
              refine (if_pos (by kernel_rfl)).mpr ?_
              obtain ⟨v8, w8, hr8, ho8, hg8⟩ := run_ops W1.heap.size 27 (l := [] ++ [⟨1, a, 0⟩]) (l2 := [⟨codeK 4, 0, 0⟩, ⟨13, 1, 0⟩]) (n := 1) (m := 2) 2 rfl rfl ho5 (pra_up (pra_drop hP4 2) hHeld) (by omega) (by omega) hHeld.size
              refine wp_val_of (app_ex rfl rfl rfl hr8) ?_
              refine hK.out _ _ (gBo hHeld hg8 (fun q e => (ho5.lt q e).1)) (fun hHeld => ?_)
              clear hK K
              try simp only [Act.put, List.getElem_toArray, List.getElem_cons_zero, List.getElem_cons_succ, List.setIfInBounds_toArray, List.set_cons_zero, List.set_cons_succ]
              refine wpAnyH_take (i := 9) (v := ?_) rfl (by kernel_rfl) (by kernel_rfl) (by kernel_rfl) (fun _ _ _ h => h) (Or.inl ⟨by rfl, ?_⟩) (by assumption) ?_
              rotate_left
              · intro w hSw; (try dsimp only at hSw); go_simp; try with_reducible rfl
              try simp only [Act.put, List.getElem_toArray, List.getElem_cons_zero, List.getElem_cons_succ, List.setIfInBounds_toArray, List.set_cons_zero, List.set_cons_succ]
              refine wpAnyH_done (by kernel_rfl) ?_ _
              obtain ⟨pa, pc, rfl, hpc1, hpc2, hpr⟩ := own_pra (n := 3) rfl ho8
              go_step
              go_step
              go_meet
              exact ⟨pa, pc, rfl, ⟨hpc1, hpc2⟩, hpr, bt hV1 hHeld⟩
        · go_upto_if 67 with (fail)
          have hP4 : PrA (V.alloc (.cells #[.int .i64 1, .int .i64 a, .int .i64 0, .int .i64 1, .int .i64 b, .int .i64 0, .int .i64 (codeK 5), .int .i64 0, .int .i64 0, .int .i64 13, .int .i64 1, .int .i64 0] 45)).heap.size (V.alloc (.cells #[.int .i64 1, .int .i64 a, .int .i64 0, .int .i64 1, .int .i64 b, .int .i64 0, .int .i64 (codeK 5), .int .i64 0, .int .i64 0, .int .i64 13, .int .i64 1, .int .i64 0] 45)) (some ⟨V.heap.size, 0, none⟩) [⟨1, a, 0⟩, ⟨1, b, 0⟩, ⟨codeK 5, 0, 0⟩, ⟨13, 1, 0⟩] := pra_lit V [⟨1, a, 0⟩, ⟨1, b, 0⟩, ⟨codeK 5, 0, 0⟩, ⟨13, 1, 0⟩] 45
          have hV1 : Below V.heap.size V (V.alloc (.cells #[.int .i64 1, .int .i64 a, .int .i64 0, .int .i64 1, .int .i64 b, .int .i64 0, .int .i64 (codeK 5), .int .i64 0, .int .i64 0, .int .i64 13, .int .i64 1, .int .i64 0] 45)) := ba (Below.refl _ _) _
          have y0 : (V.alloc (.cells #[.int .i64 1, .int .i64 a, .int .i64 0, .int .i64 1, .int .i64 b, .int .i64 0, .int .i64 (codeK 5), .int .i64 0, .int .i64 0, .int .i64 13, .int .i64 1, .int .i64 0] 45)).cell? ⟨V.heap.size, 0, none⟩ = some (.int .i64 1) := by go_cell
          have y1 : (V.alloc (.cells #[.int .i64 1, .int .i64 a, .int .i64 0, .int .i64 1, .int .i64 b, .int .i64 0, .int .i64 (codeK 5), .int .i64 0, .int .i64 0, .int .i64 13, .int .i64 1, .int .i64 0] 45)).cell? ⟨V.heap.size, 1, none⟩ = some (.int .i64 a) := by go_cell
          have y2 : (V.alloc (.cells #[.int .i64 1, .int .i64 a, .int .i64 0, .int .i64 1, .int .i64 b, .int .i64 0, .int .i64 (codeK 5), .int .i64 0, .int .i64 0, .int .i64 13, .int .i64 1, .int .i64 0] 45)).cell? ⟨V.heap.size, 2, none⟩ = some (.int .i64 0) := by go_cell
          generalize V.alloc (.cells #[.int .i64 1, .int .i64 a, .int .i64 0, .int .i64 1, .int .i64 b, .int .i64 0, .int .i64 (codeK 5), .int .i64 0, .int .i64 0, .int .i64 13, .int .i64 1, .int .i64 0] 45) = W1 at *
          go_cut [12] (fun s12 V' => ∃ pa pc, s12 = .slice pa 3 pc ∧ (3 ≤ pc ∧ pc ≤ 9223372036854775807) ∧ PrA V'.heap.size V' pa (progK a b 5) ∧ Below V.heap.size V V')
          case rest =>
            obtain ⟨pa, pc, rfl, hpc, hP, hVW⟩ := hcut
            clear hP4 hV1 y0 y1 y2
            go_wp2_with fail
            refine (example_any _).mono ?_
            rintro e W2 ⟨b2, rfl, hO, h2⟩
            have X : Hid (Calls Try.prog 12 #[.slice pa 3 pc, .slice (some ⟨b2, 0, none⟩) 1 1, .int .i64 a] W2 fun e w' => ∃ S, e = .returned (.tuple #[.slice (some ⟨S, 0, none⟩) 1 1, .int .i64 3, .int .i64 0]) ∧ OT w' (some ⟨S, 0, none⟩) 1 (fun _ => 3) (fun _ => wiF exF 1 100 (wantK a b 5)) ∧ Below W2.heap.size W2 w') := Lib.hid (x_ok2 (l := progK a b 5) a rfl hpc W2 hO (pra_up hP h2) (by rw [xr]; rfl) (by rw [xr]; rfl) (fun i hi => by rw [xr]; exact f1_at _ i hi))
            replace hVW := bt hVW h2
            clear hP hO h2 xr
            go_wp2_with fail
            refine X.out.mono ?_
            rintro e W3 ⟨S, rfl, hA, h3⟩
            replace hVW := bt hVW h3
            have cw := kc hVW c1
            have R : Hid (∀ V', Below W3.heap.size W3 V' → LiRel a b w B1 B2 (.int .i64 (6 : Int)) V') := Lib.hid (fun V' h => ⟨6, rfl, by omega, tb_below HT.out (bt hVW h)⟩)
            clear X h3 c1 c2 hVW
            generalize wantK a b 5 = wv at *
            have EX := Lib.hid (fun W => example_any W)
            have WI : Hid (∀ W b, OT W (some ⟨b, 0, none⟩) 1 (fun _ => 3) (fun _ => exF) → Calls Try.prog 22 #[.slice (some ⟨b, 0, none⟩) 1 1, .int .i64 1, .int .i64 100, .int .i64 wv] W fun e w' => ∃ a' c', e = .returned (.slice a' 1 c') ∧ OT w' a' 1 (fun _ => 3) (fun _ => wiF exF 1 100 wv) ∧ Below W.heap.size W w') := Lib.hid (fun W b h => with_any (some ⟨b, 0, none⟩) 1 exF 1 (by decide) 100 wv W h)
            have SA : Hid (∀ W, Below W3.heap.size W3 W → ∀ a' c', OT W a' 1 (fun _ => 3) (fun _ => wiF exF 1 100 wv) → Calls Try.prog 14 #[.slice (some ⟨S, 0, none⟩) 1 1, .slice a' 1 c'] W fun e w' => e = .returned (.bool true) ∧ Below W.heap.size W w') := Lib.hid (fun W h a' c' hq => x_same W (ot_below hA h) hq (fun _ _ => rfl))
            have CW : ∀ W, Below W3.heap.size W3 W → W.cell? ⟨B1, 5, none⟩ = some (.int .i64 wv) := fun _ h => kc h cw
            clear hA cw
            go_upto_region 17 with (fail)
            go_region_held3 (fun w' => Below W3.heap.size W3 w') (first
              | (with_reducible exact bd1 (Below.refl _ _))
              | (with_reducible assumption))
              (first
              | ((with_reducible refine (EX.out _).mono ?_); rintro e w4 ⟨b4, rfl, hO4, h4⟩; have hq4 := bt (w := W3) (by assumption) h4)
              | ((with_reducible refine (WI.out _ _ hO4).mono ?_); rintro e w5 ⟨a5, c5, rfl, hO5, h5⟩; have hq5 := bt (w := W3) (by assumption) h5)
              | ((with_reducible refine (SA.out _ (by assumption) _ _ hO5).mono ?_); rintro e w6 ⟨rfl, h6⟩; have hq6 := bt (w := W3) (by assumption) h6))
            go_wp2_with fail
            exact ⟨R.out _ (by assumption), by simp [intOf]⟩
          case first =>
            have Y0 : ∀ W, Below W1.heap.size W1 W → W.cell? ⟨V.heap.size, 0, none⟩ = some (.int .i64 1) := fun _ h => kc h y0
            have Y1 : ∀ W, Below W1.heap.size W1 W → W.cell? ⟨V.heap.size, 1, none⟩ = some (.int .i64 a) := fun _ h => kc h y1
            have Y2 : ∀ W, Below W1.heap.size W1 W → W.cell? ⟨V.heap.size, 2, none⟩ = some (.int .i64 0) := fun _ h => kc h y2
            have hcs : Hid ((#[.int .i64 1, .int .i64 a, .int .i64 0] : Array Value) = (opCells [⟨1, a, 0⟩]).toArray) := Lib.hid rfl
            have hbV := block_lt_of_cell y0
            simp only at hbV
            go_upto_region 13 with (fail)
            refine wp_region_held_drew (S := fun w' => Below W1.heap.size W1 w') (by kernel_rfl) (bd1 (Below.refl _ _)) (fun hHeld => ?_)
            refine wpAnyH_take (i := 1) (v := ?_) rfl (by kernel_rfl) (by kernel_rfl) (by kernel_rfl) (fun _ _ _ h => h) (Or.inl ⟨by rfl, ?_⟩) (by assumption) ?_
            rotate_left
            · intro w hSw; (try dsimp only at hSw); go_simp; try with_reducible rfl
            try simp only [Act.put, List.getElem_toArray, List.getElem_cons_zero, List.getElem_cons_succ, List.setIfInBounds_toArray, List.set_cons_zero, List.set_cons_succ]
            refine wpAnyH_take (i := 2) (v := ?_) rfl (by kernel_rfl) (by kernel_rfl) (by kernel_rfl) (fun _ _ _ h => h) (Or.inl ⟨by rfl, ?_⟩) (by assumption) ?_
            rotate_left
            · intro w hSw; (try dsimp only at hSw); go_simp; try with_reducible rfl
            try simp only [Act.put, List.getElem_toArray, List.getElem_cons_zero, List.getElem_cons_succ, List.setIfInBounds_toArray, List.set_cons_zero, List.set_cons_succ]
            refine wpAnyH_take (i := 3) (v := ?_) rfl (by kernel_rfl) (by kernel_rfl) (by kernel_rfl) (fun _ _ _ h => h) (Or.inl ⟨by rfl, ?_⟩) (by assumption) ?_
            rotate_left
            · intro w hSw; (try dsimp only at hSw); go_simp; try with_reducible rfl
            try simp only [Act.put, List.getElem_toArray, List.getElem_cons_zero, List.getElem_cons_succ, List.setIfInBounds_toArray, List.set_cons_zero, List.set_cons_succ]
            refine wpAnyH_take (i := 6) (v := ?_) rfl (by kernel_rfl) (by kernel_rfl) (by kernel_rfl) (fun _ _ _ h => h) (Or.inl ⟨by rfl, ?_⟩) (by assumption) ?_
            rotate_left
            · intro w hSw; (try dsimp only at hSw); go_simp; try with_reducible rfl
            try simp only [Act.put, List.getElem_toArray, List.getElem_cons_zero, List.getElem_cons_succ, List.setIfInBounds_toArray, List.set_cons_zero, List.set_cons_succ]
            refine wpAnyH_take (i := 7) (v := ?_) rfl (by kernel_rfl) (by kernel_rfl) (by kernel_rfl) (fun _ _ _ h => h) (Or.inl ⟨by rfl, ?_⟩) (by assumption) ?_
            rotate_left
            · intro w hSw; (try dsimp only at hSw); go_simp; try with_reducible rfl
            try simp only [Act.put, List.getElem_toArray, List.getElem_cons_zero, List.getElem_cons_succ, List.setIfInBounds_toArray, List.set_cons_zero, List.set_cons_succ]
            refine wpAnyH_ready (rs := [0, 4]) (by kernel_rfl) (by simp) ?_
            refine AllReadyH.cons rfl (fun K hK => ?_) (AllReadyH.cons rfl (fun K hK => ?_) AllReadyH.nil)
            · go_simp
              try dsimp only
              refine hK.out _ _ (ba hHeld _) (fun hHeld => ?_)
              clear hK K
              try simp only [Act.put, List.getElem_toArray, List.getElem_cons_zero, List.getElem_cons_succ, List.setIfInBounds_toArray, List.set_cons_zero, List.set_cons_succ]
              first | (with_reducible have hE := own_e1 hHeld (by simp) (World.size_alloc W1 _)) | (with_reducible have hE := own_e1 hHeld (by simp) (Eq.refl W1.heap.size))
              try (replace hL := pra_c hL hHeld)
              refine wpAnyH_ready (rs := [4]) (by kernel_rfl) (by simp) ?_
              refine AllReadyH.cons rfl (fun K hK => ?_) AllReadyH.nil
              go_simp
              try dsimp only
              refine hK.out _ _ (ba hHeld _) (fun hHeld => ?_)
              clear hK K
              try simp only [Act.put, List.getElem_toArray, List.getElem_cons_zero, List.getElem_cons_succ, List.setIfInBounds_toArray, List.set_cons_zero, List.set_cons_succ]
              first | (with_reducible have hL := pra_l1 [⟨1, a, 0⟩] hHeld hcs.out (World.size_alloc W1 _)) | (with_reducible have hL := pra_l1 [⟨1, a, 0⟩] hHeld hcs.out (Eq.refl W1.heap.size))
              try (replace hE := own_c hE hHeld)
              refine wpAnyH_ready (rs := [5]) (by kernel_rfl) (by simp) ?_
              refine AllReadyH.cons rfl (fun K hK => ?_) AllReadyH.nil
              refine (if_pos (by kernel_rfl)).mpr ?_
              obtain ⟨v5, w5, hr5, ho5, hg5⟩ := run_ops W1.heap.size 27 (l := []) (l2 := [⟨1, a, 0⟩]) (n := 0) (m := 1) 1 rfl rfl hE hL (by omega) (by omega) hHeld.size
              refine wp_val_of (app_ex rfl rfl rfl hr5) ?_
              refine hK.out _ _ (gBo hHeld hg5 (fun q e => (hE.lt q e).1)) (fun hHeld => ?_)
              clear hK K
              try simp only [Act.put, List.getElem_toArray, List.getElem_cons_zero, List.getElem_cons_succ, List.setIfInBounds_toArray, List.set_cons_zero, List.set_cons_succ]
              refine wpAnyH_ready (rs := [8]) (by kernel_rfl) (by simp) ?_
              refine AllReadyH.cons rfl (fun K hK => ?_) AllReadyH.nil
              refine (if_pos (by kernel_rfl)).mpr ?_
              obtain ⟨v8, w8, hr8, ho8, hg8⟩ := run_ops W1.heap.size 27 (l := [] ++ [⟨1, a, 0⟩]) (l2 := [⟨codeK 5, 0, 0⟩, ⟨13, 1, 0⟩]) (n := 1) (m := 2) 2 rfl rfl ho5 (pra_up (pra_drop hP4 2) hHeld) (by omega) (by omega) hHeld.size
              refine wp_val_of (app_ex rfl rfl rfl hr8) ?_
              refine hK.out _ _ (gBo hHeld hg8 (fun q e => (ho5.lt q e).1)) (fun hHeld => ?_)
              clear hK K
              try simp only [Act.put, List.getElem_toArray, List.getElem_cons_zero, List.getElem_cons_succ, List.setIfInBounds_toArray, List.set_cons_zero, List.set_cons_succ]
              refine wpAnyH_take (i := 9) (v := ?_) rfl (by kernel_rfl) (by kernel_rfl) (by kernel_rfl) (fun _ _ _ h => h) (Or.inl ⟨by rfl, ?_⟩) (by assumption) ?_
              rotate_left
              · intro w hSw; (try dsimp only at hSw); go_simp; try with_reducible rfl
              try simp only [Act.put, List.getElem_toArray, List.getElem_cons_zero, List.getElem_cons_succ, List.setIfInBounds_toArray, List.set_cons_zero, List.set_cons_succ]
              refine wpAnyH_done (by kernel_rfl) ?_ _
              obtain ⟨pa, pc, rfl, hpc1, hpc2, hpr⟩ := own_pra (n := 3) rfl ho8
              go_step
              go_step
              go_meet
              exact ⟨pa, pc, rfl, ⟨hpc1, hpc2⟩, hpr, bt hV1 hHeld⟩
            · go_simp
              try dsimp only
              refine hK.out _ _ (ba hHeld _) (fun hHeld => ?_)
              clear hK K
              try simp only [Act.put, List.getElem_toArray, List.getElem_cons_zero, List.getElem_cons_succ, List.setIfInBounds_toArray, List.set_cons_zero, List.set_cons_succ]
              first | (with_reducible have hL := pra_l1 [⟨1, a, 0⟩] hHeld hcs.out (World.size_alloc W1 _)) | (with_reducible have hL := pra_l1 [⟨1, a, 0⟩] hHeld hcs.out (Eq.refl W1.heap.size))
              try (replace hE := own_c hE hHeld)
              refine wpAnyH_ready (rs := [0]) (by kernel_rfl) (by simp) ?_
              refine AllReadyH.cons rfl (fun K hK => ?_) AllReadyH.nil
              go_simp
              try dsimp only
              refine hK.out _ _ (ba hHeld _) (fun hHeld => ?_)
              clear hK K
              try simp only [Act.put, List.getElem_toArray, List.getElem_cons_zero, List.getElem_cons_succ, List.setIfInBounds_toArray, List.set_cons_zero, List.set_cons_succ]
              first | (with_reducible have hE := own_e1 hHeld (by simp) (World.size_alloc W1 _)) | (with_reducible have hE := own_e1 hHeld (by simp) (Eq.refl W1.heap.size))
              try (replace hL := pra_c hL hHeld)
              refine wpAnyH_ready (rs := [5]) (by kernel_rfl) (by simp) ?_
              refine AllReadyH.cons rfl (fun K hK => ?_) AllReadyH.nil
              refine (if_pos (by kernel_rfl)).mpr ?_
              obtain ⟨v5, w5, hr5, ho5, hg5⟩ := run_ops W1.heap.size 27 (l := []) (l2 := [⟨1, a, 0⟩]) (n := 0) (m := 1) 1 rfl rfl hE hL (by omega) (by omega) hHeld.size
              refine wp_val_of (app_ex rfl rfl rfl hr5) ?_
              refine hK.out _ _ (gBo hHeld hg5 (fun q e => (hE.lt q e).1)) (fun hHeld => ?_)
              clear hK K
              try simp only [Act.put, List.getElem_toArray, List.getElem_cons_zero, List.getElem_cons_succ, List.setIfInBounds_toArray, List.set_cons_zero, List.set_cons_succ]
              refine wpAnyH_ready (rs := [8]) (by kernel_rfl) (by simp) ?_
              refine AllReadyH.cons rfl (fun K hK => ?_) AllReadyH.nil
              refine (if_pos (by kernel_rfl)).mpr ?_
              obtain ⟨v8, w8, hr8, ho8, hg8⟩ := run_ops W1.heap.size 27 (l := [] ++ [⟨1, a, 0⟩]) (l2 := [⟨codeK 5, 0, 0⟩, ⟨13, 1, 0⟩]) (n := 1) (m := 2) 2 rfl rfl ho5 (pra_up (pra_drop hP4 2) hHeld) (by omega) (by omega) hHeld.size
              refine wp_val_of (app_ex rfl rfl rfl hr8) ?_
              refine hK.out _ _ (gBo hHeld hg8 (fun q e => (ho5.lt q e).1)) (fun hHeld => ?_)
              clear hK K
              try simp only [Act.put, List.getElem_toArray, List.getElem_cons_zero, List.getElem_cons_succ, List.setIfInBounds_toArray, List.set_cons_zero, List.set_cons_succ]
              refine wpAnyH_take (i := 9) (v := ?_) rfl (by kernel_rfl) (by kernel_rfl) (by kernel_rfl) (fun _ _ _ h => h) (Or.inl ⟨by rfl, ?_⟩) (by assumption) ?_
              rotate_left
              · intro w hSw; (try dsimp only at hSw); go_simp; try with_reducible rfl
              try simp only [Act.put, List.getElem_toArray, List.getElem_cons_zero, List.getElem_cons_succ, List.setIfInBounds_toArray, List.set_cons_zero, List.set_cons_succ]
              refine wpAnyH_done (by kernel_rfl) ?_ _
              obtain ⟨pa, pc, rfl, hpc1, hpc2, hpr⟩ := own_pra (n := 3) rfl ho8
              go_step
              go_step
              go_meet
              exact ⟨pa, pc, rfl, ⟨hpc1, hpc2⟩, hpr, bt hV1 hHeld⟩
        · go_upto_region 15 with (fail)
          have hP4 : PrA (V.alloc (.cells #[.int .i64 1, .int .i64 a, .int .i64 0, .int .i64 1, .int .i64 b, .int .i64 0, .int .i64 (codeK 6), .int .i64 0, .int .i64 0, .int .i64 13, .int .i64 1, .int .i64 0] 45)).heap.size (V.alloc (.cells #[.int .i64 1, .int .i64 a, .int .i64 0, .int .i64 1, .int .i64 b, .int .i64 0, .int .i64 (codeK 6), .int .i64 0, .int .i64 0, .int .i64 13, .int .i64 1, .int .i64 0] 45)) (some ⟨V.heap.size, 0, none⟩) [⟨1, a, 0⟩, ⟨1, b, 0⟩, ⟨codeK 6, 0, 0⟩, ⟨13, 1, 0⟩] := pra_lit V [⟨1, a, 0⟩, ⟨1, b, 0⟩, ⟨codeK 6, 0, 0⟩, ⟨13, 1, 0⟩] 45
          have hV1 : Below V.heap.size V (V.alloc (.cells #[.int .i64 1, .int .i64 a, .int .i64 0, .int .i64 1, .int .i64 b, .int .i64 0, .int .i64 (codeK 6), .int .i64 0, .int .i64 0, .int .i64 13, .int .i64 1, .int .i64 0] 45)) := ba (Below.refl _ _) _
          generalize V.alloc (.cells #[.int .i64 1, .int .i64 a, .int .i64 0, .int .i64 1, .int .i64 b, .int .i64 0, .int .i64 (codeK 6), .int .i64 0, .int .i64 0, .int .i64 13, .int .i64 1, .int .i64 0] 45) = W1 at *
          have hE := own_e W1 (Nat.le_refl W1.heap.size)
          have hD : PrA (W1.alloc (.cells #[] 45)).heap.size (W1.alloc (.cells #[] 45)) (some ⟨V.heap.size, 6, none⟩) [⟨codeK 6, 0, 0⟩, ⟨13, 1, 0⟩] := pra_up (pra_drop hP4 2) (ba (Below.refl _ _) _)
          go_upto_region 16 with (at_builtin; refine wpList_ops (l := []) (l2 := [⟨codeK 6, 0, 0⟩, ⟨13, 1, 0⟩]) (n := 0) (m := 2) W1.heap.size rfl _ _ rfl rfl rfl rfl rfl hE hD (by omega) (by omega) (ba (Below.refl W1.heap.size W1) _).size ?_; intro v' W' ho5 hg5)
          obtain ⟨pa, pc, rfl, hpc1, hpc2, hP⟩ := own_pra (l := progK a b 6) (n := 2) rfl ho5
          have hpc := And.intro hpc1 hpc2
          have hVW := gBo (bt hV1 (ba (Below.refl _ _) _)) hg5 (fun q e => Nat.le_trans hV1.size (hE.lt q e).1)
          clear hpc1 hpc2 ho5 hg5 hE hD hP4 hV1
          go_wp2_with fail
          refine (example_any _).mono ?_
          rintro e W2 ⟨b2, rfl, hO, h2⟩
          have X : Hid (Calls Try.prog 12 #[.slice pa 2 pc, .slice (some ⟨b2, 0, none⟩) 1 1, .int .i64 a] W2 fun e w' => ∃ S, e = .returned (.tuple #[.slice (some ⟨S, 0, none⟩) 1 1, .int .i64 2, .int .i64 0]) ∧ OT w' (some ⟨S, 0, none⟩) 1 (fun _ => 3) (fun _ => wiF exF 1 100 (wantK a b 6)) ∧ Below W2.heap.size W2 w') := Lib.hid (x_ok2 (l := progK a b 6) a rfl hpc W2 hO (pra_up hP h2) (by rw [xr]; rfl) (by rw [xr]; rfl) (fun i hi => by rw [xr]; exact f1_at _ i hi))
          replace hVW := bt hVW h2
          clear hP hO h2 xr
          go_wp2_with fail
          refine X.out.mono ?_
          rintro e W3 ⟨S, rfl, hA, h3⟩
          replace hVW := bt hVW h3
          have cw := kc hVW c1
          have R : Hid (∀ V', Below W3.heap.size W3 V' → LiRel a b w B1 B2 (.int .i64 (7 : Int)) V') := Lib.hid (fun V' h => ⟨7, rfl, by omega, tb_below HT.out (bt hVW h)⟩)
          clear X h3 c1 c2 hVW
          generalize wantK a b 6 = wv at *
          have EX := Lib.hid (fun W => example_any W)
          have WI : Hid (∀ W b, OT W (some ⟨b, 0, none⟩) 1 (fun _ => 3) (fun _ => exF) → Calls Try.prog 22 #[.slice (some ⟨b, 0, none⟩) 1 1, .int .i64 1, .int .i64 100, .int .i64 wv] W fun e w' => ∃ a' c', e = .returned (.slice a' 1 c') ∧ OT w' a' 1 (fun _ => 3) (fun _ => wiF exF 1 100 wv) ∧ Below W.heap.size W w') := Lib.hid (fun W b h => with_any (some ⟨b, 0, none⟩) 1 exF 1 (by decide) 100 wv W h)
          have SA : Hid (∀ W, Below W3.heap.size W3 W → ∀ a' c', OT W a' 1 (fun _ => 3) (fun _ => wiF exF 1 100 wv) → Calls Try.prog 14 #[.slice (some ⟨S, 0, none⟩) 1 1, .slice a' 1 c'] W fun e w' => e = .returned (.bool true) ∧ Below W.heap.size W w') := Lib.hid (fun W h a' c' hq => x_same W (ot_below hA h) hq (fun _ _ => rfl))
          have CW : ∀ W, Below W3.heap.size W3 W → W.cell? ⟨B1, 6, none⟩ = some (.int .i64 wv) := fun _ h => kc h cw
          clear hA cw
          go_upto_region 17 with (fail)
          go_region_held3 (fun w' => Below W3.heap.size W3 w') (first
            | (with_reducible exact bd1 (Below.refl _ _))
            | (with_reducible assumption))
            (first
            | ((with_reducible refine (EX.out _).mono ?_); rintro e w4 ⟨b4, rfl, hO4, h4⟩; have hq4 := bt (w := W3) (by assumption) h4)
            | ((with_reducible refine (WI.out _ _ hO4).mono ?_); rintro e w5 ⟨a5, c5, rfl, hO5, h5⟩; have hq5 := bt (w := W3) (by assumption) h5)
            | ((with_reducible refine (SA.out _ (by assumption) _ _ hO5).mono ?_); rintro e w6 ⟨rfl, h6⟩; have hq6 := bt (w := W3) (by assumption) h6))
          go_wp2_with fail
          exact ⟨R.out _ (by assumption), by simp [intOf]⟩
end Go.Proofs.Ytdgagjcocohnnaa.Mc
