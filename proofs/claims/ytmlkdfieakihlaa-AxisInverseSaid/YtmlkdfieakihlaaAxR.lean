/-
  Layer 5 (axis): AxisInverse walked.
-/
import Derived.Test.YtmlkdfieakihlaaAxP
import Derived.Test.YtmlkdfieakihlaaAxQ
namespace Go.Proofs.Ytmlkdfieakihlaa.Ax
open Go.RowKit
theorem w_ck {l u h : Int} (h1 : -1000 ≤ l) (h2 : l ≤ u) (h3 : u ≤ h) (h4 : h ≤ 1000) : ck1 ⟨⟨#[119]⟩, l, u, h⟩ = 0 := by
  unfold ck1 ckOne
  rw [show tagOk (⟨#[119]⟩ : ByteArray) = true by decide +kernel]
  have e1 : ranA ⟨⟨#[119]⟩, l, u, h⟩ = true := by
    unfold ranA
    simp only [Bool.and_eq_true, inU_iff]
    omega
  have e2 : ordA ⟨⟨#[119]⟩, l, u, h⟩ = true := by
    unfold ordA
    simp only [Bool.and_eq_true, decide_eq_true_eq]
    omega
  rw [e1, e2]
  rfl
set_option maxRecDepth 100000 in
set_option maxHeartbeats 4000000 in
theorem Inverse_any (a b c d : Int) (ha : 0 ≤ a ∧ a ≤ 65535) (hb : 0 ≤ b ∧ b ≤ 255) (hc : 0 ≤ c ∧ c ≤ 255) (hd : -32768 ≤ d ∧ d ≤ 32767) (w : World) :
    Calls Try.prog 6 #[.int .u16 a, .int .u8 b, .int .u8 c, .int .i16 d] w fun e w' => e = .returned (.bool true) ∧ Below w.heap.size w w' := by
  have SN := Lib.hid sanity_any
  have ck := w_ck (l := a % 500 - b % 65) (u := a % 500) (h := a % 500 + c % 65) (by omega) (by omega) (by omega) (by omega)
  have cw := w_ck (l := a % 500 - 64 - b) (u := a % 500) (h := a % 500 + 64 + c) (by omega) (by omega) (by omega) (by omega)
  obtain ⟨p, hp⟩ : ∃ p, max (a % 500 - b % 65) (min (wrap64 (a % 500 + d.tmod 70)) (a % 500 + c % 65)) = p := ⟨_, rfl⟩
  have hpr : a % 500 - b % 65 ≤ p ∧ p ≤ a % 500 + c % 65 := by rw [← hp]; omega
  have hn : -64 ≤ d.tmod 65 ∧ d.tmod 65 ≤ 64 := by
    have h1 : (d.tmod 65).natAbs < 65 := by rw [Int.natAbs_tmod]; exact Nat.mod_lt _ (by omega)
    omega
  have I1 := inv_narrow ck (by simp only; omega) (by simp only; omega) (p := p) hpr
  have I2 := inv_wide cw (by simp only; omega) (by simp only; omega) hn
  have NA := Lib.hid (fun (W : World) (b' c' : Nat) (h0 : W.cell? ⟨b', 0, none⟩ = some (.string ⟨#[119]⟩)) (h1 : W.cell? ⟨b', 1, none⟩ = some (.int .i64 (a % 500 - b % 65))) (h2 : W.cell? ⟨b', 2, none⟩ = some (.int .i64 (a % 500))) (h3 : W.cell? ⟨b', 3, none⟩ = some (.int .i64 (a % 500 + c % 65))) (h4 : W.cell? ⟨c', 0, none⟩ = some (.int .i64 p)) => x_norm ⟨⟨#[119]⟩, a % 500 - b % 65, a % 500, a % 500 + c % 65⟩ p ck W b' c' ⟨h0, h1, h2, h3⟩ h4)
  have UA := Lib.hid (fun w => User_any ⟨⟨#[119]⟩, a % 500 - b % 65, a % 500, a % 500 + c % 65⟩ (nm ⟨⟨#[119]⟩, a % 500 - b % 65, a % 500, a % 500 + c % 65⟩ p) w)
  rw [I1] at UA
  have UB := Lib.hid (fun w => User_any ⟨⟨#[119]⟩, a % 500 - 64 - b, a % 500, a % 500 + 64 + c⟩ (d.tmod 65) w)
  have NB := Lib.hid (fun (W : World) (b' c' : Nat) (h0 : W.cell? ⟨b', 0, none⟩ = some (.string ⟨#[119]⟩)) (h1 : W.cell? ⟨b', 1, none⟩ = some (.int .i64 (a % 500 - 64 - b))) (h2 : W.cell? ⟨b', 2, none⟩ = some (.int .i64 (a % 500))) (h3 : W.cell? ⟨b', 3, none⟩ = some (.int .i64 (a % 500 + 64 + c))) (h4 : W.cell? ⟨c', 0, none⟩ = some (.int .i64 (us ⟨⟨#[119]⟩, a % 500 - 64 - b, a % 500, a % 500 + 64 + c⟩ (d.tmod 65)))) => x_norm ⟨⟨#[119]⟩, a % 500 - 64 - b, a % 500, a % 500 + 64 + c⟩ _ cw W b' c' ⟨h0, h1, h2, h3⟩ h4)
  rw [I2] at NB
  generalize nm ⟨⟨#[119]⟩, a % 500 - b % 65, a % 500, a % 500 + c % 65⟩ p = pn at *
  generalize us ⟨⟨#[119]⟩, a % 500 - 64 - b, a % 500, a % 500 + 64 + c⟩ (d.tmod 65) = un at *
  unfold axV at UA UB
  simp only at UA UB
  clear I1 I2 ck cw
  go_enter Try.func6, Try.ntmps6
  go_wp2_with fail
  refine (SN.out _).mono ?_
  rintro e V0 ⟨rfl, hB⟩
  go_upto_region 6 with (fail)
  have A0 := bxa_below (bxa_new V0 ⟨⟨#[119]⟩, a % 500 - b % 65, a % 500, a % 500 + c % 65⟩ 29) (ba (Below.refl _ _) (.cells #[.string ⟨#[119]⟩, .int .i64 (a % 500 - 64 - b), .int .i64 (a % 500), .int .i64 (a % 500 + 64 + c)] 29))
  have B0 := bxa_new (V0.alloc (.cells #[.string ⟨#[119]⟩, .int .i64 (a % 500 - b % 65), .int .i64 (a % 500), .int .i64 (a % 500 + c % 65)] 29)) ⟨⟨#[119]⟩, a % 500 - 64 - b, a % 500, a % 500 + 64 + c⟩ 29
  have hB1 := ba (ba (Below.refl _ V0) (.cells #[.string ⟨#[119]⟩, .int .i64 (a % 500 - b % 65), .int .i64 (a % 500), .int .i64 (a % 500 + c % 65)] 29)) (.cells #[.string ⟨#[119]⟩, .int .i64 (a % 500 - 64 - b), .int .i64 (a % 500), .int .i64 (a % 500 + 64 + c)] 29)
  simp only [World.size_alloc] at B0
  replace hB := bt hB hB1
  clear hB1
  generalize hl1 : a % 500 - b % 65 = l1 at *
  generalize hh1 : a % 500 + c % 65 = h1 at *
  generalize hl2 : a % 500 - 64 - b = l2 at *
  generalize hh2 : a % 500 + 64 + c = h2 at *
  generalize (V0.alloc (.cells #[.string ⟨#[119]⟩, .int .i64 l1, .int .i64 (a % 500), .int .i64 h1] 29)).alloc (.cells #[.string ⟨#[119]⟩, .int .i64 l2, .int .i64 (a % 500), .int .i64 h2] 29) = V1 at *
  generalize hS1 : V0.heap.size + 1 = S1 at *
  generalize hS0 : V0.heap.size = S0 at *
  clear hl1 hh1 hl2 hh2 hp hS1 hS0
  obtain ⟨x0, x1, x2, x3⟩ := id A0
  obtain ⟨y0, y1, y2, y3⟩ := id B0
  simp only at x0 x1 x2 x3 y0 y1 y2 y3
  go_wp2_with fail
  refine (NA.out _ _ _ (by go_cell) (by go_cell) (by go_cell) (by go_cell) (by go_cell)).mono ?_
  rintro e V2 ⟨S2, rfl, hc2, hb2⟩
  replace hb2 := bt (ba (ba (Below.refl _ _) _) _) hb2
  replace A0 := bxa_below A0 hb2
  replace B0 := bxa_below B0 hb2
  replace hB := bt hB hb2
  clear x0 x1 x2 x3 y0 y1 y2 y3 hb2
  go_upto_region 8 with (fail)
  have Y0 : ∀ V', Below V2.heap.size V2 V' → V'.cell? ⟨S1, 0, none⟩ = some (.string ⟨#[119]⟩) := fun _ h => (bxa_below B0 h).1
  have Y1 : ∀ V', Below V2.heap.size V2 V' → V'.cell? ⟨S1, 1, none⟩ = some (.int .i64 l2) := fun _ h => (bxa_below B0 h).2.1
  have Y2 : ∀ V', Below V2.heap.size V2 V' → V'.cell? ⟨S1, 2, none⟩ = some (.int .i64 (a % 500)) := fun _ h => (bxa_below B0 h).2.2.1
  have Y3 : ∀ V', Below V2.heap.size V2 V' → V'.cell? ⟨S1, 3, none⟩ = some (.int .i64 h2) := fun _ h => (bxa_below B0 h).2.2.2
  go_region_held3 (fun w' => Below V2.heap.size V2 w') (first
    | (with_reducible exact bd1 (Below.refl _ _))
    | (with_reducible exact bd1 (ba (Below.refl _ _) _))
    | (with_reducible exact bd1 (ba (ba (Below.refl _ _) _) _))
    | (with_reducible exact ba (by assumption) _)
    | (with_reducible exact bt (by assumption) hba))
    (first
    | ((with_reducible refine (UB.out _).mono ?_); rintro en wa ⟨rfl, hba⟩; have hbu := hba)
    | ((with_reducible refine (NB.out _ _ _ (by first | go_cell | exact kc (ba (Below.refl _ wa) _) (Nat.lt_of_lt_of_le (by simp) hbu.size) (kc hbu (by simp) (by go_cell))) (by first | go_cell | exact kc (ba (Below.refl _ wa) _) (Nat.lt_of_lt_of_le (by simp) hbu.size) (kc hbu (by simp) (by go_cell))) (by first | go_cell | exact kc (ba (Below.refl _ wa) _) (Nat.lt_of_lt_of_le (by simp) hbu.size) (kc hbu (by simp) (by go_cell))) (by first | go_cell | exact kc (ba (Below.refl _ wa) _) (Nat.lt_of_lt_of_le (by simp) hbu.size) (kc hbu (by simp) (by go_cell))) (by go_cell)).mono ?_); rintro en wb ⟨S3, rfl, hc3, hba⟩))
  all_goals
    have hb8 : Below V2.heap.size V2 wb := by with_reducible assumption
    have hc4 := kc hb8 (block_lt_of_cell hc2) hc2
    replace A0 := bxa_below A0 hb8
    replace hB := bt hB hb8
    clear hb8 Y0 Y1 Y2 Y3 B0
    go_upto_region 11 with (fail)
    have Z0 : ∀ V', Below wb.heap.size wb V' → V'.cell? ⟨S0, 0, none⟩ = some (.string ⟨#[119]⟩) := fun _ h => (bxa_below A0 h).1
    have Z1 : ∀ V', Below wb.heap.size wb V' → V'.cell? ⟨S0, 1, none⟩ = some (.int .i64 l1) := fun _ h => (bxa_below A0 h).2.1
    have Z2 : ∀ V', Below wb.heap.size wb V' → V'.cell? ⟨S0, 2, none⟩ = some (.int .i64 (a % 500)) := fun _ h => (bxa_below A0 h).2.2.1
    have Z3 : ∀ V', Below wb.heap.size wb V' → V'.cell? ⟨S0, 3, none⟩ = some (.int .i64 h1) := fun _ h => (bxa_below A0 h).2.2.2
    have Z4 : ∀ V', Below wb.heap.size wb V' → V'.cell? ⟨S2, 0, none⟩ = some (.int .i64 pn) := fun _ h => kc h (block_lt_of_cell hc4) hc4
    have Z5 : ∀ V', Below wb.heap.size wb V' → V'.cell? ⟨S3, 0, none⟩ = some (.int .i64 (d.tmod 65)) := fun _ h => kc h (block_lt_of_cell hc3) hc3
    go_region_held3 (fun w' => Below wb.heap.size wb w') (first
      | (with_reducible exact bd1 (Below.refl _ _))
      | (with_reducible exact bt (by assumption) hbz))
      (first
      | ((with_reducible refine (UA.out _).mono ?_); rintro en wz ⟨rfl, hbz⟩))
    go_wp2
    go_ret
    exact ⟨by simp, bt hB (by with_reducible assumption)⟩
end Go.Proofs.Ytmlkdfieakihlaa.Ax
