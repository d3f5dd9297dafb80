/-
  Layer 7 (raster): Cover of both sides.
-/
import Derived.Test.YtjeiapgniflnaaaRsC
import Derived.Test.YtjeiapgniflnaaaRsD
namespace Go.Proofs.Ytjeiapgniflnaaa.Rs
open Go.RowKit
open Go.Proofs.Ytjeiapgniflnaaa.Ot
def isU (u : Int) : Bool := decide (4 ≤ u) && decide (u ≤ 1073741824) && decide (u % 4 = 0)
theorem isU_iff (u : Int) : isU u = true ↔ 4 ≤ u ∧ u ≤ 1073741824 ∧ u % 4 = 0 := by unfold isU; simp [and_assoc]
theorem mod4 (u : Int) (h : 4 ≤ u) : u.tmod 4 = u % 4 ∧ (u.tmod 4 == 0) = decide (u % 4 = 0) ∧ (u % 4 == 0) = decide (u % 4 = 0) := by
  have e : u.tmod 4 = u % 4 := Int.tmod_eq_emod_of_nonneg (by omega)
  refine ⟨e, ?_, ?_⟩
  · rw [e]
    by_cases h : u % 4 = 0
    · rw [h]; rfl
    · rw [decide_eq_false h]; exact beq_eq_false_iff_ne.2 h
  · by_cases h : u % 4 = 0
    · rw [h]; rfl
    · rw [decide_eq_false h]; exact beq_eq_false_iff_ne.2 h
set_option maxHeartbeats 2000000 in
theorem isUnit_any (u : Int) (w : World) :
    Calls Try.prog 34 #[.int .i64 u] w fun e w' => e = .returned (.bool (isU u)) ∧ w = w' := by
  unfold isU
  rcases h1 : decide (4 ≤ u) with _ | _
  · go_enter Try.func34, Try.ntmps34
    go_wp2
    go_ret
    exact ⟨rfl, rfl⟩
  · rcases h2 : decide (u ≤ 1073741824) with _ | _
    · go_enter Try.func34, Try.ntmps34
      go_wp2
      go_ret
      exact ⟨rfl, rfl⟩
    · obtain ⟨m1, m2, m3⟩ := mod4 u (of_decide_eq_true h1)
      generalize decide (u % 4 = 0) = r at *
      go_enter Try.func34, Try.ntmps34
      go_wp2
      go_ret
      exact ⟨by first | rfl | (rw [m2]; rfl) | (rw [m3]; rfl) | simp_all, rfl⟩
set_option maxHeartbeats 2000000 in
theorem valid_any (u : Int) (w : World) :
    Calls Try.prog 36 #[.int .i64 u] w fun e w' => e = .returned (.bool (isU u)) ∧ w = w' := by
  unfold isU
  rcases h1 : decide (4 ≤ u) with _ | _
  · go_enter Try.func36, Try.ntmps36
    go_wp2
    go_ret
    exact ⟨rfl, rfl⟩
  · rcases h2 : decide (u ≤ 1073741824) with _ | _
    · go_enter Try.func36, Try.ntmps36
      go_wp2
      go_ret
      exact ⟨rfl, rfl⟩
    · obtain ⟨m1, m2, m3⟩ := mod4 u (of_decide_eq_true h1)
      generalize decide (u % 4 = 0) = r at *
      go_enter Try.func36, Try.ntmps36
      go_wp2
      go_ret
      exact ⟨by first | rfl | (rw [m2]; rfl) | (rw [m3]; rfl) | simp_all, rfl⟩
/-- The coordinate of a sample. -/
def sm (u x i : Int) : Int := u * x + u / 4 + i * (u / 2)
theorem smp_eq (u x i : Int) (hu : u % 4 = 0) : (u / 4) * (2 * (2 * x + i) + 1) = sm u x i := by
  unfold sm
  obtain ⟨v, rfl⟩ : ∃ v, u = 4 * v := ⟨u / 4, by omega⟩
  have e1 : 4 * v / 4 = v := by omega
  have e2 : 4 * v / 2 = 2 * v := by omega
  rw [e1, e2]
  grind
theorem prod2 {a b : Int} {A B : Nat} (ha : -(A : Int) ≤ a ∧ a ≤ A) (hb : -(B : Int) ≤ b ∧ b ≤ B) : -((A * B : Nat) : Int) ≤ a * b ∧ a * b ≤ (A * B : Nat) := by
  have h : (a * b).natAbs ≤ A * B := by rw [Int.natAbs_mul]; exact Nat.mul_le_mul (by omega) (by omega)
  omega
theorem smp_in {u k : Int} (hu : 4 ≤ u ∧ u ≤ 1073741824) (hk : -4294967296 ≤ k ∧ k ≤ 4294967296) : -4611686018427387904 ≤ u / 4 * (2 * k + 1) ∧ u / 4 * (2 * k + 1) ≤ 4611686018427387904 := by
  have h := prod2 (a := u / 4) (b := 2 * k + 1) (A := 268435456) (B := 8589934593) (by omega) (by omega)
  omega
set_option maxRecDepth 100000 in
theorem sample_any (u k : Int) (hu : 4 ≤ u ∧ u ≤ 1073741824) (hk : -4294967296 ≤ k ∧ k ≤ 4294967296) (w : World) :
    Calls Try.prog 35 #[.int .i64 k, .int .i64 u] w fun e w' => e = .returned (.int .i64 (u / 4 * (2 * k + 1))) ∧ w = w' := by
  have h := smp_in hu hk
  have e1 : u.tdiv 4 = u / 4 := Int.tdiv_eq_ediv_of_nonneg (by omega)
  have e2 : IntKind.i64.wrap (u / 4) = u / 4 := IntWalk.i64_in _ (by omega)
  have e3 : wrap64 (2 * k) = 2 * k := w_id (by omega)
  have e4 : wrap64 (2 * k + 1) = 2 * k + 1 := w_id (by omega)
  have e5 : wrap64 (u / 4 * (2 * k + 1)) = u / 4 * (2 * k + 1) := w_id (by omega)
  have e6 : wrap64 (u / 4) = u / 4 := w_id (by omega)
  go_enter Try.func35, Try.ntmps35
  go_wp2_with fail
  go_ret
  exact ⟨by first | rfl | (rw [e5]; rfl), rfl⟩
def bit (n : Int) : Nat := if n = 0 then 0 else 1
/-- How many of the first samples are inside. -/
def cq (N : Nat) (ns : Nat → Nat) (g : Nat → Nat → Pt) (u x y : Int) : Nat → Nat
  | 0 => 0
  | m + 1 => cq N ns g u x y m + bit (wdg N ns g (sm u x ((m % 2 : Nat) : Int)) (sm u y ((m / 2 : Nat) : Int)))
theorem cq_le (N : Nat) (ns : Nat → Nat) (g : Nat → Nat → Pt) (u x y : Int) : ∀ m, cq N ns g u x y m ≤ m
  | 0 => Nat.le_refl _
  | m + 1 => by
    have := cq_le N ns g u x y m
    unfold cq bit
    split <;> omega
def cvr (N : Nat) (ns : Nat → Nat) (g : Nat → Nat → Pt) (u x y : Int) : Nat := if (isU u && inR x && inR y) = true then cq N ns g u x y 4 else 0
def CoO (w : World) (C : Nat → Nat) (s9 s25 : Value) (V : World) : Prop := ∃ j : Nat, s25 = .int .i64 j ∧ j ≤ 2 ∧ s9 = .int .i64 (C (2 * j) : Nat) ∧ Below w.heap.size w V
def CoI (w : World) (C : Nat → Nat) (j : Nat) (s9 s28 : Value) (V : World) : Prop := ∃ i : Nat, s28 = .int .i64 i ∧ i ≤ 2 ∧ s9 = .int .i64 (C (2 * j + i) : Nat) ∧ Below w.heap.size w V
def CoR (w : World) (C : Nat → Nat) (s9 s10 : Value) (V : World) : Prop := ∃ k : Nat, s10 = .int .i64 k ∧ k ≤ 4 ∧ s9 = .int .i64 (C k : Nat) ∧ Below w.heap.size w V
theorem cq_step (N : Nat) (ns : Nat → Nat) (g : Nat → Nat → Pt) (u x y : Int) {j i : Nat} (hi : i < 2) : cq N ns g u x y (2 * j + i + 1) = cq N ns g u x y (2 * j + i) + bit (wdg N ns g (sm u x (i : Int)) (sm u y (j : Int))) := by
  rw [cq, show (2 * j + i) % 2 = i by omega, show (2 * j + i) / 2 = j by omega]
theorem xs_in {x : Int} (h : inR x = true) {i : Nat} (hi : i < 2) : wrap64 (2 * x) = 2 * x ∧ wrap64 (2 * x + i) = 2 * x + i ∧ -4294967296 ≤ 2 * x + i ∧ 2 * x + i ≤ 4294967296 := by
  obtain ⟨h1, h2⟩ := (inR_iff _).1 h
  exact ⟨w_id (by omega), w_id (by omega), by omega, by omega⟩
theorem cn_up {m : Nat} (h : m ≤ 10) : wrap64 ((m : Int) + 1) = (m : Int) + 1 := w_id (by omega)
theorem ij2 {i : Nat} (h : i < 2) : (i : Int) < 2 := by omega
set_option maxRecDepth 100000 in
set_option maxHeartbeats 16000000 in
theorem Cover_in (a : Option Addr) (N c : Nat) (ns : Nat → Nat) (g : Nat → Nat → Pt) (u x y : Int) (hu : isU u = true) (hx : inR x = true) (hy : inR y = true) (hN : N ≤ 1000000) (hs : pre ns N ≤ 1000000) (w : World) (hA : OT w a N ns g) :
    Calls Try.prog 15 #[.slice a N c, .int .i64 u, .int .i64 x, .int .i64 y] w fun e w' => e = .returned (.int .i64 (cq N ns g u x y 4 : Nat)) ∧ Below w.heap.size w w' := by
  have IU := Lib.hid (fun w => isUnit_any u w)
  have IX := Lib.hid (fun w => isInRange_any x w)
  have IY := Lib.hid (fun w => isInRange_any y w)
  rw [hu] at IU
  rw [hx] at IX
  rw [hy] at IY
  obtain ⟨u1, u2, u3⟩ := (isU_iff u).1 hu
  have SM : Hid (∀ x : Int, inR x = true → ∀ i : Nat, i < 2 → ∀ w, Calls Try.prog 35 #[.int .i64 (2 * x + i), .int .i64 u] w fun e w' => e = .returned (.int .i64 (sm u x i)) ∧ w = w') := Lib.hid (fun x hx i hi w => by
    have h := (xs_in hx hi).2.2
    rw [← smp_eq u x i u3]
    exact sample_any u _ ⟨u1, u2⟩ h w)
  have WD := Lib.hid (fun X Y V hb => Winding_any a N c ns g X Y hN hs V (ot_below hA hb))
  have HX := Lib.hid hx
  have HY := Lib.hid hy
  clear hx hy hA hu u1 u2 u3
  have CS := Lib.hid (fun j i hi => cq_step N ns g u x y (j := j) (i := i) hi)
  have CL := Lib.hid (cq_le N ns g u x y)
  generalize cq N ns g u x y = C at *
  have hC0 : Hid (C 0 = 0) := Lib.hid (Nat.le_zero.1 (CL.out 0))
  go_enter Try.func15, Try.ntmps15
  go_wp2_with (first | (with_reducible refine (IU.out _).mono ?_; rintro e w3 ⟨rfl, rfl⟩) | (with_reducible refine (IX.out _).mono ?_; rintro e w3 ⟨rfl, rfl⟩) | (with_reducible refine (IY.out _).mono ?_; rintro e w3 ⟨rfl, rfl⟩))
  go_loopw [9, 25] (fun s9 s25 V => CoO w C s9 s25 V) (fun _ s25 _ => 2 - (intOf s25).toNat)
  case atStart => exact ⟨0, rfl, by omega, by rw [hC0.out]; rfl, Below.refl _ _⟩
  case round =>
    obtain ⟨j, rfl, hj, rfl, hB⟩ := hrel
    rename World => V
    rcases Nat.lt_or_ge j 2 with hj2 | hj2
    · have j3 := ij2 hj2
      obtain ⟨y1, y2, y3⟩ := xs_in HY.out hj2
      have SY := Lib.hid (SM.out y HY.out j hj2)
      have HJ : Hid (∀ V', Below w.heap.size w V' → CoO w C (.int .i64 (C (2 * j + 2) : Nat)) (.int .i64 ((j : Int) + 1)) V') := Lib.hid (fun V' hb => ⟨j + 1, rfl, hj2, rfl, hb⟩)
      have hj3 := Lib.hid hj2
      clear hj hj2
      go_wp2_with fail
      go_loopw [9, 28] (fun s9 s28 V => CoI w C j s9 s28 V) (fun _ s28 _ => 2 - (intOf s28).toNat)
      case atStart => exact ⟨0, rfl, by omega, rfl, hB⟩
      case round =>
        clear hB
        obtain ⟨i, rfl, hi, rfl, hB⟩ := hrel
        rename World => W
        rcases Nat.lt_or_ge i 2 with hi2 | hi2
        · have i3 := ij2 hi2
          obtain ⟨x1, x2, x3⟩ := xs_in HX.out hi2
          have SX := Lib.hid (SM.out x HX.out i hi2)
          have WX := Lib.hid (WD.out (sm u x i) (sm u y j) W hB)
          have hst := CS.out j i hi2
          have hle := CL.out (2 * j + i)
          have hup := cn_up (m := C (2 * j + i)) (by have := hj3.out; omega)
          have RR : Hid (∀ V' v, C (2 * j + i + 1) = v → Below W.heap.size W V' → CoI w C j (.int .i64 (v : Nat)) (.int .i64 ((i : Int) + 1)) V') := Lib.hid (fun V' v h hb => ⟨i + 1, rfl, hi2, by rw [← h]; rfl, bt hB hb⟩)
          have hlt := ltn hi2
          have hle2 := Lib.hid hle
          clear hi hi2 hle
          generalize C (2 * j + i + 1) = c1 at *
          generalize C (2 * j + i) = c0 at *
          generalize sm u x i = sx at *
          generalize sm u y j = sy at *
          unfold bit at hst
          by_cases h0 : wdg N ns g sx sy = 0
          · rw [if_pos h0] at hst
            rw [h0] at WX
            have R := Lib.hid (fun V' => RR.out V' _ hst)
            clear RR hst h0
            go_wp2_with (first | (with_reducible refine (SX.out _).mono ?_; rintro e w3 ⟨rfl, rfl⟩) | (with_reducible refine (SY.out _).mono ?_; rintro e w3 ⟨rfl, rfl⟩) | (with_reducible refine (WX.out).mono ?_; rintro e w4 ⟨rfl, hb⟩))
            exact ⟨R.out _ hb, hlt⟩
          · rw [if_neg h0] at hst
            have hq : (wdg N ns g sx sy != 0) = true := bne_iff_ne.2 h0
            have R := Lib.hid (fun V' => RR.out V' _ hst)
            clear RR hst
            generalize wdg N ns g sx sy = z at *
            go_wp2_with (first | (with_reducible refine (SX.out _).mono ?_; rintro e w3 ⟨rfl, rfl⟩) | (with_reducible refine (SY.out _).mono ?_; rintro e w3 ⟨rfl, rfl⟩) | (with_reducible refine (WX.out).mono ?_; rintro e w4 ⟨rfl, hb⟩))
            exact ⟨by rw [hup]; exact R.out _ hb, hlt⟩
        · obtain rfl : i = 2 := by omega
          have R := Lib.hid (HJ.out _ hB)
          have hlt := ltn hj3.out
          go_wp2_with fail
          exact ⟨R.out, hlt⟩
    · obtain rfl : j = 2 := by omega
      go_wp2
      go_ret
      exact ⟨rfl, hB⟩
set_option maxHeartbeats 4000000 in
theorem Cover_any (a : Option Addr) (N c : Nat) (ns : Nat → Nat) (g : Nat → Nat → Pt) (u x y : Int) (hN : N ≤ 1000000) (hs : pre ns N ≤ 1000000) (w : World) (hA : OT w a N ns g) :
    Calls Try.prog 15 #[.slice a N c, .int .i64 u, .int .i64 x, .int .i64 y] w fun e w' => e = .returned (.int .i64 (cvr N ns g u x y : Nat)) ∧ Below w.heap.size w w' := by
  have IU := Lib.hid (fun w => isUnit_any u w)
  have IX := Lib.hid (fun w => isInRange_any x w)
  have IY := Lib.hid (fun w => isInRange_any y w)
  unfold cvr
  rcases hu : isU u with _ | _
  · rw [hu] at IU
    rw [if_neg (by simp)]
    clear hA
    go_enter Try.func15, Try.ntmps15
    go_wp2_with (with_reducible refine (IU.out _).mono ?_; rintro e w3 ⟨rfl, rfl⟩)
    go_ret
    exact ⟨rfl, Below.refl _ _⟩
  rcases hx : inR x with _ | _
  · rw [hu] at IU
    rw [hx] at IX
    rw [if_neg (by simp)]
    clear hA
    go_enter Try.func15, Try.ntmps15
    go_wp2_with (first | (with_reducible refine (IU.out _).mono ?_; rintro e w3 ⟨rfl, rfl⟩) | (with_reducible refine (IX.out _).mono ?_; rintro e w3 ⟨rfl, rfl⟩))
    go_ret
    exact ⟨rfl, Below.refl _ _⟩
  rcases hy : inR y with _ | _
  · rw [hu] at IU
    rw [hx] at IX
    rw [hy] at IY
    rw [if_neg (by simp)]
    clear hA
    go_enter Try.func15, Try.ntmps15
    go_wp2_with (first | (with_reducible refine (IU.out _).mono ?_; rintro e w3 ⟨rfl, rfl⟩) | (with_reducible refine (IX.out _).mono ?_; rintro e w3 ⟨rfl, rfl⟩) | (with_reducible refine (IY.out _).mono ?_; rintro e w3 ⟨rfl, rfl⟩))
    go_ret
    exact ⟨rfl, Below.refl _ _⟩
  · rw [if_pos (by simp)]
    exact Cover_in a N c ns g u x y hu hx hy hN hs w hA
theorem rs_in {u x : Int} (hu : 4 ≤ u ∧ u ≤ 1073741824) (hx : inR x = true) {i : Int} (hi : 0 ≤ i ∧ i ≤ 1) :
    wrap64 (u * x) = u * x ∧ wrap64 (u * x + u / 4) = u * x + u / 4 ∧ wrap64 (i * (u / 2)) = i * (u / 2) ∧ wrap64 (u * x + u / 4 + i * (u / 2)) = u * x + u / 4 + i * (u / 2) := by
  obtain ⟨h1, h2⟩ := (inR_iff _).1 hx
  have k := prod2 (a := u) (b := x) (A := 1073741824) (B := 1073741824) (by omega) (by omega)
  have k2 := prod2 (a := i) (b := u / 2) (A := 1) (B := 1073741824) (by omega) (by omega)
  exact ⟨w_id (by omega), w_id (by omega), w_id (by omega), w_id (by omega)⟩
theorem rs_div {u : Int} (hu : 4 ≤ u ∧ u ≤ 1073741824) : u.tdiv 4 = u / 4 ∧ u.tdiv 2 = u / 2 ∧ IntKind.i64.wrap (u / 4) = u / 4 ∧ IntKind.i64.wrap (u / 2) = u / 2 ∧ wrap64 (u / 4) = u / 4 ∧ wrap64 (u / 2) = u / 2 :=
  ⟨Int.tdiv_eq_ediv_of_nonneg (by omega), Int.tdiv_eq_ediv_of_nonneg (by omega), IntWalk.i64_in _ (by omega), IntWalk.i64_in _ (by omega), w_id (by omega), w_id (by omega)⟩
theorem k4 {k : Nat} (h : k < 4) : (k : Int) < 4 := by omega
theorem km {k : Nat} : (k : Int).tmod 2 = ((k % 2 : Nat) : Int) ∧ (k : Int) % 2 = ((k % 2 : Nat) : Int) ∧ (k : Int).tdiv 2 = ((k / 2 : Nat) : Int) ∧ (k : Int) / 2 = ((k / 2 : Nat) : Int) ∧ IntKind.i64.wrap (((k % 2 : Nat) : Int)) = ((k % 2 : Nat) : Int) ∧ (k < 100 → IntKind.i64.wrap (((k / 2 : Nat) : Int)) = ((k / 2 : Nat) : Int)) :=
  ⟨by rw [Int.tmod_eq_emod_of_nonneg (by omega)]; omega, by omega, by rw [Int.tdiv_eq_ediv_of_nonneg (by omega)]; omega, by omega, IntWalk.i64_in _ (by omega), fun h => IntWalk.i64_in _ (by omega)⟩
theorem cq_step1 (N : Nat) (ns : Nat → Nat) (g : Nat → Nat → Pt) (u x y : Int) (k : Nat) : cq N ns g u x y (k + 1) = cq N ns g u x y k + bit (wdg N ns g (sm u x ((k % 2 : Nat) : Int)) (sm u y ((k / 2 : Nat) : Int))) := rfl
set_option maxRecDepth 100000 in
set_option maxHeartbeats 16000000 in
theorem rCover_in (a : Option Addr) (N c : Nat) (ns : Nat → Nat) (g : Nat → Nat → Pt) (u x y : Int) (hu : isU u = true) (hx : inR x = true) (hy : inR y = true) (hN : N ≤ 1000000) (hs : pre ns N ≤ 1000000) (w : World) (hA : OT w a N ns g) :
    Calls Try.prog 16 #[.slice a N c, .int .i64 u, .int .i64 x, .int .i64 y] w fun e w' => e = .returned (.int .i64 (cq N ns g u x y 4 : Nat)) ∧ Below w.heap.size w w' := by
  have IU := Lib.hid (fun w => valid_any u w)
  have IX := Lib.hid (fun w => in_any x w)
  have IY := Lib.hid (fun w => in_any y w)
  rw [hu] at IU
  rw [hx] at IX
  rw [hy] at IY
  obtain ⟨u1, u2, u3⟩ := (isU_iff u).1 hu
  have WD := Lib.hid (fun X Y V hb => rWinding_any a N c ns g X Y hN hs V (ot_below hA hb))
  have RI := Lib.hid (fun x hx i hi => rs_in (u := u) (x := x) ⟨u1, u2⟩ hx (i := i) hi)
  obtain ⟨d1, d2, d3, d4, d5, d6⟩ := rs_div (u := u) ⟨u1, u2⟩
  have HX := Lib.hid hx
  have HY := Lib.hid hy
  clear hx hy hA hu u1 u2 u3
  have CS := Lib.hid (cq_step1 N ns g u x y)
  have CL := Lib.hid (cq_le N ns g u x y)
  generalize cq N ns g u x y = C at *
  have hC0 : Hid (C 0 = 0) := Lib.hid (Nat.le_zero.1 (CL.out 0))
  go_enter Try.func16, Try.ntmps16
  go_wp2_with (first | (with_reducible refine (IU.out _).mono ?_; rintro e w3 ⟨rfl, rfl⟩) | (with_reducible refine (IX.out _).mono ?_; rintro e w3 ⟨rfl, rfl⟩) | (with_reducible refine (IY.out _).mono ?_; rintro e w3 ⟨rfl, rfl⟩))
  go_loopw [9, 10] (fun s9 s10 V => CoR w C s9 s10 V) (fun _ s10 _ => 4 - (intOf s10).toNat)
  case atStart => exact ⟨0, rfl, by omega, by rw [hC0.out]; rfl, Below.refl _ _⟩
  case round =>
    obtain ⟨k, rfl, hk, rfl, hB⟩ := hrel
    rename World => V
    rcases Nat.lt_or_ge k 4 with hk4 | hk4
    · have k2 := nat_c k
      have k3 : (k : Int) < 4 := k4 hk4
      have hst := CS.out k
      obtain ⟨m1, m2, m3, m4, m5, m6⟩ := km (k := k)
      replace m6 := m6 (by omega)
      have hup := cn_up (m := C k) (by have := CL.out k; omega)
      obtain ⟨x1, x2, x3, x4⟩ := RI.out x HX.out (((k % 2 : Nat) : Int)) (by omega)
      obtain ⟨y1, y2, y3, y4⟩ := RI.out y HY.out (((k / 2 : Nat) : Int)) (by omega)
      have WX := Lib.hid (WD.out (sm u x ((k % 2 : Nat) : Int)) (sm u y ((k / 2 : Nat) : Int)) V hB)
      have RR : Hid (∀ V' v, C (k + 1) = v → Below V.heap.size V V' → CoR w C (.int .i64 (v : Nat)) (.int .i64 ((k : Int) + 1)) V') := Lib.hid (fun V' v h hb => ⟨k + 1, rfl, hk4, by rw [← h], bt hB hb⟩)
      have hlt := ltn hk4
      unfold sm at WX hst
      clear hk hk4 WD RI HX HY CS CL hC0
      generalize C (k + 1) = c1 at *
      generalize C k = c0 at *
      generalize ((k % 2 : Nat) : Int) = i at *
      generalize ((k / 2 : Nat) : Int) = j at *
      unfold bit at hst
      by_cases h0 : wdg N ns g (u * x + u / 4 + i * (u / 2)) (u * y + u / 4 + j * (u / 2)) = 0
      · rw [if_pos h0] at hst
        rw [h0] at WX
        have R := Lib.hid (fun V' => RR.out V' _ hst)
        clear RR hst h0
        go_wp2_with ((with_reducible refine (WX.out).mono ?_); rintro e w4 ⟨rfl, hb⟩)
        exact ⟨R.out _ hb, hlt⟩
      · rw [if_neg h0] at hst
        have hq : (wdg N ns g (u * x + u / 4 + i * (u / 2)) (u * y + u / 4 + j * (u / 2)) != 0) = true := bne_iff_ne.2 h0
        have R := Lib.hid (fun V' => RR.out V' _ hst)
        clear RR hst
        generalize wdg N ns g (u * x + u / 4 + i * (u / 2)) (u * y + u / 4 + j * (u / 2)) = z at *
        go_wp2_with ((with_reducible refine (WX.out).mono ?_); rintro e w4 ⟨rfl, hb⟩)
        exact ⟨by rw [hup]; exact R.out _ hb, hlt⟩
    · obtain rfl : k = 4 := by omega
      go_wp2
      go_ret
      exact ⟨rfl, hB⟩
set_option maxHeartbeats 4000000 in
theorem rCover_any (a : Option Addr) (N c : Nat) (ns : Nat → Nat) (g : Nat → Nat → Pt) (u x y : Int) (hN : N ≤ 1000000) (hs : pre ns N ≤ 1000000) (w : World) (hA : OT w a N ns g) :
    Calls Try.prog 16 #[.slice a N c, .int .i64 u, .int .i64 x, .int .i64 y] w fun e w' => e = .returned (.int .i64 (cvr N ns g u x y : Nat)) ∧ Below w.heap.size w w' := by
  have IU := Lib.hid (fun w => valid_any u w)
  have IX := Lib.hid (fun w => in_any x w)
  have IY := Lib.hid (fun w => in_any y w)
  unfold cvr
  rcases hu : isU u with _ | _
  · rw [hu] at IU
    rw [if_neg (by simp)]
    clear hA
    go_enter Try.func16, Try.ntmps16
    go_wp2_with (with_reducible refine (IU.out _).mono ?_; rintro e w3 ⟨rfl, rfl⟩)
    go_ret
    exact ⟨rfl, Below.refl _ _⟩
  rcases hx : inR x with _ | _
  · rw [hu] at IU
    rw [hx] at IX
    rw [if_neg (by simp)]
    clear hA
    go_enter Try.func16, Try.ntmps16
    go_wp2_with (first | (with_reducible refine (IU.out _).mono ?_; rintro e w3 ⟨rfl, rfl⟩) | (with_reducible refine (IX.out _).mono ?_; rintro e w3 ⟨rfl, rfl⟩))
    go_ret
    exact ⟨rfl, Below.refl _ _⟩
  rcases hy : inR y with _ | _
  · rw [hu] at IU
    rw [hx] at IX
    rw [hy] at IY
    rw [if_neg (by simp)]
    clear hA
    go_enter Try.func16, Try.ntmps16
    go_wp2_with (first | (with_reducible refine (IU.out _).mono ?_; rintro e w3 ⟨rfl, rfl⟩) | (with_reducible refine (IX.out _).mono ?_; rintro e w3 ⟨rfl, rfl⟩) | (with_reducible refine (IY.out _).mono ?_; rintro e w3 ⟨rfl, rfl⟩))
    go_ret
    exact ⟨rfl, Below.refl _ _⟩
  · rw [if_pos (by simp)]
    exact rCover_in a N c ns g u x y hu hx hy hN hs w hA
end Go.Proofs.Ytjeiapgniflnaaa.Rs
