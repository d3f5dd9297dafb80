/-
  Layer 5 (axis): User, Same of the document's own.
-/
import Derived.Test.YtmlkdfieakihlaaAxRc
import Derived.Test.YtmlkdfieakihlaaAxG
namespace Go.Proofs.Ytmlkdfieakihlaa.Ax
open Go.RowKit
open Go.Proofs.Ytmlkdfieakihlaa.Ex (RoI)
theorem iw64 (x : Int) : IntKind.i64.wrap x = wrap64 x := by unfold wrap64; rw [IntKind.wrap_i64]
set_option maxRecDepth 100000 in
set_option maxHeartbeats 1000000 in
theorem rUser_no (x : Axs) (v z : Int) (hz : ¬ z = 0) (CK : Hid (∀ w b, BxA w b x → Calls Try.prog 14 #[.slice (some ⟨b, 0, none⟩) 1 1] w fun e w' => e = .returned (.int .i64 z) ∧ Below w.heap.size w w')) (w : World) :
    Calls Try.prog 17 #[axV x, .int .i64 v] w fun e w' => e = .returned (.int .i64 0) ∧ Below w.heap.size w w' := by
  have hz1 : (z == 0) = false := beq_eq_false_iff_ne.2 hz
  unfold axV
  go_enter Try.func17, Try.ntmps17
  go_wp2_with fail
  have hb := bxa_new (w.alloc (.cells #[.string x.t, .int .i64 x.l, .int .i64 x.u, .int .i64 x.h] 29)) x 29
  simp only [World.size_alloc] at hb
  refine (CK.out _ _ hb).mono ?_
  rintro e V1 ⟨rfl, hB1⟩
  go_wp2
  go_ret
  exact ⟨rfl, bt (ba (ba (Below.refl _ _) _) _) hB1⟩
set_option maxRecDepth 100000 in
set_option maxHeartbeats 2000000 in
theorem rUser_lo (x : Axs) (v n q r : Int) (hn : decide (n < 0) = true)
    (CK : Hid (∀ w b, BxA w b x → Calls Try.prog 14 #[.slice (some ⟨b, 0, none⟩) 1 1] w fun e w' => e = .returned (.int .i64 0) ∧ Below w.heap.size w w'))
    (LM : Hid (∀ w, Calls Try.prog 33 #[.int .i64 v] w fun e w' => e = .returned (.int .i64 n) ∧ Below w.heap.size w w'))
    (p1 : wrap64 (-n) = -n) (p2 : wrap64 (x.u - x.l) = x.u - x.l) (p3 : wrap64 (-n * (x.u - x.l)) = -n * (x.u - x.l))
    (RD : Hid (∀ w, Calls Try.prog 34 #[.int .i64 (-n * (x.u - x.l)), .int .i64 64] w fun e w' => e = .returned (.int .i64 q) ∧ Below w.heap.size w w'))
    (p4 : wrap64 (x.u - q) = r) (w : World) :
    Calls Try.prog 17 #[axV x, .int .i64 v] w fun e w' => e = .returned (.int .i64 r) ∧ Below w.heap.size w w' := by
  have Q := Lib.hid p4
  have p5 : IntKind.i64.wrap (-n) = -n := (iw64 _).trans p1
  have p6 : IntKind.i64.wrap (x.u - x.l) = x.u - x.l := (iw64 _).trans p2
  have p7 : IntKind.i64.wrap (-n * (x.u - x.l)) = -n * (x.u - x.l) := (iw64 _).trans p3
  have p8 : IntKind.i64.wrap (x.u - q) = r := (iw64 _).trans p4
  unfold axV
  go_enter Try.func17, Try.ntmps17
  go_wp2_with fail
  have hb := bxa_new (w.alloc (.cells #[.string x.t, .int .i64 x.l, .int .i64 x.u, .int .i64 x.h] 29)) x 29
  simp only [World.size_alloc] at hb
  refine (CK.out _ _ hb).mono ?_
  rintro e V0 ⟨rfl, hB⟩
  have hX : BxA V0 w.heap.size x := bxa_below (bxa_below (bxa_new w x _) (ba (Below.refl _ _) _)) hB
  have hB0 : Below w.heap.size w V0 := bt (ba (ba (Below.refl _ _) _) _) hB
  clear hB hb
  go_wp2_with fail
  refine (LM.out _).mono ?_
  rintro e V1 ⟨rfl, hB1⟩
  replace hB0 := bt hB0 hB1
  replace hX := bxa_below hX hB1
  go_upto_region 5 with (fail)
  have X0 : ∀ V', Below V1.heap.size V1 V' → V'.cell? ⟨w.heap.size, 2, none⟩ = some (.int .i64 x.u) := fun _ h => (bxa_below hX h).2.2.1
  have X1 : ∀ V', Below V1.heap.size V1 V' → V'.cell? ⟨w.heap.size, 1, none⟩ = some (.int .i64 x.l) := fun _ h => (bxa_below hX h).2.1
  go_region_held3 (fun w' => Below V1.heap.size V1 w') (first
    | (with_reducible exact bd1 (Below.refl _ _))
    | (with_reducible exact bt (by assumption) hba))
    (first
    | ((with_reducible refine (RD.out _).mono ?_); rintro en wa ⟨rfl, hba⟩))
  have hb3 : Below V1.heap.size V1 wa := by with_reducible assumption
  go_wp2
  go_ret
  exact ⟨by (try rw [← Q.out]); rfl, bt hB0 hb3⟩
set_option maxRecDepth 100000 in
set_option maxHeartbeats 2000000 in
theorem rUser_hi (x : Axs) (v n q r : Int) (hn : decide (n < 0) = false)
    (CK : Hid (∀ w b, BxA w b x → Calls Try.prog 14 #[.slice (some ⟨b, 0, none⟩) 1 1] w fun e w' => e = .returned (.int .i64 0) ∧ Below w.heap.size w w'))
    (LM : Hid (∀ w, Calls Try.prog 33 #[.int .i64 v] w fun e w' => e = .returned (.int .i64 n) ∧ Below w.heap.size w w'))
    (p1 : wrap64 (-n) = -n) (p2 : wrap64 (x.h - x.u) = x.h - x.u) (p3 : wrap64 (n * (x.h - x.u)) = n * (x.h - x.u))
    (RD : Hid (∀ w, Calls Try.prog 34 #[.int .i64 (n * (x.h - x.u)), .int .i64 64] w fun e w' => e = .returned (.int .i64 q) ∧ Below w.heap.size w w'))
    (p4 : wrap64 (x.u + q) = r) (w : World) :
    Calls Try.prog 17 #[axV x, .int .i64 v] w fun e w' => e = .returned (.int .i64 r) ∧ Below w.heap.size w w' := by
  have Q := Lib.hid p4
  have p5 : IntKind.i64.wrap (-n) = -n := (iw64 _).trans p1
  have p6 : IntKind.i64.wrap (x.h - x.u) = x.h - x.u := (iw64 _).trans p2
  have p7 : IntKind.i64.wrap (n * (x.h - x.u)) = n * (x.h - x.u) := (iw64 _).trans p3
  have p8 : IntKind.i64.wrap (x.u + q) = r := (iw64 _).trans p4
  unfold axV
  go_enter Try.func17, Try.ntmps17
  go_wp2_with fail
  have hb := bxa_new (w.alloc (.cells #[.string x.t, .int .i64 x.l, .int .i64 x.u, .int .i64 x.h] 29)) x 29
  simp only [World.size_alloc] at hb
  refine (CK.out _ _ hb).mono ?_
  rintro e V0 ⟨rfl, hB⟩
  have hX : BxA V0 w.heap.size x := bxa_below (bxa_below (bxa_new w x _) (ba (Below.refl _ _) _)) hB
  have hB0 : Below w.heap.size w V0 := bt (ba (ba (Below.refl _ _) _) _) hB
  clear hB hb
  go_wp2_with fail
  refine (LM.out _).mono ?_
  rintro e V1 ⟨rfl, hB1⟩
  replace hB0 := bt hB0 hB1
  replace hX := bxa_below hX hB1
  go_upto_region 6 with (fail)
  have X0 : ∀ V', Below V1.heap.size V1 V' → V'.cell? ⟨w.heap.size, 2, none⟩ = some (.int .i64 x.u) := fun _ h => (bxa_below hX h).2.2.1
  have X1 : ∀ V', Below V1.heap.size V1 V' → V'.cell? ⟨w.heap.size, 3, none⟩ = some (.int .i64 x.h) := fun _ h => (bxa_below hX h).2.2.2
  go_region_held3 (fun w' => Below V1.heap.size V1 w') (first
    | (with_reducible exact bd1 (Below.refl _ _))
    | (with_reducible exact bt (by assumption) hba))
    (first
    | ((with_reducible refine (RD.out _).mono ?_); rintro en wa ⟨rfl, hba⟩))
  have hb3 : Below V1.heap.size V1 wa := by with_reducible assumption
  go_wp2
  go_ret
  exact ⟨by (try rw [← Q.out]); rfl, bt hB0 hb3⟩
theorem rUser_any (x : Axs) (v : Int) (hs : x.t.size ≤ 9223372036854775807) (w : World) :
    Calls Try.prog 17 #[axV x, .int .i64 v] w fun e w' => e = .returned (.int .i64 (us x v)) ∧ Below w.heap.size w w' := by
  have CK : Hid (∀ w b, BxA w b x → Calls Try.prog 14 #[.slice (some ⟨b, 0, none⟩) 1 1] w fun e w' => e = .returned (.int .i64 (ck1 x)) ∧ Below w.heap.size w w') :=
    Lib.hid (fun w b h => rCheck_any (some ⟨b, 0, none⟩) 1 1 (fun _ => x) (fun _ _ => hs) w (aa_one h))
  unfold us
  by_cases hz : ck1 x = 0
  · rw [if_pos hz]
    obtain ⟨h1, h2, h3, h4⟩ := ck1_rg hz
    rw [hz] at CK
    have LM := Lib.hid (fun w => rlimited_any v w)
    have hn := lim_in (v := v) (lo := -64) (hi := 64) (by omega)
    generalize lim v (-64) 64 = n at *
    by_cases c1 : n < 0
    · rw [if_pos c1]
      have hm := mul_in (n := -n) (s := x.u - x.l) (M := 64) (N := 2000) (by omega) (by omega) (by omega)
      have hq := ro_in (a := -n * (x.u - x.l)) (b := 64) (M := 2000) (by omega) (by omega) (by omega)
      exact rUser_lo x v n _ _ (decide_eq_true c1) CK LM (w64 (by omega)) (w64 (by omega)) (w64 (by omega)) (Lib.hid (fun w => rround_any _ _ (by omega) (by omega) w)) (w64 (by omega)) w
    · rw [if_neg c1]
      have hm := mul_in (n := n) (s := x.h - x.u) (M := 64) (N := 2000) (by omega) (by omega) (by omega)
      have hq := ro_in (a := n * (x.h - x.u)) (b := 64) (M := 2000) (by omega) (by omega) (by omega)
      exact rUser_hi x v n _ _ (decide_eq_false c1) CK LM (w64 (by omega)) (w64 (by omega)) (w64 (by omega)) (Lib.hid (fun w => rround_any _ _ (by omega) (by omega) w)) (w64 (by omega)) w
  · rw [if_neg hz]
    exact rUser_no x v _ hz CK w
def SmRel (w : World) (n : Nat) (v : Value) (V : World) : Prop := ∃ k : Nat, v = .int .i64 k ∧ k ≤ n ∧ Below w.heap.size w V
set_option maxRecDepth 100000 in
set_option maxHeartbeats 1000000 in
theorem Same_any (a b : Option Addr) (n c d : Nat) (l : Nat → Int) (hn : n ≤ 1000000) (w : World) (hA : LA w a n l) (hB : LA w b n l) :
    Calls Try.prog 15 #[.slice a n c, .slice b n d] w fun e w' => e = .returned (.bool true) ∧ Below w.heap.size w w' := by
  have HA := Lib.hid hA
  have HB := Lib.hid hB
  clear hA hB
  go_enter Try.func15, Try.ntmps15
  go_wp2_with fail
  go_loopw [5] (fun v V => SmRel w n v V) (fun v _ => n - (intOf v).toNat)
  case atStart => exact ⟨0, rfl, by omega, Below.refl _ _⟩
  case round =>
    obtain ⟨k, rfl, hk, hV⟩ := hrel
    rename World => V
    rcases Nat.lt_or_ge k n with hkn | hkn
    · obtain ⟨b1, o1, rfl, y0⟩ := la_below HA.out hV k hkn
      obtain ⟨b2, o2, rfl, y1⟩ := la_below HB.out hV k hkn
      have k2 : (0 : Int) ≤ (k : Int) := by omega
      have k3 : (k : Int) < (n : Int) := by omega
      have hN : Hid (∀ m, SmRel w n (.int .i64 ((k : Int) + 1)) (V.drewN m)) := Lib.hid (fun m => ⟨k + 1, rfl, by omega, bd hV m⟩)
      generalize l k = x at *
      go_upto_region 6 with (fail)
      go_quiet (fail)
      go_wp2_with fail
      exact ⟨hN.out _, by simp [intOf]; omega⟩
    · obtain rfl : k = n := by omega
      go_wp2
      go_ret
      exact ⟨rfl, hV⟩
end Go.Proofs.Ytmlkdfieakihlaa.Ax
