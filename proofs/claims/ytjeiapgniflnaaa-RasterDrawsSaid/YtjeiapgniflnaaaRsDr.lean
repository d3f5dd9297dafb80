/-
  Layer 7 (raster): the document's own Dots, walked.
-/
import Derived.Test.YtjeiapgniflnaaaRsDm
namespace Go.Proofs.Ytjeiapgniflnaaa.Rs
open Go.RowKit
open Go.Proofs.Ytjeiapgniflnaaa.Ot
open Go.Proofs.Ytjeiapgniflnaaa.Bm (bv DA OB sd sd_iff rNew_yes rNew_no ob_da ob_set ob_below)
set_option maxHeartbeats 4000000 in
theorem rDots_unit (a : Option Addr) (N c : Nat) (u : Int) (hu : isU u = false) (w : World) :
    Calls Try.prog 18 #[.slice a N c, .int .i64 u] w fun e w' => e = .returned (.tuple #[pz, .int .i64 1]) ∧ Below w.heap.size w w' := by
  have IU := Lib.hid (fun w => valid_any u w)
  rw [hu] at IU
  unfold pz
  go_enter Try.func18, Try.ntmps18
  obtain ⟨⟨c0, c1, c2, c3, c4⟩, f0, f1, f2, f3, f4⟩ := pzat_new w 40
  go_wp2_with ((with_reducible refine (IU.out _).mono ?_); rintro e w3 ⟨rfl, rfl⟩)
  refine bodyPost_ret (v := .tuple #[.agg #[.int .i64 0, .int .i64 0, .int .i64 0, .int .i64 0, .slice none 0 0], .int .i64 1]) (by simp [results, Try.results18, go_sem, *]) rfl ⟨rfl, ?_⟩
  repeat (with_reducible refine bs ?_ (Nat.le_refl _) _)
  exact ba (Below.refl _ _) _
set_option maxHeartbeats 4000000 in
theorem rDots_range (a : Option Addr) (N c : Nat) (ns : Nat → Nat) (g : Nat → Nat → Pt) (u : Int) (hu : isU u = true) (hr : allO ns g N = false) (hN : N ≤ 1000000) (hs : pre ns N ≤ 1000000) (w : World) (hA : OT w a N ns g) :
    Calls Try.prog 18 #[.slice a N c, .int .i64 u] w fun e w' => e = .returned (.tuple #[pz, .int .i64 3]) ∧ Below w.heap.size w w' := by
  have IU := Lib.hid (fun w => valid_any u w)
  rw [hu] at IU
  have AR : Hid (∀ W, Below w.heap.size w W → Calls Try.prog 31 #[.slice a N c] W fun e w' => e = .returned (.bool false) ∧ W = w') := Lib.hid (fun W h => by
    have := ranged_any a N c ns g hN hs W (ot_below hA h)
    rw [hr] at this
    exact this)
  clear hA
  unfold pz
  go_enter Try.func18, Try.ntmps18
  obtain ⟨⟨c0, c1, c2, c3, c4⟩, f0, f1, f2, f3, f4⟩ := pzat_new w 40
  have hA1 := ba (Below.refl w.heap.size w) (.cells #[.int .i64 0, .int .i64 0, .int .i64 0, .int .i64 0, .slice none 0 0] 40)
  go_wp2_with (first
    | ((with_reducible refine (IU.out _).mono ?_); rintro e w3 ⟨rfl, rfl⟩)
    | ((with_reducible refine (AR.out _ hA1).mono ?_); rintro e V1 ⟨rfl, rfl⟩))
  refine bodyPost_ret (v := .tuple #[.agg #[.int .i64 0, .int .i64 0, .int .i64 0, .int .i64 0, .slice none 0 0], .int .i64 3]) (by simp [results, Try.results18, go_sem, *]) rfl ⟨rfl, ?_⟩
  repeat (with_reducible refine bs ?_ (Nat.le_refl _) _)
  exact hA1
def ApR (W1 : World) (N : Nat) (ns : Nat → Nat) (g : Nat → Nat → Pt) (s6 s7 : Value) (V : World) : Prop := ∃ k : Nat, s7 = .int .i64 (k : Int) ∧ k ≤ N ∧ V.ownsRow W1.heap.size 63 3 s6 (pre ns k) (vals (lst (fl N ns g) (pre ns k))) ∧ Below W1.heap.size W1 V
def BxR (V0 : World) (u : Int) (f : Nat → Pt) (n : Nat) (s9 : Value) (V : World) : Prop := ∃ k : Nat, s9 = .int .i64 (k : Int) ∧ k ≤ n ∧ RcAt V V0.heap.size (bxRow (fz u f) rcM k) ∧ Below V0.heap.size V0 V
/-- While the dots of a picture are set, row by row. -/
def pF (D : Nat → Bool) (W y x i : Nat) : Bool := decide (i < y * W + x) && D i
theorem pF_next (D : Nat → Bool) {W y x idx : Nat} (h : idx = y * W + x) (i : Nat) : pF D W y (x + 1) i = if i = idx then D idx else pF D W y x i := by
  unfold pF
  subst h
  by_cases e : i = y * W + x
  · rw [if_pos e, e, decide_eq_true (by omega), Bool.true_and]
  · rw [if_neg e]
    congr 1
    rw [decide_eq_decide]
    omega
def LyR (V5 : World) (b n : Nat) (D : Nat → Bool) (W H : Nat) (s16 : Value) (V : World) : Prop := ∃ y : Nat, s16 = .int .i64 (y : Int) ∧ y ≤ H ∧ OB V b n (pF D W y 0) ∧ V5.grownBy V (some b)
def LxR (V5 : World) (b n : Nat) (D : Nat → Bool) (W y : Nat) (s17 : Value) (V : World) : Prop := ∃ x : Nat, s17 = .int .i64 (x : Int) ∧ x ≤ W ∧ OB V b n (pF D W y x) ∧ V5.grownBy V (some b)
theorem gT2 {a w v : World} {r : Option Nat} (h : a.grownBy w r) (g : w.grownBy v r) : a.grownBy v r := World.grownBy.trans h g
theorem idx_facts {La Lb : Int} {W H n y x : Nat} (hW : W ≤ 96 ∧ H ≤ 96) (hn : W * H = n) (hL : (-268435456 ≤ La ∧ La ≤ 268435456) ∧ -268435456 ≤ Lb ∧ Lb ≤ 268435456) (hy : y < H) (hx : x < W) :
    ∃ i : Nat, i = y * W + x ∧ i < n ∧ IntKind.i64.wrap ((y : Int) * (W : Int)) = (y : Int) * (W : Int) ∧ IntKind.i64.wrap ((y : Int) * (W : Int) + (x : Int)) = (i : Int) ∧ IntKind.i64.wrap (La + (x : Int)) = La + (x : Int) ∧ IntKind.i64.wrap (Lb + (y : Int)) = Lb + (y : Int) ∧
      wrap64 ((y : Int) * (W : Int)) = (y : Int) * (W : Int) ∧ wrap64 ((y : Int) * (W : Int) + (x : Int)) = (i : Int) ∧ wrap64 (La + (x : Int)) = La + (x : Int) ∧ wrap64 (Lb + (y : Int)) = Lb + (y : Int) := by
  have h1 : (y + 1) * W ≤ H * W := Nat.mul_le_mul_right _ hy
  have h2 : H * W ≤ 96 * 96 := Nat.mul_le_mul hW.2 hW.1
  rw [Nat.succ_mul] at h1
  rw [Nat.mul_comm] at hn
  have e1 : (y : Int) * (W : Int) = ((y * W : Nat) : Int) := by simp
  rw [e1]
  refine ⟨y * W + x, rfl, by omega, ?_⟩
  generalize y * W = p at *
  exact ⟨IntWalk.i64_in _ (by omega), by rw [IntWalk.i64_in _ (by omega)]; omega, IntWalk.i64_in _ (by omega), IntWalk.i64_in _ (by omega), w_id (by omega), by rw [w_id (by omega)]; omega, w_id (by omega), w_id (by omega)⟩
theorem dotF_at {N : Nat} {ns : Nat → Nat} {g : Nat → Nat → Pt} {u : Int} (La Lb : Int) {W y x idx : Nat} (h : idx = y * W + x) (hx : x < W) : dotF N ns g u La Lb W idx = decide (2 ≤ cvr N ns g u (La + (x : Int)) (Lb + (y : Int))) := by
  unfold dotF
  subst h
  rw [show (y * W + x) % W = x by rw [Nat.add_comm, Nat.add_mul_mod_self_right, Nat.mod_eq_of_lt hx], show (y * W + x) / W = y by rw [Nat.add_comm, Nat.add_mul_div_right _ _ (by omega), Nat.div_eq_of_lt hx, Nat.zero_add]]
theorem pzat_gr {V V' : World} {b0 b : Nat} (h : PzAt V b0) (hG : V.grownBy V' (some b)) (hn : b0 ≠ b) : PzAt V' b0 := by
  obtain ⟨⟨h0, h1, h2, h3, h4⟩, f0, f1, f2, f3, f4⟩ := h
  exact ⟨⟨gc hG h0 hn, gc hG h1 hn, gc hG h2 hn, gc hG h3 hn, gc hG h4 hn⟩, gf hG h0 f0 hn, gf hG h1 f1 hn, gf hG h2 f2 hn, gf hG h3 f3 hn, gf hG h4 f4 hn⟩
theorem rc_new (V : World) (T : TypeId) : RcAt (V.alloc (.cells #[.int .i64 1073741824, .int .i64 1073741824, .int .i64 (-1073741824), .int .i64 (-1073741824)] T)) V.heap.size rcM := by
  unfold rcM
  exact ⟨⟨by go_cell, by go_cell, by go_cell, by go_cell⟩, by go_cell, by go_cell, by go_cell, by go_cell⟩
/-- What the document's Dots answers. -/
def RD (u : Int) (N : Nat) (ns : Nat → Nat) (g : Nat → Nat → Pt) (R : Rc) (e : Ending) (w' : World) : Prop :=
  (pre ns N = 0 ∧ e = .returned (.tuple #[pz, .int .i64 0])) ∨
  (0 < pre ns N ∧ (sd (R.c / u - R.a / u + 1) && sd (R.d / u - R.b / u + 1)) = false ∧ e = .returned (.tuple #[pz, .int .i64 13])) ∨
  (0 < pre ns N ∧ ∃ (W H n : Nat) (sa : Option Addr), n = W * H ∧ (W : Int) = R.c / u - R.a / u + 1 ∧ (H : Int) = R.d / u - R.b / u + 1 ∧ W ≤ 96 ∧ H ≤ 96 ∧ e = .returned (.tuple #[.agg #[.int .i64 (R.a / u), .int .i64 (R.b / u), .int .i64 (W : Int), .int .i64 (H : Int), .slice sa n n], .int .i64 0]) ∧ DA w' sa n (dotF N ns g u (R.a / u) (R.b / u) W))
set_option maxRecDepth 100000 in
set_option maxHeartbeats 16000000 in
theorem rDots_main (a : Option Addr) (N c : Nat) (ns : Nat → Nat) (g : Nat → Nat → Pt) (u : Int) (hu : isU u = true) (hr : allO ns g N = true) (hN : N ≤ 1000) (hs : pre ns N ≤ 100000) (w : World) (hA : OT w a N ns g) :
    Calls Try.prog 18 #[.slice a N c, .int .i64 u] w fun e w' => RD u N ns g (bxAll ns g N) e w' ∧ Below w.heap.size w w' := by
  have IU := Lib.hid (fun w => valid_any u w)
  rw [hu] at IU
  have AR : Hid (∀ W, Below w.heap.size w W → Calls Try.prog 31 #[.slice a N c] W fun e w' => e = .returned (.bool true) ∧ W = w') := Lib.hid (fun W h => by
    have := ranged_any a N c ns g (by omega) (by omega) W (ot_below hA h)
    rw [hr] at this
    exact this)
  have HU := Lib.hid (And.intro hu (And.intro hr (And.intro hN hs)))
  have HA := Lib.hid hA
  have P0 := Lib.hid (pzat_new w 40)
  have hA1 : Below w.heap.size w (w.alloc (.cells #[.int .i64 0, .int .i64 0, .int .i64 0, .int .i64 0, .slice none 0 0] 40)) := ba (Below.refl _ _) _
  have hwW : w.heap.size < (w.alloc (.cells #[.int .i64 0, .int .i64 0, .int .i64 0, .int .i64 0, .slice none 0 0] 40)).heap.size := by rw [World.size_alloc]; exact Nat.lt_succ_self _
  clear hA hu hr hN hs
  go_enter Try.func18, Try.ntmps18
  go_wp2_with (first
    | ((with_reducible refine (IU.out _).mono ?_); rintro e w3 ⟨rfl, rfl⟩)
    | ((with_reducible refine (AR.out _ hA1).mono ?_); rintro e V1 ⟨rfl, rfl⟩))
  clear IU AR
  generalize (w.alloc (.cells #[.int .i64 0, .int .i64 0, .int .i64 0, .int .i64 0, .slice none 0 0] 40)) = W1 at *
  have H1 := Lib.hid (And.intro hA1 hwW)
  clear hA1 hwW
  go_loopw [6, 7] (fun s6 s7 V => ApR W1 N ns g s6 s7 V) (fun _ s7 _ => N - (intOf s7).toNat)
  case atStart => exact ⟨0, rfl, by omega, World.ownsRow_nil _ _ _ _, Below.refl _ _⟩
  case round =>
    obtain ⟨k, rfl, hk, hown, hB⟩ := hrel
    rename World => V
    rcases Nat.lt_or_ge k N with hkN | hkN
    · obtain ⟨b, off, a', c', rfl, hc, h1, h2, hp⟩ := ot_below HA.out (bt H1.out.1 hB) k hkN
      have k2 := nat0 k
      have k3 := natlt hkN
      have hN := HU.out.2.2.1
      have k5 : (k : Int) ≤ 1000 := by omega
      have hpn : pre ns k + ns k ≤ 100000 := by
        have := pre_mono ns (show k + 1 ≤ N by omega)
        rw [pre] at this
        have := HU.out.2.2.2
        omega
      have hp1 : pre ns k ≤ 1000000 := by omega
      have hp2 : ns k ≤ 1000000 := by omega
      have HP := Lib.hid hp
      have hrow : Hid (∀ q, u6.ownBlock = some q → W1.heap.size ≤ q) := Lib.hid (fun q hq => (hown.lt q hq).1)
      have hsz := hB.size
      have hlt := ltn' hkN
      have NX : Hid (∀ v' V', V'.ownsRow W1.heap.size 63 3 v' (pre ns k + ns k) (vals (lst (jn (fl N ns g) (g k) (pre ns k)) (pre ns k + ns k))) → Below W1.heap.size W1 V' → ApR W1 N ns g v' (.int .i64 ((k : Int) + 1)) V') := Lib.hid (fun v' V' h3 h4 => ⟨k + 1, rfl, hkN, by rw [lst_fl hkN] at h3; exact h3, h4⟩)
      clear hp hpn
      go_wp2_with (at_builtin; refine wpList_app W1.heap.size (pre ns k) (ns k) c' a' _ (fl N ns g) (g k) rfl _ _ rfl rfl rfl hown HP.out hp1 hp2 hsz ?_; intro v6 W6 hown6 hg6)
      have R := Lib.hid (NX.out _ _ hown6 (gBo hB hg6 hrow.out))
      exact ⟨R.out, hlt⟩
    · obtain rfl : k = N := by omega
      obtain ⟨a6, c6, b6, rfl, q1, q2, q3, q4, q5⟩ := own_lst hown
      have HB1 := Lib.hid (And.intro hB (bt H1.out.1 hB))
      have HPz := Lib.hid (pzat_below P0.out hB)
      have hVw : w.heap.size < V.heap.size := Nat.lt_of_lt_of_le H1.out.2 hB.size
      have hn9 := HU.out.2.2.2
      have HP := Lib.hid q3
      have HLr := Lib.hid (And.intro q4 q5)
      clear hown hk hkN P0 hB q1 q2 q3 q4 q5
      obtain ⟨n, hn⟩ : ∃ n, pre ns k = n := ⟨_, rfl⟩
      rw [hn] at hn9 HP HLr ⊢
      have Hn := Lib.hid hn
      clear hn
      rcases Nat.eq_zero_or_pos n with h0 | h0
      · subst h0
        have HF : Hid (∀ w', Below w.heap.size w w' → RD u k ns g (bxAll ns g k) (.returned (.tuple #[.agg #[.int .i64 0, .int .i64 0, .int .i64 0, .int .i64 0, .slice none 0 0], .int .i64 0])) w' ∧ Below w.heap.size w w') := Lib.hid (fun w' h => ⟨.inl ⟨Hn.out, rfl⟩, h⟩)
        obtain ⟨⟨c0, c1, c2, c3, c4⟩, f0, f1, f2, f3, f4⟩ := HPz.out
        go_wp2_with fail
        refine bodyPost_ret (v := .tuple #[.agg #[.int .i64 0, .int .i64 0, .int .i64 0, .int .i64 0, .slice none 0 0], .int .i64 0]) (by simp [results, Try.results18, go_sem, *]) rfl (HF.out _ ?_)
        repeat (with_reducible refine bs ?_ (Nat.le_refl _) _)
        exact HB1.out.2
      · obtain rfl := HLr.out.1 h0
        obtain ⟨n8, n7⟩ := nne h0
        have hRc : RcAt (V.alloc (.cells #[.int .i64 1073741824, .int .i64 1073741824, .int .i64 (-1073741824), .int .i64 (-1073741824)] 74)) V.heap.size rcM := rc_new V 74
        have hB2 : Below V.heap.size V (V.alloc (.cells #[.int .i64 1073741824, .int .i64 1073741824, .int .i64 (-1073741824), .int .i64 (-1073741824)] 74)) := ba (Below.refl _ _) _
        go_upto_region 13 with (fail)
        go_wp2_with fail
        generalize (V.alloc (.cells #[.int .i64 1073741824, .int .i64 1073741824, .int .i64 (-1073741824), .int .i64 (-1073741824)] 74)) = V2 at *
        go_loopw [9] (fun s9 V' => BxR V u (fl k ns g) n s9 V') (fun s9 _ => n - (intOf s9).toNat)
        case atStart => exact ⟨0, rfl, by omega, hRc, hB2⟩
        case round =>
          clear hRc hB2
          obtain ⟨j, rfl, hj, hRc, hBj⟩ := hrel
          rename World => V3
          rcases Nat.lt_or_ge j n with hjn | hjn
          · have j2 := nat0 j
            have j3 := natlt hjn
            have j5 : (j : Int) ≤ 100000 := by omega
            obtain ⟨⟨p0, p1, _⟩, _, _, _⟩ := HP.out j hjn
            have hok : okR (fl k ns g j) = true := by
              obtain ⟨t1, t2, _⟩ := loc_in ns (show j < pre ns k by rw [Hn.out]; exact hjn)
              unfold fl
              exact (show okR (g _ _) = true from allR_at (allO_at HU.out.2.1 t1) t2)
            have hu4 := (isU_iff u).1 HU.out.1
            have FX := Lib.hid (fun W => rFloor (x := (fl k ns g j).x) (u := u) ⟨hu4.1, hu4.2.1⟩ ((okR_iff _).1 hok).1 W)
            have FY := Lib.hid (fun W => rFloor (x := (fl k ns g j).y) (u := u) ⟨hu4.1, hu4.2.1⟩ ((okR_iff _).1 hok).2 W)
            replace p0 := kc hBj p0
            replace p1 := kc hBj p1
            have hlt := ltn' hjn
            have hst : bxRow (fz u (fl k ns g)) rcM (j + 1) = rcUp (bxRow (fz u (fl k ns g)) rcM j) ⟨(fl k ns g j).x / u, (fl k ns g j).y / u, false⟩ := rfl
            have NX : Hid (∀ S V', bxRow (fz u (fl k ns g)) rcM (j + 1) = S → RcAt V' V.heap.size S → Below V.heap.size V V' → BxR V u (fl k ns g) n (.int .i64 ((j : Int) + 1)) V') := Lib.hid (fun S V' h1 h2 h3 => ⟨j + 1, rfl, hjn, by rw [h1]; exact h2, h3⟩)
            have hjn0 := Lib.hid hjn
            clear hok hu4 hj
            generalize bxRow (fz u (fl k ns g)) rcM (j + 1) = S1 at *
            generalize bxRow (fz u (fl k ns g)) rcM j = S0 at *
            generalize (fl k ns g j).x = px at *
            generalize (fl k ns g j).y = py at *
            have HRc := Lib.hid (And.intro hRc hBj)
            clear hRc hBj
            go_upto_region 17 with ((with_reducible refine (FX.out _).mono ?_); rintro e v1 ⟨rfl, hv1⟩)
            replace p1 := kc hv1 p1
            clear p0 FX
            go_upto_region 18 with ((with_reducible refine (FY.out _).mono ?_); rintro e v2 ⟨rfl, hv2⟩)
            have hRc := rcat_below HRc.out.1 (bt hv1 hv2)
            have hB4 := Lib.hid (bt HRc.out.2 (bt hv1 hv2))
            obtain ⟨⟨c0, c1, c2, c3⟩, f0, f1, f2, f3⟩ := id hRc
            have R := Lib.hid (NX.out S1 _ rfl (by rw [hst]; exact rc_set (rcUp S0 ⟨px / u, py / u, false⟩) hRc) (rc_below4 (rcUp S0 ⟨px / u, py / u, false⟩) hB4.out (Nat.le_refl _)))
            clear p1 FY hRc hv1 hv2 HRc NX hst
            go_wp2_with fail
            exact ⟨R.out, hlt⟩
          · obtain rfl : j = n := by omega
            have hu4 := (isU_iff u).1 HU.out.1
            have hbx := bx_fl hu4.1 HU.out.2.1 (show 0 < pre ns k by rw [Hn.out]; exact h0)
            rw [Hn.out] at hbx
            rw [hbx] at hRc
            have hin := bxAll_in HU.out.2.1
            have q1 := fl_in (x := (bxAll ns g k).a) hu4.1 (by omega)
            have q2 := fl_in (x := (bxAll ns g k).b) hu4.1 (by omega)
            obtain ⟨⟨wx1, iw1⟩, wx2, iw2⟩ := fl_facts (x0 := (bxAll ns g k).a) (x1 := (bxAll ns g k).c) hu4.1 (by omega) (by omega)
            obtain ⟨⟨wy1, iw3⟩, wy2, iw4⟩ := fl_facts (x0 := (bxAll ns g k).b) (x1 := (bxAll ns g k).d) hu4.1 (by omega) (by omega)
            have HF13 : Hid ((sd ((bxAll ns g k).c / u - (bxAll ns g k).a / u + 1) && sd ((bxAll ns g k).d / u - (bxAll ns g k).b / u + 1)) = false → ∀ w', Below w.heap.size w w' → RD u k ns g (bxAll ns g k) (.returned (.tuple #[.agg #[.int .i64 0, .int .i64 0, .int .i64 0, .int .i64 0, .slice none 0 0], .int .i64 13])) w' ∧ Below w.heap.size w w') :=
              Lib.hid (fun h w' hb => ⟨.inr (.inl ⟨by rw [Hn.out]; exact h0, h, rfl⟩), hb⟩)
            have HFok : Hid (∀ (W H n2 : Nat) (sa : Option Addr) w', n2 = W * H → (bxAll ns g k).c / u - (bxAll ns g k).a / u + 1 = (W : Int) → (bxAll ns g k).d / u - (bxAll ns g k).b / u + 1 = (H : Int) → W ≤ 96 → H ≤ 96 → DA w' sa n2 (dotF k ns g u ((bxAll ns g k).a / u) ((bxAll ns g k).b / u) W) → Below w.heap.size w w' → RD u k ns g (bxAll ns g k) (.returned (.tuple #[.agg #[.int .i64 ((bxAll ns g k).a / u), .int .i64 ((bxAll ns g k).b / u), .int .i64 (W : Int), .int .i64 (H : Int), .slice sa n2 n2], .int .i64 0])) w' ∧ Below w.heap.size w w') :=
              Lib.hid (fun W H n2 sa w' e1 e2 e3 e4 e5 hd hb => ⟨.inr (.inr ⟨by rw [Hn.out]; exact h0, W, H, n2, sa, e1, e2.symm, e3.symm, e4, e5, rfl, hd⟩), hb⟩)
            have HQ := Lib.hid (And.intro q1 q2)
            have HB3 := Lib.hid (bt HB1.out.2 hBj)
            have HPz3 := Lib.hid (pzat_below HPz.out hBj)
            have hbX : V.heap.size < V3.heap.size := block_lt_of_cell hRc.1.1
            have hRc' := Lib.hid hRc
            obtain ⟨⟨c0, c1, c2, c3⟩, _, _, _, _⟩ := hRc
            clear iw1 iw2 iw3 iw4 hin q1 q2 hu4 hbx hj hjn hn9 HP HLr n8 n7 hBj HPz HB1
            generalize (bxAll ns g k).a / u = La at *
            generalize (bxAll ns g k).b / u = Lb at *
            generalize (bxAll ns g k).c / u = Lc at *
            generalize (bxAll ns g k).d / u = Ld at *
            rcases hsd : (sd (Lc - La + 1) && sd (Ld - Lb + 1)) with _ | _
            · have NW := Lib.hid (fun V => rNew_no _ _ hsd V)
              have HF := Lib.hid (HF13.out hsd)
              unfold bv at NW
              clear hsd HFok HF13
              go_upto_region 20 with ((with_reducible refine (NW.out _).mono ?_); rintro e V4 ⟨rfl, hB4⟩)
              have hB5 := bt hB4 (ba (Below.refl V4.heap.size V4) (.cells #[.int .i64 0, .int .i64 0, .slice none 0 0] 38))
              have HB5 := Lib.hid (bt HB3.out hB5)
              obtain ⟨⟨z0, z1, z2, z3, z4⟩, f0, f1, f2, f3, f4⟩ := pzat_below HPz3.out hB5
              clear c0 c1 c2 c3 hB4 hB5
              generalize V4.alloc (.cells #[.int .i64 0, .int .i64 0, .slice none 0 0] 38) = V5 at *
              go_wp2_with fail
              refine bodyPost_ret (v := .tuple #[.agg #[.int .i64 0, .int .i64 0, .int .i64 0, .int .i64 0, .slice none 0 0], .int .i64 13]) (by simp [results, Try.results18, go_sem, *]) rfl (HF.out _ ?_)
              repeat (with_reducible refine bs ?_ (Nat.le_refl _) _)
              exact HB5.out
            · have hsd2 := hsd
              rw [Bool.and_eq_true, sd_iff, sd_iff] at hsd2
              obtain ⟨W, hW⟩ : ∃ W : Nat, Lc - La + 1 = (W : Int) := ⟨(Lc - La + 1).toNat, by omega⟩
              obtain ⟨H, hH⟩ : ∃ H : Nat, Ld - Lb + 1 = (H : Int) := ⟨(Ld - Lb + 1).toNat, by omega⟩
              have hWH : W ≤ 96 ∧ H ≤ 96 := by omega
              obtain ⟨n2, hn2⟩ : ∃ n2, W * H = n2 := ⟨_, rfl⟩
              have NW : Hid (∀ V, Calls Try.prog 40 #[.int .i64 (Lc - La + 1), .int .i64 (Ld - Lb + 1)] V fun e w' => ∃ b, e = .returned (.tuple #[.agg #[.int .i64 (W : Int), .int .i64 (H : Int), .slice (some ⟨b, 0, none⟩) n2 n2], .int .i64 0]) ∧ OB w' b n2 (fun _ => false) ∧ (V.heap.size ≤ b ∧ b < w'.heap.size) ∧ Below V.heap.size V w') := Lib.hid (fun V => by
                rw [hW, hH] at hsd ⊢
                exact rNew_yes (W : Int) (H : Int) n2 hsd (by rw [← hn2]; simp) V)
              have HF := Lib.hid (fun sa w' => HFok.out W H n2 sa w' hn2.symm hW hH hWH.1 hWH.2)
              have HWH := Lib.hid (And.intro hWH hn2)
              clear hsd hsd2 HFok HF13 hW hH hWH hn2
              go_upto_region 20 with ((with_reducible refine (NW.out _).mono ?_); rintro e V4 ⟨b, rfl, hOB, hbb, hB4⟩)
              have hA5 : Below V4.heap.size V4 (V4.alloc (.cells #[.int .i64 (W : Int), .int .i64 (H : Int), .slice (some ⟨b, 0, none⟩) n2 n2] 38)) := ba (Below.refl _ _) _
              have hB5 := bt hB4 hA5
              have HB5 := Lib.hid (bt HB3.out hB5)
              have HPz5 := Lib.hid (pzat_below HPz3.out hB5)
              have HRc5 := Lib.hid (rcat_below hRc'.out hB5)
              have HOB5 := Lib.hid (ob_below hOB hA5)
              have ho : (V4.alloc (.cells #[.int .i64 (W : Int), .int .i64 (H : Int), .slice (some ⟨b, 0, none⟩) n2 n2] 38)).cell? ⟨V4.heap.size, 0, none⟩ = some (.int .i64 (W : Int)) ∧ (V4.alloc (.cells #[.int .i64 (W : Int), .int .i64 (H : Int), .slice (some ⟨b, 0, none⟩) n2 n2] 38)).cell? ⟨V4.heap.size, 1, none⟩ = some (.int .i64 (H : Int)) ∧ (V4.alloc (.cells #[.int .i64 (W : Int), .int .i64 (H : Int), .slice (some ⟨b, 0, none⟩) n2 n2] 38)).cell? ⟨V4.heap.size, 2, none⟩ = some (.slice (some ⟨b, 0, none⟩) n2 n2) := ⟨by go_cell, by go_cell, by go_cell⟩
              have hne : V4.heap.size ≠ b ∧ V.heap.size ≠ b ∧ w.heap.size ≠ b ∧ w.heap.size ≤ b := by
                have := HB3.out.size
                omega
              have HO5 := Lib.hid ho
              have HNE := Lib.hid hne
              clear c0 c1 c2 c3 hB4 hB5 hA5 hOB hbb ho hne hRc' HPz3 NW wx1 wx2 wy1 wy2
              generalize V4.alloc (.cells #[.int .i64 (W : Int), .int .i64 (H : Int), .slice (some ⟨b, 0, none⟩) n2 n2] 38) = V5 at *
              generalize V4.heap.size = bO at *
              generalize V.heap.size = bX at *
              go_upto_region 22 with (fail)
              go_wp2_with fail
              have HOT := Lib.hid (fun V' (hG : V5.grownBy V' (some b)) => ot_below HA.out (gB HB5.out hG HNE.out.2.2.2))
              have CK := Lib.hid (fun V' (hG : V5.grownBy V' (some b)) => And.intro (gc hG HO5.out.1 HNE.out.1) (And.intro (gc hG HO5.out.2.1 HNE.out.1) (And.intro (gc hG HO5.out.2.2 HNE.out.1) (And.intro (gc hG HRc5.out.1.1 HNE.out.2.1) (gc hG HRc5.out.1.2.1 HNE.out.2.1)))))
              go_loopw [16] (fun s16 V' => LyR V5 b n2 (dotF k ns g u La Lb W) W H s16 V') (fun s16 _ => H - (intOf s16).toNat)
              case atStart => exact ⟨0, rfl, by omega, Bm.ob_congr HOB5.out (fun i _ => by unfold pF; simp), gr _ _⟩
              case round =>
                obtain ⟨y, rfl, hy, hOBy, hGy⟩ := hrel
                rename World => Vy
                rcases Nat.lt_or_ge y H with hyH | hyH
                · have y2 := nat0 y
                  have y3 := natlt hyH
                  obtain ⟨c0, c1, c2, c3, c4⟩ := CK.out _ hGy
                  have HY := Lib.hid (And.intro hyH (And.intro hOBy hGy))
                  clear hy hOBy hGy
                  go_wp2_with fail
                  clear c0 c1 c2 c3 c4
                  go_loopw [17] (fun s17 V' => LxR V5 b n2 (dotF k ns g u La Lb W) W y s17 V') (fun s17 _ => W - (intOf s17).toNat)
                  case atStart => exact ⟨0, rfl, by omega, HY.out.2.1, HY.out.2.2⟩
                  case round =>
                    obtain ⟨x, rfl, hx, hOBx, hGx⟩ := hrel
                    rename World => V8
                    rcases Nat.lt_or_ge x W with hxW | hxW
                    · have x2 := nat0 x
                      have x3 := natlt hxW
                      obtain ⟨c0, c1, c2, c3, c4⟩ := CK.out _ hGx
                      obtain ⟨idx, hidx, hidn, wi1, wi2, wi3, wi4, wi5, wi6, wi7, wi8⟩ := idx_facts (La := La) (Lb := Lb) HWH.out.1 HWH.out.2 HQ.out HY.out.1 hxW
                      obtain ⟨s0, s1⟩ := hOBx idx hidn
                      have hlt := ltn' hxW
                      have CV : Hid (∀ W', V8.grownBy W' (some b) → Calls Try.prog 16 #[.slice a k c, .int .i64 u, .int .i64 (La + (x : Int)), .int .i64 (Lb + (y : Int))] W' fun e w' => e = .returned (.int .i64 (cvr k ns g u (La + (x : Int)) (Lb + (y : Int)) : Nat)) ∧ Below W'.heap.size W' w') := Lib.hid (fun W' hG => rCover_any a k c ns g u (La + (x : Int)) (Lb + (y : Int)) (by have := HU.out.2.2.1; omega) (by have := HU.out.2.2.2; omega) W' (HOT.out _ (gT2 hGx hG)))
                      have NX : Hid (∀ v wa, v = decide (2 ≤ cvr k ns g u (La + (x : Int)) (Lb + (y : Int))) → Below V8.heap.size V8 wa → LxR V5 b n2 (dotF k ns g u La Lb W) W y (.int .i64 ((x : Int) + 1)) (wa.setCell ⟨b, idx, none⟩ (.bool v))) := Lib.hid (fun v wa hv hb => ⟨x + 1, rfl, hxW, ob_set (ob_below hOBx hb) hidn (fun i => by rw [pF_next (dotF k ns g u La Lb W) hidx i, hv, dotF_at La Lb hidx hxW]), gs (gt hGx hb) _⟩)
                      have z1 : (0 : Int) ≤ (idx : Int) := nat0 idx
                      have z2 : (idx : Int) < (n2 : Int) := natlt hidn
                      have hd1 : decide ((cvr k ns g u (La + (x : Int)) (Lb + (y : Int)) : Int) ≥ 2) = decide (2 ≤ cvr k ns g u (La + (x : Int)) (Lb + (y : Int))) := by rw [decide_eq_decide]; omega
                      generalize cvr k ns g u (La + (x : Int)) (Lb + (y : Int)) = cv at *
                      have C0 : ∀ V', V8.grownBy V' (some b) → V'.cell? ⟨bO, 0, none⟩ = some (.int .i64 (W : Int)) := fun _ h => gc h c0 HNE.out.1
                      have C2 : ∀ V', V8.grownBy V' (some b) → V'.cell? ⟨bO, 2, none⟩ = some (.slice (some ⟨b, 0, none⟩) n2 n2) := fun _ h => gc h c2 HNE.out.1
                      have C3 : ∀ V', V8.grownBy V' (some b) → V'.cell? ⟨bX, 0, none⟩ = some (.int .i64 La) := fun _ h => gc h c3 HNE.out.2.1
                      have C4 : ∀ V', V8.grownBy V' (some b) → V'.cell? ⟨bX, 1, none⟩ = some (.int .i64 Lb) := fun _ h => gc h c4 HNE.out.2.1
                      go_upto_region 28 with (fail)
                      clear c0 c1 c2 c3 c4 hx hOBx hGx hidx hidn
                      go_region_held3 (fun w' => V8.grownBy w' (some b)) (first
                        | (with_reducible exact gs (by assumption) _)
                        | (with_reducible exact gd1 (gr _ _))
                        | (with_reducible exact gt (by assumption) hba))
                        (first
                        | ((with_reducible refine (CV.out _ (by with_reducible assumption)).mono ?_); rintro en wa ⟨rfl, hba⟩; replace s1 := kf hba s0 s1; replace s0 := kc hba s0; have hba' := hba))
                      have hb2 : Below V8.heap.size V8 wa := bt (bd1 (Below.refl _ _)) hba'
                      have R := Lib.hid (fun v hv => NX.out v wa hv hb2)
                      clear NX CV C0 C2 C3 C4 s0 s1 hba' wi1 wi2 wi3 wi4 wi5 wi6 wi7 wi8
                      have wx : wrap64 ((x : Int) + 1) = (x : Int) + 1 := w6 (by have := HWH.out.1; omega)
                      go_wp2_with fail
                      first
                      | exact ⟨R.out _ (by first | rfl | exact hd1), hlt⟩
                      | (rw [wx]; exact ⟨R.out _ (by first | rfl | exact hd1), hlt⟩)
                    · obtain rfl : x = W := by omega
                      have R : Hid (LyR V5 b n2 (dotF k ns g u La Lb x) x H (.int .i64 ((y : Int) + 1)) V8) := Lib.hid ⟨y + 1, rfl, HY.out.1, Bm.ob_congr hOBx (fun i _ => by unfold pF; rw [Nat.succ_mul, Nat.add_zero]), hGx⟩
                      obtain ⟨c0, c1, c2, c3, c4⟩ := CK.out _ hGx
                      have hlt := ltn' HY.out.1
                      have y6 : (y : Int) ≤ 100 := by have := HY.out.1; have := HWH.out.1; omega
                      clear hOBx hGx hx
                      go_wp2_with fail
                      exact ⟨R.out, hlt⟩
                · obtain rfl : y = H := by omega
                  obtain ⟨c0, c1, c2, c3, c4⟩ := CK.out _ hGy
                  have hPz := pzat_gr HPz5.out hGy HNE.out.2.2.1
                  have HDy : Hid (OB Vy b n2 (dotF k ns g u La Lb W)) := Lib.hid (Bm.ob_congr hOBy (fun i hi => by unfold pF; rw [decide_eq_true (by rw [Nat.mul_comm, HWH.out.2]; omega), Bool.true_and]))
                  have HBy := Lib.hid (gB HB5.out hGy HNE.out.2.2.2)
                  obtain ⟨⟨z0, z1, z2, z3, z4⟩, f0, f1, f2, f3, f4⟩ := hPz
                  clear hOBy hGy hy HOT CK HOB5 HO5 HRc5 HPz5
                  go_wp2_with fail
                  refine bodyPost_ret (v := .tuple #[.agg #[.int .i64 La, .int .i64 Lb, .int .i64 (W : Int), .int .i64 (y : Int), .slice (some ⟨b, 0, none⟩) n2 n2], .int .i64 0]) (by simp [results, Try.results18, go_sem, *]) rfl (HF.out _ _ ?_ ?_)
                  · have hn := HNE.out.2.2.1.symm
                    exact ob_da (Bm.ob_other (Bm.ob_other (Bm.ob_other (Bm.ob_other (Bm.ob_other HDy.out hn) hn) hn) hn) hn)
                  · repeat (with_reducible refine bs ?_ (Nat.le_refl _) _)
                    exact HBy.out
end Go.Proofs.Ytjeiapgniflnaaa.Rs
