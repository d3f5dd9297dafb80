/-
  Layer 6 (outline): Check and Box of the document's own.
-/
import Derived.Test.YtcogoomajfahkaaOtE0
import Derived.Test.YtcogoomajfahkaaOtB
namespace Go.Proofs.Ytcogoomajfahkaa.Ot
open Go.RowKit
def RcIn (w : World) (g : Nat → Pt) (n : Nat) (v : Value) (V : World) : Prop := ∃ i : Nat, v = .int .i64 i ∧ i ≤ n ∧ allP g i = true ∧ Below w.heap.size w V
theorem okP_at (p : Pt) : okP p = true ∧ decide (p.x < -512) = false ∧ decide (p.x > 512) = false ∧ decide (p.y < -512) = false ∧ decide (p.y > 512) = false ∨
    okP p = false ∧ (decide (p.x < -512) = true ∨ decide (p.x < -512) = false ∧ (decide (p.x > 512) = true ∨ decide (p.x > 512) = false ∧ (decide (p.y < -512) = true ∨ decide (p.y < -512) = false ∧ decide (p.y > 512) = true))) := by
  unfold okP inC
  simp only [Bool.and_eq_true, decide_eq_true_eq, decide_eq_false_iff_not, Bool.and_eq_false_iff]
  omega
set_option maxRecDepth 100000 in
set_option maxHeartbeats 4000000 in
theorem rCheck_any (a : Option Addr) (N c : Nat) (ns : Nat → Nat) (g : Nat → Nat → Pt) (hN : N ≤ 1000000) (hs : pre ns N ≤ 1000000) (w : World) (hA : OT w a N ns g) :
    Calls Try.prog 14 #[.slice a N c] w fun e w' => e = .returned (.int .i64 (ckO N ns g)) ∧ Below w.heap.size w w' := by
  unfold ckO
  by_cases h8 : 8 < N
  · rw [if_pos h8]
    have q : decide ((N : Int) > 8) = true := decide_eq_true (by omega)
    go_enter Try.func14, Try.ntmps14
    go_wp2_with fail
    go_ret
    exact ⟨rfl, Below.refl _ _⟩
  rw [if_neg h8]
  have q : decide ((N : Int) > 8) = false := decide_eq_false (by omega)
  have CT := Lib.hid (rCount_any a N c ns g hN hs w hA)
  have HA := Lib.hid hA
  by_cases h64 : 64 < pre ns N
  · rw [if_pos h64]
    have q2 : decide (((pre ns N : Nat) : Int) > 64) = true := decide_eq_true (by omega)
    generalize pre ns N = z at *
    go_enter Try.func14, Try.ntmps14
    go_wp2_with fail
    refine CT.out.mono ?_
    rintro e w' ⟨rfl, rfl⟩
    go_wp2_with fail
    go_ret
    exact ⟨rfl, Below.refl _ _⟩
  rw [if_neg h64]
  have q2 : decide (((pre ns N : Nat) : Int) > 64) = false := decide_eq_false (by omega)
  have HS : Hid (∀ k, k < N → ns k ≤ 1000000) := Lib.hid (fun k hk => by have := pre_mono ns (show k + 1 ≤ N by omega); rw [pre] at this; omega)
  generalize pre ns N = z at *
  clear hA
  go_enter Try.func14, Try.ntmps14
  go_wp2_with fail
  refine CT.out.mono ?_
  rintro e w' ⟨rfl, rfl⟩
  go_wp2_with fail
  go_loopw [3] (fun v V => CkRel w ns g N v V) (fun v _ => N - (intOf v).toNat)
  case atStart => exact ⟨0, rfl, by omega, rfl, Below.refl _ _⟩
  case round =>
    obtain ⟨k, rfl, hle, hz, hB⟩ := hrel
    rename World => V
    rcases Nat.lt_or_ge k N with hk | hk
    · obtain ⟨b, off, a', c', rfl, hc, h1, h2, hp⟩ := ot_below HA.out hB k hk
      have hn6 := HS.out k hk
      have k2 : (0 : Int) ≤ (k : Int) := by omega
      have k3 : (k : Int) < (N : Int) := by omega
      have hN0 : Hid (ckC (ns k) (g k) = 0 → ∀ V', Below w.heap.size w V' → CkRel w ns g N (.int .i64 ((k : Int) + 1)) V') := Lib.hid (fun h0 V' h2 => ⟨k + 1, rfl, by omega, by rw [ckTo, if_pos hz, h0], h2⟩)
      have hY0 : Hid (∀ z, ckC (ns k) (g k) = z → ¬ z = 0 → ckTo ns g N = z) := Lib.hid (fun z h1 h0 => by rw [← h1]; exact ckTo_no hz (by rw [h1]; exact h0) N hk)
      clear hz
      by_cases h3 : ns k < 3
      · have hR := Lib.hid (hY0.out 11 (by unfold ckC; rw [if_pos h3]) (by decide))
        have q3 : decide (((ns k : Nat) : Int) < 3) = true := decide_eq_true (by omega)
        clear hN0 hY0 hp
        generalize ns k = n at *
        go_wp2_with fail
        go_ret
        exact ⟨by rw [hR.out]; rfl, hB⟩
      · have q3 : decide (((ns k : Nat) : Int) < 3) = false := decide_eq_false (by omega)
        obtain ⟨b', o', rfl, x0, x1, x2⟩ := hp 0 (by omega)
        rw [Nat.zero_mul, Nat.add_zero] at x2
        have n0 : 0 < ns k := by omega
        by_cases ho : (g k 0).o = false
        · have hR := Lib.hid (hY0.out 11 (by unfold ckC; rw [if_neg h3, if_pos ho]) (by decide))
          rw [ho] at x2
          clear hN0 hY0 hp x0 x1 ho
          generalize ns k = n at *
          go_wp2_with fail
          go_ret
          exact ⟨by rw [hR.out]; rfl, hB⟩
        · have ho' : (g k 0).o = true := by simpa using ho
          rw [ho'] at x2
          have hN1 : Hid (allP (g k) (ns k) = true → ∀ V', Below w.heap.size w V' → CkRel w ns g N (.int .i64 ((k : Int) + 1)) V') := Lib.hid (fun h => hN0.out (by unfold ckC; rw [if_neg h3, if_neg ho]; exact ck3_yes h))
          have hY1 : Hid (∀ i, i < ns k → okP (g k i) = false → ckTo ns g N = 10) := Lib.hid (fun i hi h => hY0.out 10 (by unfold ckC; rw [if_neg h3, if_neg ho]; exact ck3_no (allP_no h _ hi)) (by decide))
          have HP := Lib.hid hp
          have HC := Lib.hid hc
          clear hN0 hY0 hp x0 x1 ho ho'
          generalize ns k = n at *
          generalize g k = gk at *
          go_wp2_with fail
          clear x2
          go_loopw [4] (fun v W => RcIn V gk n v W) (fun v _ => n - (intOf v).toNat)
          case atStart => exact ⟨0, rfl, by omega, rfl, Below.refl _ _⟩
          case round =>
            clear hc
            obtain ⟨i, rfl, hi, hall, hW⟩ := hrel
            rename World => W
            have hc := kc hW HC.out
            have i2 : (0 : Int) ≤ (i : Int) := by omega
            rcases Nat.lt_or_ge i n with hin | hin
            · obtain ⟨b2, o2, e2, y0, y1, y2⟩ := HP.out i hin
              cases e2
              replace y0 := kc hW y0
              replace y1 := kc hW y1
              replace y2 := kc hW y2
              have i3 : (i : Int) < (n : Int) := by omega
              rcases okP_at (gk i) with ⟨hok, t0, t1, t2, t3⟩ | ⟨hok, hbad⟩
              · have hM : Hid (∀ W', Below W.heap.size W W' → RcIn V gk n (.int .i64 ((i : Int) + 1)) W') := Lib.hid (fun W' hb => ⟨i + 1, rfl, by omega, by rw [allP, hall, hok]; rfl, bt hW hb⟩)
                clear hall hok hN1 hY1
                generalize gk i = p at *
                go_wp2_with fail
                exact ⟨hM.out _ (ba (Below.refl _ _) _), by simp [intOf]; omega⟩
              · have hR := Lib.hid (hY1.out i hin hok)
                clear hall hok hN1 hY1
                generalize gk i = p at *
                rcases hbad with t0 | ⟨t0, t1 | ⟨t1, t2 | ⟨t2, t3⟩⟩⟩
                all_goals
                  go_wp2_with fail
                  go_ret
                  exact ⟨by rw [hR.out]; rfl, bt hB (bt hW (ba (Below.refl _ _) _))⟩
            · obtain rfl : i = n := by omega
              have R := Lib.hid (hN1.out hall _ (bt hB hW))
              clear hall hN1 hY1
              go_wp2_with fail
              exact ⟨R.out, by simp [intOf]; omega⟩
    · obtain rfl : k = N := by omega
      have hL := Lib.hid hz
      clear hz
      go_wp2
      go_ret
      exact ⟨by rw [hL.out]; rfl, hB⟩
theorem rc_up4 {V : World} {b : Nat} {r : Rc} (p : Pt) (h : RcAt V b r) : RcAt ((((V.setCell ⟨b, 0, none⟩ (.int .i64 (min r.a p.x))).setCell ⟨b, 1, none⟩ (.int .i64 (min r.b p.y))).setCell ⟨b, 2, none⟩ (.int .i64 (max r.c p.x))).setCell ⟨b, 3, none⟩ (.int .i64 (max r.d p.y))) b (rcUp r p) := by
  obtain ⟨⟨h1, h2, h3, h4⟩, f1, f2, f3, f4⟩ := h
  exact ⟨⟨by show _ = some (Value.int IntKind.i64 (min r.a p.x)); go_cell, by show _ = some (Value.int IntKind.i64 (min r.b p.y)); go_cell, by show _ = some (Value.int IntKind.i64 (max r.c p.x)); go_cell, by show _ = some (Value.int IntKind.i64 (max r.d p.y)); go_cell⟩, by go_cell, by go_cell, by go_cell, by go_cell⟩
theorem rc_keep4 {V : World} {b s : Nat} {r : Rc} (h : RcAt V s r) (hn : s ≠ b) (v0 v1 v2 v3 : Value) : RcAt ((((V.setCell ⟨b, 0, none⟩ v0).setCell ⟨b, 1, none⟩ v1).setCell ⟨b, 2, none⟩ v2).setCell ⟨b, 3, none⟩ v3) s r := by
  obtain ⟨⟨h1, h2, h3, h4⟩, f1, f2, f3, f4⟩ := h
  have hn' : ¬ b = s := fun e => hn e.symm
  exact ⟨⟨by go_cell, by go_cell, by go_cell, by go_cell⟩, by go_cell, by go_cell, by go_cell, by go_cell⟩
/-- What the document's own Box holds. -/
structure RB (w V : World) (p : Nat → Pt) (j : Nat) : Prop where
  r : RcAt V (w.heap.size + 1) (bxN p j)
  z : RcAt V w.heap.size rc0
  be : Below w.heap.size w V
theorem rb_below {w V V' : World} {p : Nat → Pt} {j : Nat} (h : RB w V p j) (hB : Below V.heap.size V V') : RB w V' p j :=
  ⟨rcat_below h.r hB, rcat_below h.z hB, bt h.be hB⟩
def RbOut (w : World) (N : Nat) (ns : Nat → Nat) (g : Nat → Nat → Pt) (s4 s5 : Value) (V : World) : Prop := ∃ k : Nat, s5 = .int .i64 k ∧ k ≤ N ∧ s4 = .bool (decide (0 < pre ns k)) ∧ RB w V (fl N ns g) (pre ns k)
def RbIn (w : World) (N : Nat) (ns : Nat → Nat) (g : Nat → Nat → Pt) (k : Nat) (s4 s6 : Value) (V : World) : Prop := ∃ i : Nat, s6 = .int .i64 i ∧ i ≤ ns k ∧ s4 = .bool (decide (0 < pre ns k + i)) ∧ RB w V (fl N ns g) (pre ns k + i)
theorem fl_at {N : Nat} {ns : Nat → Nat} {g : Nat → Nat → Pt} {k i : Nat} (hk : k < N) (hi : i < ns k) : fl N ns g (pre ns k + i) = g k i := by
  unfold fl; rw [loc_at ns hi hk]
set_option maxRecDepth 100000 in
set_option maxHeartbeats 8000000 in
theorem rBox_any (a : Option Addr) (N c : Nat) (ns : Nat → Nat) (g : Nat → Nat → Pt) (hN : N ≤ 1000000) (hs : pre ns N ≤ 1000000) (w : World) (hA : OT w a N ns g) :
    Calls Try.prog 18 #[.slice a N c] w fun e w' => e = .returned (rcV (bxO N ns g)) ∧ Below w.heap.size w w' := by
  have HA := Lib.hid hA
  clear hA
  unfold rcV
  go_enter Try.func18, Try.ntmps18
  go_wp2_with fail
  have h0 : RB w ((w.alloc (.cells #[.int .i64 0, .int .i64 0, .int .i64 0, .int .i64 0] 34)).alloc (.cells #[.int .i64 0, .int .i64 0, .int .i64 0, .int .i64 0] 34)) (fl N ns g) 0 :=
    ⟨⟨⟨by show World.cell? _ _ = some (Value.int IntKind.i64 0); go_cell, by show World.cell? _ _ = some (Value.int IntKind.i64 0); go_cell, by show World.cell? _ _ = some (Value.int IntKind.i64 0); go_cell, by show World.cell? _ _ = some (Value.int IntKind.i64 0); go_cell⟩, by go_cell, by go_cell, by go_cell, by go_cell⟩,
      ⟨⟨by show World.cell? _ _ = some (Value.int IntKind.i64 0); go_cell, by show World.cell? _ _ = some (Value.int IntKind.i64 0); go_cell, by show World.cell? _ _ = some (Value.int IntKind.i64 0); go_cell, by show World.cell? _ _ = some (Value.int IntKind.i64 0); go_cell⟩, by go_cell, by go_cell, by go_cell, by go_cell⟩, ba (ba (Below.refl _ _) _) _⟩
  generalize ((w.alloc (.cells #[.int .i64 0, .int .i64 0, .int .i64 0, .int .i64 0] 34)).alloc (.cells #[.int .i64 0, .int .i64 0, .int .i64 0, .int .i64 0] 34)) = W0 at *
  go_loopw [4, 5] (fun s4 s5 V => RbOut w N ns g s4 s5 V) (fun _ s5 _ => N - (intOf s5).toNat)
  case atStart => exact ⟨0, rfl, by omega, rfl, h0⟩
  case round =>
    clear h0
    obtain ⟨k, rfl, hle, rfl, hR⟩ := hrel
    rename World => V
    rcases Nat.lt_or_ge k N with hk | hk
    · obtain ⟨b, off, a', c', rfl, hc, h1, h2, hp⟩ := ot_below HA.out hR.be k hk
      have k2 : (0 : Int) ≤ (k : Int) := by omega
      have k3 : (k : Int) < (N : Int) := by omega
      have hnk : ns k ≤ 1000000 := by have := pre_mono ns (show k + 1 ≤ N by omega); rw [pre] at this; omega
      have hNX : Hid (∀ W, RB w W (fl N ns g) (pre ns k + ns k) → RbOut w N ns g (.bool (decide (0 < pre ns k + ns k))) (.int .i64 ((k : Int) + 1)) W) := Lib.hid (fun W h => ⟨k + 1, rfl, by omega, rfl, h⟩)
      have HP := Lib.hid hp
      have HC := Lib.hid hc
      have HR := Lib.hid hR
      have hlw : b < w.heap.size := by
        obtain ⟨b2, off2, a2, c2, e2, hc2, _⟩ := HA.out k hk
        cases e2
        exact block_lt_of_cell hc2
      clear hp hR
      go_wp2_with fail
      go_loopw [4, 6] (fun s4 s6 W => RbIn w N ns g k s4 s6 W ∧ Hid (Below w.heap.size w W)) (fun _ s6 _ => ns k - (intOf s6).toNat)
      case atStart => exact ⟨⟨0, rfl, by omega, rfl, HR.out⟩, Lib.hid HR.out.be⟩
      case round =>
        clear hc
        obtain ⟨⟨i, rfl, hi, rfl, hR⟩, _⟩ := hrel
        rename World => W
        obtain ⟨bO, oO, aO, cO, eO, hc, _, _, hpO⟩ := ot_below HA.out hR.be k hk
        cases eO
        have i2 : (0 : Int) ≤ (i : Int) := by omega
        have hbe := hR.be
        rcases Nat.lt_or_ge i (ns k) with hin | hin
        · obtain ⟨b2, o2, rfl, y0, y1, y2⟩ := hpO i hin
          have i3 : (i : Int) < ((ns k : Nat) : Int) := by omega
          obtain ⟨⟨r0, r1, r2, r3⟩, f0, f1, f2, f3⟩ := hR.r
          have hM : Hid (∀ q r W', bxN (fl N ns g) (pre ns k + i + 1) = rcUp r q → RcAt W' (w.heap.size + 1) (rcUp r q) → RcAt W' w.heap.size rc0 → Below w.heap.size w W' → RbIn w N ns g k (.bool true) (.int .i64 ((i : Int) + 1)) W' ∧ Hid (Below w.heap.size w W')) :=
            Lib.hid (fun q r W' e h1 h2 h3 => ⟨⟨i + 1, rfl, by omega, by rw [decide_eq_true (show 0 < pre ns k + (i + 1) by omega)], ⟨by rw [show pre ns k + (i + 1) = pre ns k + i + 1 by omega, e]; exact h1, h2, h3⟩⟩, Lib.hid h3⟩)
          have hfl := fl_at (g := g) hk hin
          have hZ := Lib.hid hR.z
          have hRR := Lib.hid hR.r
          have hst : ¬ w.heap.size + 1 = W.heap.size := by have := block_lt_of_cell r0; simp only at this; omega
          by_cases hj : 0 < pre ns k + i
          · have hu : Hid (bxN (fl N ns g) (pre ns k + i + 1) = rcUp (bxN (fl N ns g) (pre ns k + i)) (g k i)) := Lib.hid (by rw [bxN, if_neg (by omega), hfl])
            rw [decide_eq_true hj]
            clear hR hpO hfl hj hNX HP HR
            generalize g k i = p at *
            generalize pre ns k + i = j at *
            generalize bxN (fl N ns g) j = r at *
            have R := Lib.hid (hM.out p r _ hu.out (rc_up4 p (rcat_below hRR.out (ba (Below.refl _ _) (.cells #[.int .i64 p.x, .int .i64 p.y, .bool p.o] 62)))) (rc_keep4 (rcat_below hZ.out (ba (Below.refl _ _) _)) (by omega) _ _ _ _) (bs (bs (bs (bs (ba hbe _) (by simp <;> omega) _) (by simp <;> omega) _) (by simp <;> omega) _) (by simp <;> omega) _))
            clear hM hu hZ hRR hbe HC
            have hst2 : ¬ W.heap.size = w.heap.size + 1 := fun e => hst e.symm
            have e0 := kc (ba (Below.refl _ W) (.cells #[.int .i64 p.x, .int .i64 p.y, .bool p.o] 62)) r0
            have e1 := kc (ba (Below.refl _ W) (.cells #[.int .i64 p.x, .int .i64 p.y, .bool p.o] 62)) r1
            have e2 := kc (ba (Below.refl _ W) (.cells #[.int .i64 p.x, .int .i64 p.y, .bool p.o] 62)) r2
            have e3 := kc (ba (Below.refl _ W) (.cells #[.int .i64 p.x, .int .i64 p.y, .bool p.o] 62)) r3
            have d0 := kf (ba (Below.refl _ W) (.cells #[.int .i64 p.x, .int .i64 p.y, .bool p.o] 62)) r0 f0
            have d1 := kf (ba (Below.refl _ W) (.cells #[.int .i64 p.x, .int .i64 p.y, .bool p.o] 62)) r1 f1
            have d2 := kf (ba (Below.refl _ W) (.cells #[.int .i64 p.x, .int .i64 p.y, .bool p.o] 62)) r2 f2
            have d3 := kf (ba (Below.refl _ W) (.cells #[.int .i64 p.x, .int .i64 p.y, .bool p.o] 62)) r3 f3
            go_wp2_with fail
            exact ⟨R.out, by simp [intOf]; omega⟩
          · have hu : Hid (bxN (fl N ns g) (pre ns k + i + 1) = rcUp (rcSt (g k i)) (g k i)) := Lib.hid (by rw [bxN, if_pos (by omega), ← hfl, show pre ns k + i = 0 by omega])
            rw [decide_eq_false hj]
            clear hR hpO hfl hj hNX HP HR
            generalize g k i = p at *
            generalize pre ns k + i = j at *
            generalize bxN (fl N ns g) j = r at *
            have R := Lib.hid (hM.out p (rcSt p) _ hu.out (rcUp_st p ▸ rc_st4 p (rc_st4 p (rcat_below hRR.out (ba (Below.refl _ _) (.cells #[.int .i64 p.x, .int .i64 p.y, .bool p.o] 62))))) (rc_keep4 (rc_keep4 (rcat_below hZ.out (ba (Below.refl _ _) _)) (by omega) _ _ _ _) (by omega) _ _ _ _) (bs (bs (bs (bs (bs (bs (bs (bs (ba hbe _) (by simp <;> omega) _) (by simp <;> omega) _) (by simp <;> omega) _) (by simp <;> omega) _) (by simp <;> omega) _) (by simp <;> omega) _) (by simp <;> omega) _) (by simp <;> omega) _))
            clear hM hu hZ hRR hbe HC
            have hst2 : ¬ W.heap.size = w.heap.size + 1 := fun e => hst e.symm
            have e0 := kc (ba (Below.refl _ W) (.cells #[.int .i64 p.x, .int .i64 p.y, .bool p.o] 62)) r0
            have e1 := kc (ba (Below.refl _ W) (.cells #[.int .i64 p.x, .int .i64 p.y, .bool p.o] 62)) r1
            have e2 := kc (ba (Below.refl _ W) (.cells #[.int .i64 p.x, .int .i64 p.y, .bool p.o] 62)) r2
            have e3 := kc (ba (Below.refl _ W) (.cells #[.int .i64 p.x, .int .i64 p.y, .bool p.o] 62)) r3
            have d0 := kf (ba (Below.refl _ W) (.cells #[.int .i64 p.x, .int .i64 p.y, .bool p.o] 62)) r0 f0
            have d1 := kf (ba (Below.refl _ W) (.cells #[.int .i64 p.x, .int .i64 p.y, .bool p.o] 62)) r1 f1
            have d2 := kf (ba (Below.refl _ W) (.cells #[.int .i64 p.x, .int .i64 p.y, .bool p.o] 62)) r2 f2
            have d3 := kf (ba (Below.refl _ W) (.cells #[.int .i64 p.x, .int .i64 p.y, .bool p.o] 62)) r3 f3
            go_wp2_with fail
            exact ⟨R.out, by simp [intOf]; omega⟩
        · obtain rfl : i = ns k := by omega
          have R := Lib.hid (hNX.out _ hR)
          clear hR hpO hNX HP HR
          go_wp2_with fail
          exact ⟨R.out, by simp [intOf]; omega⟩
    · obtain rfl : k = N := by omega
      obtain ⟨⟨r0, r1, r2, r3⟩, f0, f1, f2, f3⟩ := hR.r
      obtain ⟨⟨z0, z1, z2, z3⟩, t0, t1, t2, t3⟩ := hR.z
      have hbe := hR.be
      have hr : Hid (bxO k ns g = bxN (fl k ns g) (pre ns k)) := Lib.hid rfl
      clear hR
      generalize bxN (fl k ns g) (pre ns k) = r at *
      go_wp2
      refine bodyPost_ret (v := .agg #[.int .i64 r.a, .int .i64 r.b, .int .i64 r.c, .int .i64 r.d]) (by simp [results, Try.results18, go_sem, *]) rfl ⟨by rw [hr.out], ?_⟩
      exact bs (bs (bs (bs hbe (Nat.le_refl _) _) (Nat.le_refl _) _) (Nat.le_refl _) _) (Nat.le_refl _) _
end Go.Proofs.Ytcogoomajfahkaa.Ot
