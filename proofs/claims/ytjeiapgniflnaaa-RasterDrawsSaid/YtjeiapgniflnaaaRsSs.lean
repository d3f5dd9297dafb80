/-
  Layer 7 (raster): RasterSums, walked.
-/
import Derived.Test.YtjeiapgniflnaaaRsU
import Derived.Test.YtjeiapgniflnaaaRsSn
namespace Go.Proofs.Ytjeiapgniflnaaa.Rs
open Go.RowKit
open Go.Proofs.Ytjeiapgniflnaaa.Ot
def SmRel (V0 : World) (m : Nat) (ns : Nat → Nat) (g : Nat → Nat → Pt) (x y : Int) (s14 s44 : Value) (V : World) : Prop := ∃ k : Nat, s44 = .int .i64 (k : Int) ∧ k ≤ m ∧ s14 = .int .i64 (wn ns g x y k) ∧ Below V0.heap.size V0 V
theorem off34 (a : Int) : inR (a % 100 - 34) = true := by
  have h0 := Int.emod_nonneg a (show (100 : Int) ≠ 0 by omega)
  have h1 := Int.emod_lt_of_pos a (show (0 : Int) < 100 by omega)
  rw [inR_iff]
  omega
theorem pa_shift {W : World} {pb po n k m : Nat} {f : Nat → Pt} (h : PA W (some ⟨pb, po, none⟩) n f) (hm : k + m ≤ n) : PA W (some ⟨pb, po + k * 3, none⟩) m (fun t => f (k + t)) := fun t ht => by
  obtain ⟨b, o, e, h1⟩ := h (k + t) (by omega)
  cases e
  exact ⟨pb, po + k * 3, rfl, by rw [show po + k * 3 + t * 3 = po + (k + t) * 3 by omega]; exact h1⟩
theorem pa_cut {W : World} {a : Option Addr} {n m : Nat} {f : Nat → Pt} (h : PA W a n f) (hm : m ≤ n) : PA W a m f := fun t ht => h t (by omega)
/-- Two runs of points, one after the other. -/
def jn (f1 f2 : Nat → Pt) (n1 t : Nat) : Pt := if t < n1 then f1 t else f2 (t - n1)
theorem lst_jn (f1 f2 : Nat → Pt) (n1 : Nat) : ∀ n2, lst f1 n1 ++ lst f2 n2 = lst (jn f1 f2 n1) (n1 + n2)
  | 0 => by
    rw [Nat.add_zero, show lst f2 0 = [] from rfl, List.append_nil]
    unfold lst
    refine List.map_congr_left (fun t ht => ?_)
    rw [List.mem_range] at ht
    rw [jn, if_pos ht]
  | n2 + 1 => by
    rw [lst_next, ← List.append_assoc, lst_jn f1 f2 n1 n2, ← Nat.add_assoc, lst_next, jn, if_neg (by omega), Nat.add_sub_cancel_left]
theorem gB2 {w V V' : World} {b n c : Nat} (h : Below w.heap.size w V) (hg : V.grownBy V' (Value.slice (some ⟨b, 0, none⟩) n c).ownBlock) (hb : w.heap.size ≤ b) : Below w.heap.size w V' := gB h hg hb
/-- What the two appends have made. -/
theorem own_jn {V : World} {S s c n1 n2 : Nat} {f1 f2 : Nat → Pt} (h : V.ownsRow S 63 3 (.slice (some ⟨s, 0, none⟩) (0 + n1 + n2) c) (0 + n1 + n2) (([] ++ vals (lst f1 n1)) ++ vals (lst f2 n2))) :
    0 + n1 + n2 = n1 + n2 ∧ n1 + n2 ≤ c ∧ c ≤ 9223372036854775807 ∧ PA V (some ⟨s, 0, none⟩) (n1 + n2) (jn f1 f2 n1) := by
  rw [List.nil_append, ← vals_app, lst_jn, Nat.zero_add] at h
  obtain ⟨a, c', b, e, h1, h2, h3, h4, h5⟩ := own_lst h
  cases e
  refine ⟨by omega, h1, h2, fun i hi => ?_⟩
  have := h4 (by omega)
  cases this
  exact po_pa h3 i hi
/-- Two polygons side by side. -/
def n2f (n1 n2 t : Nat) : Nat := if t = 0 then n1 else n2
def g2f (f1 f2 : Nat → Pt) (t : Nat) : Nat → Pt := if t = 0 then f1 else f2
theorem ot_lit2 {V : World} {p1 p2 : Option Addr} {n1 n2 c1 c2 : Nat} {f1 f2 : Nat → Pt} (T : TypeId) (h1 : n1 ≤ c1) (h2 : c1 ≤ 9223372036854775807) (h3 : n2 ≤ c2) (h4 : c2 ≤ 9223372036854775807) (hA : PA V p1 n1 f1) (hB : PA V p2 n2 f2) :
    OT (V.alloc (.cells #[.slice p1 n1 c1, .slice p2 n2 c2] T)) (some ⟨V.heap.size, 0, none⟩) 2 (n2f n1 n2) (g2f f1 f2) := fun k hk => by
  obtain rfl | rfl : k = 0 ∨ k = 1 := by omega
  · exact ⟨V.heap.size, 0, p1, c1, rfl, by unfold n2f; go_cell, h1, h2, pa_below hA (ba (Below.refl _ _) _)⟩
  · exact ⟨V.heap.size, 0, p2, c2, rfl, by unfold n2f; go_cell, h3, h4, pa_below hB (ba (Below.refl _ _) _)⟩
theorem wn_parts {f : Nat → Pt} {n i j : Nat} (x y : Int) (hij : i ≤ j) (hj : j < n) :
    wn (n2f (j + 1 - i) (i + 1 + (n - j))) (g2f (fun t => f (i + t)) (jn f (fun t => f (j + t)) (i + 1))) x y 2 = rwn f n x y n := by
  rw [wn_two]
  have h := rwn_parts f n i j x y hij hj
  have e1 : j + 1 - i = j - i + 1 := by omega
  have e2 : jn f (fun t => f (j + t)) (i + 1) = fun k => if k ≤ i then f k else f (j + (k - (i + 1))) := by
    funext t
    unfold jn
    by_cases h : t ≤ i
    · rw [if_pos (by omega), if_pos h]
    · rw [if_neg (by omega), if_neg h]
  simp only [n2f, g2f, if_true, Nat.one_ne_zero, if_false]
  rw [e1, e2]
  exact h
/-- Winding of outlines whose points are all in range. -/
theorem winding_wn (X Y : Int) (hX : inR X = true) (hY : inR Y = true) (a : Option Addr) (N c : Nat) (ns : Nat → Nat) (g : Nat → Nat → Pt) (hN : N ≤ 1000) (hs : ∀ k, k < N → ns k ≤ 100) (hr : ∀ k, k < N → ∀ i, i < ns k → okR (g k i) = true) (W : World) (hO : OT W a N ns g) :
    Calls Try.prog 13 #[.slice a N c, .int .i64 X, .int .i64 Y] W fun e w' => e = .returned (.int .i64 (wn ns g X Y N)) ∧ Below W.heap.size W w' := by
  have hp := pre_le hs
  have hr' := allO_of hr
  have e : wdg N ns g X Y = wn ns g X Y N := by unfold wdg; rw [hX, hY, hr']; rfl
  rw [← e]
  exact Winding_any a N c ns g X Y (by omega) (by omega) W hO
theorem wn_add {ns : Nat → Nat} {g : Nat → Nat → Pt} {X Y : Int} {k m : Nat} (hk : k < m) (hm : m ≤ 4) (h : ∀ j, j < m → ns j ≤ 8) : wrap64 (wn ns g X Y k + wn (fun _ => ns k) (fun _ => g k) X Y 1) = wn ns g X Y (k + 1) := by
  have h1 := wn_abs (ns := ns) (g := g) (x := X) (y := Y) (N := k + 1) (fun j hj => by have := h j (by omega); omega)
  rw [wn_one]
  rw [wn] at h1 ⊢
  exact w6 (by omega)
theorem ix_mod (q : Int) {n : Nat} (h0 : 0 < n) : ∃ i : Nat, q % (n : Int) = (i : Int) ∧ i < n := by
  have h1 := Int.emod_nonneg q (show (n : Int) ≠ 0 by omega)
  have h2 := Int.emod_lt_of_pos q (show (0 : Int) < (n : Int) by omega)
  exact ⟨(q % (n : Int)).toNat, by omega, by omega⟩
theorem ix_mod2 (q : Int) {n i : Nat} (h0 : i < n) : ∃ p j : Nat, q % ((n : Int) - (i : Int)) = (p : Int) ∧ (i : Int) + (p : Int) = (j : Int) ∧ i ≤ j ∧ j < n := by
  have h1 := Int.emod_nonneg q (show (n : Int) - (i : Int) ≠ 0 by omega)
  have h2 := Int.emod_lt_of_pos q (show (0 : Int) < (n : Int) - (i : Int) by omega)
  exact ⟨(q % ((n : Int) - (i : Int))).toNat, i + (q % ((n : Int) - (i : Int))).toNat, by omega, by omega, by omega, by omega⟩
theorem ix_wr {n i j : Nat} (h1 : i < n) (h2 : i ≤ j) (h3 : j < n) (h4 : n ≤ 8) : IntKind.i64.wrap ((n : Int) - (i : Int)) = (n : Int) - (i : Int) ∧ IntKind.i64.wrap (j : Int) = (j : Int) ∧ IntKind.i64.wrap ((j : Int) + 1) = (j : Int) + 1 ∧ IntKind.i64.wrap ((i : Int) + 1) = (i : Int) + 1 ∧ wrap64 ((j : Int) + 1) = (j : Int) + 1 ∧ wrap64 ((i : Int) + 1) = (i : Int) + 1 :=
  ⟨IntWalk.i64_in _ (by omega), IntWalk.i64_in _ (by omega), IntWalk.i64_in _ (by omega), IntWalk.i64_in _ (by omega), w6 (by omega), w6 (by omega)⟩
set_option maxRecDepth 100000 in
set_option maxHeartbeats 16000000 in
theorem Sums_any (la : Option Addr) (lN lc : Nat) (L : Nat → Nat) (l : Nat → Nat → Int) (a0 a1 q0 q1 : Int) (r0 : R64 a0) (r1 : R64 a1) (r2 : R64 q0) (r3 : R64 q1) (w : World) (hL : LX w la lN L l) :
    Calls Try.prog 5 #[.slice la lN lc, .agg #[.int .i64 a0, .int .i64 a1], .agg #[.int .i64 q0, .int .i64 q1]] w fun e w' => e = .returned (.bool true) ∧ Below w.heap.size w w' := by
  have MD := Lib.hid (fun V h => Made_any la lN lc L l V (lx_below hL h))
  have M0 := Lib.hid (fun V => Ax.mod_any a0 100 r0 (by omega) V)
  have M1 := Lib.hid (fun V => Ax.mod_any a1 100 r1 (by omega) V)
  have CW := Lib.hid (winding_wn (a0 % 100 - 34) (a1 % 100 - 34) (off34 a0) (off34 a1))
  have RQ := Lib.hid (And.intro r2 r3)
  clear hL r0 r1 r2 r3
  have hb0 : Below w.heap.size w ((w.alloc (.cells #[.int .i64 a0, .int .i64 a1] 46)).alloc (.cells #[.int .i64 q0, .int .i64 q1] 46)) := ba (ba (Below.refl _ _) _) _
  have x0 : ((w.alloc (.cells #[.int .i64 a0, .int .i64 a1] 46)).alloc (.cells #[.int .i64 q0, .int .i64 q1] 46)).cell? ⟨w.heap.size, 0, none⟩ = some (.int .i64 a0) := by go_cell
  have x1 : ((w.alloc (.cells #[.int .i64 a0, .int .i64 a1] 46)).alloc (.cells #[.int .i64 q0, .int .i64 q1] 46)).cell? ⟨w.heap.size, 1, none⟩ = some (.int .i64 a1) := by go_cell
  have z0 : ((w.alloc (.cells #[.int .i64 a0, .int .i64 a1] 46)).alloc (.cells #[.int .i64 q0, .int .i64 q1] 46)).cell? ⟨w.heap.size + 1, 0, none⟩ = some (.int .i64 q0) := by go_cell
  have z1 : ((w.alloc (.cells #[.int .i64 a0, .int .i64 a1] 46)).alloc (.cells #[.int .i64 q0, .int .i64 q1] 46)).cell? ⟨w.heap.size + 1, 1, none⟩ = some (.int .i64 q1) := by go_cell
  go_enter Try.func5, Try.ntmps5
  go_wp2_with fail
  refine (sanity_any _).mono ?_
  rintro e V1 ⟨rfl, h1⟩
  replace x0 := kc h1 x0
  replace x1 := kc h1 x1
  replace z0 := kc h1 z0
  replace z1 := kc h1 z1
  replace hb0 := bt hb0 h1
  clear h1
  go_wp2_with fail
  refine (MD.out _ hb0).mono ?_
  rintro e V3 ⟨v3, xs3, ns, B3, g, rfl, hM, hok⟩
  obtain ⟨a3, c3, S3, rfl, n1, n2, ha3, hO3, _⟩ := mo_oo hM
  have h3 := hM.be
  have hO3' := oo_ot2 hO3 ha3
  replace x0 := kc h3 x0
  replace x1 := kc h3 x1
  replace z0 := kc h3 z0
  replace z1 := kc h3 z1
  replace hb0 := bt hb0 h3
  clear h3 hM hO3 ha3 MD
  have m4 : min lN 4 ≤ 4 := by omega
  generalize min lN 4 = m at *
  have HNS : Hid (∀ k, k < m → ns k ≤ 8) := Lib.hid (fun k hk => (hok k hk).1)
  have HRR : Hid (∀ k, k < m → ∀ i, i < ns k → okR (g k i) = true) := Lib.hid (fun k hk => okR_M (hok k hk))
  clear hok
  have HO := Lib.hid hO3'
  clear hO3'
  go_wp2_with fail
  refine (M0.out _).mono ?_
  rintro e V4 ⟨rfl, rfl⟩
  go_wp2_with fail
  refine (M1.out _).mono ?_
  rintro e V4 ⟨rfl, rfl⟩
  go_wp2_with fail
  generalize a0 % 100 - 34 = X at *
  generalize a1 % 100 - 34 = Y at *
  with_reducible refine (CW.out a3 m c3 ns g (by omega) (fun k hk => by have := HNS.out k hk; omega) HRR.out _ HO.out).mono ?_
  rintro e V5 ⟨rfl, h5⟩
  have HO5 := Lib.hid (ot_below HO.out h5)
  replace z0 := kc h5 z0
  replace z1 := kc h5 z1
  replace hb0 := bt hb0 h5
  clear HO h5 M0 M1 x0 x1
  go_wp2_with fail
  with_reducible refine (turned_any a3 m c3 ns g q0 RQ.out.1 (by omega) (fun k hk => by have := HNS.out k hk; omega) _ HO5.out).mono ?_
  rintro e V6 ⟨a1, a2, c1, c2, rfl, hO1, hO2, h6⟩
  have HO6 := Lib.hid (ot_below HO5.out h6)
  replace z0 := kc h6 z0
  replace z1 := kc h6 z1
  replace hb0 := bt hb0 h6
  have HT := Lib.hid (And.intro hO1 hO2)
  have HZ := Lib.hid (And.intro z0 z1)
  clear HO5 h6 hO1 hO2 z0 z1
  go_wp2_with fail
  go_loopw [14, 44] (fun s14 s44 V => SmRel V6 m ns g X Y s14 s44 V) (fun _ s44 _ => m - (intOf s44).toNat)
  case atStart => exact ⟨0, rfl, by omega, rfl, Below.refl _ _⟩
  case round =>
    obtain ⟨k, rfl, hk, rfl, hB⟩ := hrel
    rename World => V
    rcases Nat.lt_or_ge k m with hkm | hkm
    · obtain ⟨b, off, a', c', rfl, hc, h1, h2, hp⟩ := ot_below HO6.out hB k hkm
      have k2 : (0 : Int) ≤ (k : Int) := by omega
      have k3 : (k : Int) < (m : Int) := by omega
      have k4 : (k : Int) + 1 ≤ (m : Int) := by omega
      have k5 : (k : Int) + 1 ≤ (c3 : Int) := by omega
      have k6 : (k : Int) < 4 := by omega
      go_wp2_with fail
      with_reducible refine (CW.out (some ⟨b, off + k, none⟩) 1 (c3 - k) (fun _ => ns k) (fun _ => g k) (by omega) (fun _ _ => by have := HNS.out k hkm; omega) (fun _ _ => HRR.out k hkm) V (ot_one (ot_below HO6.out hB) hkm)).mono ?_
      rintro e V7 ⟨rfl, h7⟩
      have e1 := wn_add (g := g) (X := X) (Y := Y) hkm m4 HNS.out
      have hB7 := bt hB h7
      have c0 := kc h7 hc
      obtain ⟨n, hn⟩ : ∃ n, ns k = n := ⟨_, rfl⟩
      have n8 := HNS.out k hkm
      have HR := Lib.hid (HRR.out k hkm)
      have HP := Lib.hid (pa_below hp h7)
      rw [hn] at c0 h1 n8 HP HR
      have Hn := Lib.hid hn
      have HD : Hid (∀ W, Below V7.heap.size V7 W → SmRel V6 m ns g X Y (.int .i64 (wn ns g X Y (k + 1))) (.int .i64 ((k : Int) + 1)) W) := Lib.hid (fun W h => ⟨k + 1, rfl, by omega, rfl, bt hB7 h⟩)
      have CV : Hid (∀ W, Below V7.heap.size V7 W → Calls Try.prog 13 #[.slice (some ⟨b, off + k, none⟩) 1 (c3 - k), .int .i64 X, .int .i64 Y] W fun e w' => e = .returned (.int .i64 (rwn (g k) (ns k) X Y (ns k))) ∧ Below W.heap.size W w') :=
        Lib.hid (fun W h => by
          rw [← wn_one (fun _ => ns k) (fun _ => g k) X Y]
          exact CW.out (some ⟨b, off + k, none⟩) 1 (c3 - k) (fun _ => ns k) (fun _ => g k) (by omega) (fun _ _ => by have := HNS.out k hkm; omega) (fun _ _ => HRR.out k hkm) W (ot_one (ot_below HO6.out (bt hB7 h)) hkm))
      clear hc hp h7 hn
      generalize wn (fun _ => ns k) (fun _ => g k) X Y 1 = T1 at *
      generalize wn ns g X Y k = T0 at *
      generalize wn ns g X Y (k + 1) = T2 at *
      rcases Nat.eq_zero_or_pos n with h0 | h0
      · subst h0
        have R := Lib.hid (HD.out _ (Below.refl _ _))
        go_wp2_with fail
        rw [e1]
        exact ⟨R.out, ltn' hkm⟩
      · obtain ⟨pb, po, rfl, _⟩ := HP.out 0 h0
        obtain ⟨i, ei, hi⟩ := ix_mod q0 h0
        obtain ⟨p, j, ep, ej, hij, hj⟩ := ix_mod2 q1 hi
        have M3 : Hid (∀ W, Calls Try.prog 12 #[.int .i64 q0, .int .i64 (n : Int)] W fun e w' => e = .returned (.int .i64 (i : Int)) ∧ w' = W) := Lib.hid (fun W => by rw [← ei]; exact Ax.mod_any q0 n RQ.out.1 ⟨by omega, by omega⟩ W)
        have M4 : Hid (∀ W, Calls Try.prog 12 #[.int .i64 q1, .int .i64 (IntKind.i64.wrap ((n : Int) - (i : Int)))] W fun e w' => e = .returned (.int .i64 (p : Int)) ∧ w' = W) := Lib.hid (fun W => by rw [← ep, (ix_wr hi hij hj n8).1]; exact Ax.mod_any q1 ((n : Int) - (i : Int)) RQ.out.2 ⟨by omega, by omega⟩ W)
        obtain ⟨n7, n6⟩ := nne h0
        have i4 : (i : Int) ≤ 8 := by omega
        have j4 : (j : Int) ≤ 8 := by omega
        have i2 := nat0 i
        have i3 := natlt hi
        have j2 := nat0 j
        have j3 := natlt hj
        have n9 : (n : Int) ≤ 8 := by omega
        have z0 := kc hB7 HZ.out.1
        have z1 := kc hB7 HZ.out.2
        have SX : ∀ W, Below V7.heap.size V7 W → W.cell? ⟨b, off + k, none⟩ = some (.slice (some ⟨pb, po, none⟩) n c') := fun _ h => kc h c0
        have Z0 : ∀ W, Below V7.heap.size V7 W → W.cell? ⟨w.heap.size + 1, 0, none⟩ = some (.int .i64 q0) := fun _ h => kc h z0
        have Z1 : ∀ W, Below V7.heap.size V7 W → W.cell? ⟨w.heap.size + 1, 1, none⟩ = some (.int .i64 q1) := fun _ h => kc h z1
        clear ei ep
        go_upto_region 13 with (fail)
        clear c0
        go_region_held3 (fun w' => Below V7.heap.size V7 w') (first
          | (with_reducible exact bd1 (Below.refl _ _))
          | (with_reducible assumption))
          (first
          | ((with_reducible refine (M3.out _).mono ?_); rintro en wa ⟨rfl, rfl⟩))
        go_upto_region 14 with (fail)
        go_region_held3 (fun w' => Below V7.heap.size V7 w') (first
          | (with_reducible exact bd1 (bd1 (Below.refl _ _)))
          | (with_reducible assumption))
          (first
          | ((with_reducible refine (M4.out _).mono ?_); rintro en wa ⟨rfl, rfl⟩))
        go_upto_region 15 with (fail)
        rw [(ix_wr hi hij hj n8).2.1]
        have hB8 : Below V7.heap.size V7 V7.drew.drew := bd1 (bd1 (Below.refl _ _))
        have c0 := SX _ hB8
        have HP8 := Lib.hid (pa_below HP.out hB8)
        replace hB8 := Lib.hid hB8
        clear Z0 Z1 M3 M4 z0 z1 ej SX
        generalize V7.drew.drew = V8 at *
        have HL : Hid ((V8.alloc (.cells #[] 63)).ownsRow V8.heap.size 63 3 (.slice (some ⟨V8.heap.size, 0, none⟩) 0 0) 0 []) := Lib.hid (World.ownsRow_lit V8 #[] 0 (Nat.le_refl _) (by omega) rfl)
        have c1' := kc (ba (Below.refl _ V8) (.cells #[] 63)) c0
        go_upto_region 16 with (at_builtin; refine wpList_all2 V8.heap.size V8.heap.size (j + 1 - i) _ (some ⟨pb, po + i * 3, none⟩) (fun t => g k (i + t)) rfl _ _ rfl rfl rfl HL.out (pa_below (pa_shift HP8.out (by omega)) (ba (Below.refl _ _) _)) (by omega) (by simp) ?_; intro ap cp bp W9 o1 o2 o3 o4 o5 hg9)
        have hB9 : Below V8.heap.size V8 W9 := gB (ba (Below.refl _ _) _) hg9 (Nat.le_refl _)
        have c9 := kc hB9 c0
        have HP9 := Lib.hid (pa_below HP8.out hB9)
        have H1 := Lib.hid (And.intro o1 (And.intro o2 (And.intro o3 (And.intro o4 o5))))
        have HB9 := Lib.hid (bt hB8.out hB9)
        clear hg9 c0 c1' HL HP8 o1 o2 o3 o4 o5 hB9 hB8
        have S9 : ∀ W, Below W9.heap.size W9 W → W.cell? ⟨b, off + k, none⟩ = some (.slice (some ⟨pb, po, none⟩) n c') := fun _ h => kc h c9
        have HL : Hid ((W9.drew.alloc (.cells #[] 63)).ownsRow W9.heap.size 63 3 (.slice (some ⟨W9.heap.size, 0, none⟩) 0 0) 0 []) := Lib.hid (World.ownsRow_lit W9.drew #[] 0 (Nat.le_refl _) (by omega) rfl)
        obtain ⟨i0, li1, li2, li3, li4⟩ := info_parts infoP
        have NA : ∀ W, Below W9.heap.size W9 W → ∀ t u, (vals (lst (g k) (i + 1)))[t]? = some u → W.cell? ((⟨pb, po, none⟩ : Addr).add t) = some u := fun W h => pa_news (pa_below (pa_cut HP9.out (by omega)) h)
        have NB : ∀ W, Below W9.heap.size W9 W → ∀ t u, (vals (lst (fun t => g k (j + t)) (n - j)))[t]? = some u → W.cell? ((⟨pb, po + j * 3, none⟩ : Addr).add t) = some u := fun W h => pa_news (pa_below (pa_shift HP9.out (by omega)) h)
        have l1 : (vals (lst (g k) (i + 1))).length = (i + 1) * 3 := by rw [vals_len, lst_len]
        have l2 : (vals (lst (fun t => g k (j + t)) (n - j))).length = (n - j) * 3 := by rw [vals_len, lst_len]
        have l3 : 0 < n - j ∧ i + 1 + (n - j) ≤ 100 := by omega
        have b1 : (i : Int) + 1 ≤ (c' : Int) := by omega
        have b2 : (j : Int) ≤ (n : Int) := by omega
        have b3 : (0 : Int) ≤ (i : Int) + 1 := by omega
        have b4 : (n : Int) ≤ (c' : Int) := by omega
        have b5 : ¬ c' = j := by omega
        have wr4 := (ix_wr hi hij hj n8).2.2.2.1
        clear c9 i4 j4 n9
        go_region_held_law (fun w' => Below W9.heap.size W9 w') (first
          | (with_reducible exact bd1 (Below.refl _ _))
          | (with_reducible assumption)
          | (with_reducible exact ba (by assumption) _)
          | (with_reducible exact bd1 (ba (Below.refl _ _) _))
          | (with_reducible exact hb2)
          | (with_reducible exact hb1))
          (first
          | (have hh := hown1; clear hh; refine step_append_lies _ (by rfl) _ _ 49 (by rfl) W9.heap.size 63 i0 _ 3 24 Try.underlying49 li1 li2 li3 li4 rfl (by decide) _ (0 + (i + 1)) _ (by rfl) hown1 ⟨pb, po + j * 3, none⟩ (n - j) _ (vals (lst (fun t => g k (j + t)) (n - j))) (by rfl) l2 (NB _ hb1) (vals_one _) l3.1 (by unfold maxLen; omega) (by omega) hb1.size _ rfl ?_; intro s2 cap2 V2' hown2 hgrow2 hat2 hlt2; have hb2 := gBo hb1 hgrow2 (fun q hq => (hown1.lt q hq).1); clear hgrow2 hat2 hlt2)
          | (refine step_append_lies _ (by rfl) _ _ 49 (by rfl) W9.heap.size 63 i0 _ 3 24 Try.underlying49 li1 li2 li3 li4 rfl (by decide) _ 0 [] (by rfl) HL.out ⟨pb, po, none⟩ (i + 1) _ (vals (lst (g k) (i + 1))) (by rfl) l1 (NA _ (ba (bd1 (Below.refl _ _)) _)) (vals_one _) (Nat.succ_pos _) (by unfold maxLen; omega) (by omega) (by simp) _ rfl ?_; intro s1 cap1 V1' hown1 hgrow1 hat1 hlt1; have hb1 := gB2 (ba (bd1 (Below.refl _ W9)) _) hgrow1 (Nat.le_refl _); clear hgrow1 hat1 hlt1))
        obtain ⟨e2, u1, u2, u3⟩ := own_jn hown2
        rw [e2]
        obtain ⟨o1, o2, o3, o4, o5⟩ := H1.out
        have OW : Hid (OT (V2'.alloc (.cells #[.slice ap (j + 1 - i) cp, .slice (some ⟨s2, 0, none⟩) (i + 1 + (n - j)) cap2] 49)) (some ⟨V2'.heap.size, 0, none⟩) 2 (n2f (j + 1 - i) (i + 1 + (n - j))) (g2f (fun t => g k (i + t)) (jn (g k) (fun t => g k (j + t)) (i + 1)))) :=
          Lib.hid (ot_lit2 49 o1 o2 u1 u2 (by
            rw [o4 (by omega)]
            exact pa_below (po_pa o3) hb2) u3)
        have HB2 := Lib.hid (bt HB9.out hb2)
        have CT : Hid (∀ W, Below (V2'.alloc (.cells #[.slice ap (j + 1 - i) cp, .slice (some ⟨s2, 0, none⟩) (i + 1 + (n - j)) cap2] 49)).heap.size (V2'.alloc (.cells #[.slice ap (j + 1 - i) cp, .slice (some ⟨s2, 0, none⟩) (i + 1 + (n - j)) cap2] 49)) W → Calls Try.prog 13 #[.slice (some ⟨V2'.heap.size, 0, none⟩) 2 2, .int .i64 X, .int .i64 Y] W fun e w' => e = .returned (.int .i64 (rwn (g k) (ns k) X Y (ns k))) ∧ Below W.heap.size W w') :=
          Lib.hid (fun W h => by
            rw [Hn.out, ← wn_parts X Y hij hj]
            refine CW.out (some ⟨V2'.heap.size, 0, none⟩) 2 2 _ _ (by omega) (fun t _ => by unfold n2f; split <;> omega) (fun t _ s hs => ?_) W (ot_below OW.out h)
            unfold n2f at hs
            unfold g2f
            split at hs
            · rw [if_pos (by assumption)]
              exact HR.out _ (by omega)
            · rw [if_neg (by assumption)]
              unfold jn
              split
              · exact HR.out _ (by omega)
              · exact HR.out _ (by omega))
        clear hown1 hown2 hb1 hb2 o1 o2 o3 o4 o5 u1 u2 u3 NA NB l1 l2 l3 e2 H1 HP9 S9 HL wr4
        have kw : IntKind.i64.wrap ((k : Int) + 1) = (k : Int) + 1 := IntWalk.i64_in _ (by omega)
        have k7 : (0 : Int) ≤ (k : Int) + 1 := by omega
        have k8 : ¬ c3 = k := by omega
        have K6 := Lib.hid k6
        clear k6
        go_upto_region 17 with (fail)
        go_region_held3 (fun w' => Below V2'.heap.size V2' w') (first
          | (with_reducible exact bd1 (Below.refl _ _))
          | (with_reducible exact bd1 (ba (Below.refl _ _) _))
          | (with_reducible exact ba (bd1 (Below.refl _ _)) _)
          | (with_reducible exact ba (by assumption) _)
          | (with_reducible assumption))
          (first
          | ((with_reducible refine (CT.out _ (bd1 (Below.refl _ _))).mono ?_); rintro en wa ⟨rfl, hv1⟩; have hq1 := bt (bd1 (ba (Below.refl V2'.heap.size V2') _)) hv1)
          | ((with_reducible refine (CV.out _ (bt HB2.out hq1)).mono ?_); rintro en wb ⟨rfl, hv2⟩; have hq2 := bt hq1 hv2))
        have R := Lib.hid (HD.out _ (bt HB2.out hq2))
        have k6 := K6.out
        clear hv1 hv2 hq1 hq2 CT CV kw
        go_wp2_with fail
        exact ⟨R.out, ltn' hkm⟩
    · obtain rfl : k = m := by omega
      have HH := Lib.hid (And.intro (ot_below HT.out.1 hB) (ot_below HT.out.2 hB))
      have CB : Hid (∀ W, Below V.heap.size V W → Calls Try.prog 13 #[.slice a1 k c1, .int .i64 X, .int .i64 Y] W fun e w' => e = .returned (.int .i64 (-wn ns g X Y k)) ∧ Below W.heap.size W w') :=
        Lib.hid (fun W h => by
          rw [← wn_back]
          exact CW.out a1 k c1 ns (bkP ns g) (by omega) (fun t ht => by have := HNS.out t ht; omega) (fun t ht i hi => HRR.out t ht _ (by omega)) W (ot_below HH.out.1 h))
      have CO : Hid (∀ W, Below V.heap.size V W → Calls Try.prog 13 #[.slice a2 k c2, .int .i64 X, .int .i64 Y] W fun e w' => e = .returned (.int .i64 (wn ns g X Y k)) ∧ Below W.heap.size W w') :=
        Lib.hid (fun W h => by
          rw [← wn_rot q0]
          exact CW.out a2 k c2 ns (rtP q0 ns g) (by omega) (fun t ht => by have := HNS.out t ht; omega) (fun t ht i hi => HRR.out t ht _ (Nat.mod_lt _ (by omega))) W (ot_below HH.out.2 h))
      have CN : Hid (∀ W, Calls Try.prog 13 #[.slice none 0 0, .int .i64 X, .int .i64 Y] W fun e w' => e = .returned (.int .i64 0) ∧ Below W.heap.size W w') :=
        Lib.hid (fun W => CW.out none 0 0 ns g (by omega) (fun t ht => absurd ht (by omega)) (fun t ht => absurd ht (by omega)) W (fun t ht => absurd ht (by omega)))
      have nb := wn_abs (ns := ns) (g := g) (x := X) (y := Y) (N := k) (fun t ht => by have := HNS.out t ht; omega)
      have nw : wrap64 (-wn ns g X Y k) = -wn ns g X Y k := w6 (by omega)
      have HB := Lib.hid (bt hb0 hB)
      clear nb hB hb0
      generalize wn ns g X Y k = T0 at *
      go_wp2_with (first
        | ((with_reducible refine (CB.out _ (Below.refl _ _)).mono ?_); rintro e v1 ⟨rfl, hv1⟩)
        | ((with_reducible refine (CO.out _ hv1).mono ?_); rintro e v2 ⟨rfl, hv2⟩)
        | ((with_reducible refine (CN.out _).mono ?_); rintro e v3 ⟨rfl, hv3⟩))
      go_ret
      exact ⟨rfl, bt HB.out (bt hv1 (bt hv2 hv3))⟩
end Go.Proofs.Ytjeiapgniflnaaa.Rs
