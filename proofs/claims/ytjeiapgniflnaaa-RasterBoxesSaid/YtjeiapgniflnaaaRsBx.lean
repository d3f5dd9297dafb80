/-
  Layer 7 (raster): RasterBoxes, walked.
-/
import Derived.Test.YtjeiapgniflnaaaRsSs
import Derived.Test.YtjeiapgniflnaaaRsBm
namespace Go.Proofs.Ytjeiapgniflnaaa.Rs
open Go.RowKit
open Go.Proofs.Ytjeiapgniflnaaa.Ot
open Go.Proofs.Ytjeiapgniflnaaa.Bm (bv DA Get_any da_below has)
def fn4 (a b c d : Int) : Nat → Int
  | 0 => a
  | 1 => b
  | 2 => c
  | _ => d
def cnr (f : Nat → Int) (i : Nat) : Int := f i % 90 - 30
def QR (w : World) (f : Nat → Int) (s29 : Value) (V : World) : Prop := ∃ k : Nat, s29 = .int .i64 (k : Int) ∧ k ≤ 4 ∧ (∀ i, i < 4 → V.cell? ⟨w.heap.size, i, none⟩ = some (.int .i64 (if i < k then cnr f i else f i)) ∧ V.frozen? ⟨w.heap.size, i, none⟩ = false) ∧ Below w.heap.size w V
theorem qr_next {w V : World} {f : Nat → Int} {k : Nat} (hk : k < 4) (h : ∀ i, i < 4 → V.cell? ⟨w.heap.size, i, none⟩ = some (.int .i64 (if i < k then cnr f i else f i)) ∧ V.frozen? ⟨w.heap.size, i, none⟩ = false) (hB : Below w.heap.size w V) : QR w f (.int .i64 ((k : Int) + 1)) (V.setCell ⟨w.heap.size, k, none⟩ (.int .i64 (f k % 90 - 30))) := by
  refine ⟨k + 1, rfl, hk, fun i hi => ?_, bs hB (Nat.le_refl _) _⟩
  obtain ⟨h1, h2⟩ := h i hi
  obtain ⟨h3, h4⟩ := h k hk
  by_cases e : i = k
  · subst e
    rw [if_pos (by omega)]
    exact ⟨by unfold cnr; go_cell, by go_cell⟩
  · have e' : ¬ k = i := fun h => e h.symm
    have e2 : (i < k + 1) = (i < k) := by rw [eq_iff_iff]; omega
    simp only [e2]
    exact ⟨by go_cell, by go_cell⟩
theorem un_of (n : Int) : Un (4 + n % 4 * 4) (n % 4 + 1) := ⟨by omega, by omega, by omega⟩
theorem cnr_in (f : Nat → Int) (i : Nat) : -30 ≤ cnr f i ∧ cnr f i ≤ 59 := by unfold cnr; omega
theorem cor_of {a b c d : Int} (ha : -30 ≤ a ∧ a ≤ 59) (hb : -30 ≤ b ∧ b ≤ 59) (hc : -30 ≤ c ∧ c ≤ 59) (hd : -30 ≤ d ∧ d ≤ 59) : Cor (min a c) (min b d) (max a c) (max b d) := by unfold Cor; omega
def YR (V0 : World) (v : Value) (V : World) : Prop := ∃ y : Int, v = .int .i64 y ∧ -12 ≤ y ∧ y ≤ 20 ∧ Below V0.heap.size V0 V
def KR (V0 : World) (C : Nat → Nat) (s19 s20 : Value) (V : World) : Prop := ∃ k : Nat, s20 = .int .i64 (k : Int) ∧ k ≤ 4 ∧ s19 = .int .i64 (C k : Nat) ∧ V0 = V
/-- What the program says of a rectangle. -/
theorem box_facts {x0 y0 x1 y1 u v : Int} (h : Cor x0 y0 x1 y1) (hu : Un u v) : ∃ (Le Lo : Int) (W H n : Nat) (F : Nat → Bool), (-8 ≤ Le ∧ Le ≤ 14 ∧ -8 ≤ Lo ∧ Lo ≤ 14) ∧
    (∀ x y, -12 ≤ x ∧ x ≤ 20 → -12 ≤ y ∧ y ≤ 20 → has (W : Int) (H : Int) n F (x - Le) (y - Lo) = decide (2 ≤ cB x0 y0 x1 y1 u x y 4)) ∧
    (∀ a c V, OT V a 1 (fun _ => 4) (fun _ => rcP x0 y0 x1 y1) → Calls Try.prog 17 #[.slice a 1 c, .int .i64 u] V fun e w' => ∃ sa, e = .returned (.tuple #[.agg #[.int .i64 Le, .int .i64 Lo, .int .i64 (W : Int), .int .i64 (H : Int), .slice sa n n], .int .i64 0]) ∧ DA w' sa n F ∧ Below V.heap.size V w') ∧
    (∀ a c V x y, -12 ≤ x ∧ x ≤ 20 → -12 ≤ y ∧ y ≤ 20 → OT V a 1 (fun _ => 4) (fun _ => rcP x0 y0 x1 y1) → Calls Try.prog 15 #[.slice a 1 c, .int .i64 u, .int .i64 x, .int .i64 y] V fun e w' => e = .returned (.int .i64 (cB x0 y0 x1 y1 u x y 4 : Nat)) ∧ Below V.heap.size V w') := by
  obtain ⟨W, hW, hW9, l1, l2⟩ := sides hu h.1.1 h.1.2.1 h.1.2.2
  obtain ⟨H, hH, hH9, l3, l4⟩ := sides hu h.2.1 h.2.2.1 h.2.2.2
  refine ⟨x0 / u, y0 / u, W, H, W * H, _, ⟨l1, l2, l3, l4⟩, fun x y hx hy => has_box h hu hx hy hW hH hW9 hH9, fun a c V hO => ?_, fun a c V x y hx hy hO => ?_⟩
  · exact Dots_yes a 1 c _ _ u (un_isU hu) (ok_box h) (by decide) ⟨x0, y0, x1, y1⟩ (bx_box h) W H (W * H) rfl hW hH hW9 hH9 (by omega) (by decide) V hO
  · rw [← cvr_box h hu hx hy]
    exact Cover_any a 1 c _ _ u x y (by omega) (by decide) V hO
theorem lit8 (V : World) (x0 y0 x1 y1 : Int) (T : TypeId) : ∀ i, i < 2 * 4 → (V.alloc (.cells #[.int .i64 x0, .int .i64 y0, .int .i64 x1, .int .i64 y0, .int .i64 x1, .int .i64 y1, .int .i64 x0, .int .i64 y1] T)).cell? ⟨V.heap.size, i, none⟩ = some (.int .i64 (rcF x0 y0 x1 y1 i)) := fun i hi => by
  obtain rfl | rfl | rfl | rfl | rfl | rfl | rfl | rfl : i = 0 ∨ i = 1 ∨ i = 2 ∨ i = 3 ∨ i = 4 ∨ i = 5 ∨ i = 6 ∨ i = 7 := by omega
  all_goals (unfold rcF; go_cell)
/-- Beyond all points of made polygons nothing is wound around. -/
theorem made_zero {N : Nat} {ns : Nat → Nat} {g : Nat → Nat → Pt} (h : ∀ j, j < N → okM (ns j) (g j)) {X Y : Int} (hq : X = 56 ∨ X = -25 ∨ Y = 56 ∨ Y = -25) : wn ns g X Y N = 0 := by
  rcases hq with rfl | rfl | rfl | rfl
  · exact wn_closed (fun k hk i hi => by have := ((h k hk).2 i hi).2.2.1; omega)
  · exact wn_none (.inr (.inr (fun k hk i hi => by have := ((h k hk).2 i hi).2.1; omega)))
  · exact wn_none (.inr (.inl (fun k hk i hi => by have := ((h k hk).2 i hi).2.2.2.2; omega)))
  · exact wn_none (.inl (fun k hk i hi => by have := ((h k hk).2 i hi).2.2.2.1; omega))
set_option maxRecDepth 100000 in
set_option maxHeartbeats 16000000 in
theorem Boxes_any (q0 q1 q2 q3 un : Int) (r0 : R64 q0) (r1 : R64 q1) (r2 : R64 q2) (r3 : R64 q3) (ru : R64 un) (la : Option Addr) (lN lc : Nat) (L : Nat → Nat) (l : Nat → Nat → Int) (w : World) (hL : LX w la lN L l) :
    Calls Try.prog 7 #[.agg #[.int .i64 q0, .int .i64 q1, .int .i64 q2, .int .i64 q3], .int .i64 un, .slice la lN lc] w fun e w' => e = .returned (.bool true) ∧ Below w.heap.size w w' := by
  have MD := Lib.hid (fun V h => Made_any la lN lc L l V (lx_below hL h))
  have M0 := Lib.hid (fun V => Ax.mod_any un 4 ru (by omega) V)
  have hf : ∀ i, i < 4 → R64 (fn4 q0 q1 q2 q3 i) := fun i hi => by
    obtain rfl | rfl | rfl | rfl := four4 hi
    · exact r0
    · exact r1
    · exact r2
    · exact r3
  have M1 := Lib.hid (fun i hi V => Ax.mod_any (fn4 q0 q1 q2 q3 i) 90 (hf i hi) (by omega) V)
  have hb0 : Below w.heap.size w (w.alloc (.cells #[.int .i64 q0, .int .i64 q1, .int .i64 q2, .int .i64 q3] 53)) := ba (Below.refl _ _) _
  have x0 : ∀ i, i < 4 → (w.alloc (.cells #[.int .i64 q0, .int .i64 q1, .int .i64 q2, .int .i64 q3] 53)).cell? ⟨w.heap.size, i, none⟩ = some (.int .i64 (fn4 q0 q1 q2 q3 i)) ∧ (w.alloc (.cells #[.int .i64 q0, .int .i64 q1, .int .i64 q2, .int .i64 q3] 53)).frozen? ⟨w.heap.size, i, none⟩ = false := fun i hi => by
    obtain rfl | rfl | rfl | rfl := four4 hi <;> exact ⟨by unfold fn4; go_cell, by go_cell⟩
  clear hL r0 r1 r2 r3 ru hf
  go_enter Try.func7, Try.ntmps7
  go_wp2_with fail
  with_reducible refine (sanity_any _).mono ?_
  rintro e V1 ⟨rfl, h1⟩
  have X0 := Lib.hid (fun i hi => And.intro (kc h1 (x0 i hi).1) (kf h1 (x0 i hi).1 (x0 i hi).2))
  replace hb0 := bt hb0 h1
  clear h1 x0
  go_wp2_with fail
  with_reducible refine (M0.out _).mono ?_
  rintro e V4 ⟨rfl, rfl⟩
  go_wp2_with fail
  generalize fn4 q0 q1 q2 q3 = f at *
  go_loopw [29] (fun v V => QR w f v V) (fun v _ => 4 - (intOf v).toNat)
  case atStart => exact ⟨0, rfl, by omega, fun i hi => by rw [if_neg (by omega)]; exact X0.out i hi, hb0⟩
  case round =>
    obtain ⟨k, rfl, hk, hc, hB⟩ := hrel
    rename World => V
    rcases Nat.lt_or_ge k 4 with hk4 | hk4
    · have k2 := nat_c k
      have k3 : (k : Int) < 4 := k4 hk4
      obtain ⟨c0, c1⟩ := hc k hk4
      rw [if_neg (by omega)] at c0
      have MM := Lib.hid (M1.out k hk4)
      have R := Lib.hid (qr_next hk4 hc hB)
      clear hc hk
      go_wp2_with ((with_reducible refine (MM.out _).mono ?_); rintro e v1 ⟨rfl, rfl⟩)
      exact ⟨R.out, ltn' hk4⟩
    · obtain rfl : k = 4 := by omega
      have dd : ∀ i, i < 4 → V.cell? ⟨w.heap.size, i, none⟩ = some (.int .i64 (cnr f i)) := fun i hi => by
        have := (hc i hi).1
        rwa [if_pos hi] at this
      have d0 := dd 0 (by omega)
      have d1 := dd 1 (by omega)
      have d2 := dd 2 (by omega)
      have d3 := dd 3 (by omega)
      have hcor := Lib.hid (cor_of (cnr_in f 0) (cnr_in f 1) (cnr_in f 2) (cnr_in f 3))
      have hin := Lib.hid (And.intro (cnr_in f 0) (cnr_in f 1))
      have hun := Lib.hid (un_of un)
      clear hc hk dd X0 M0 M1 hb0 hk4
      generalize cnr f 0 = p0 at *
      generalize cnr f 1 = p1 at *
      generalize cnr f 2 = p2 at *
      generalize cnr f 3 = p3 at *
      generalize 4 + un % 4 * 4 = u at *
      generalize un % 4 + 1 = v at *
      go_upto_region 8 with (fail)
      go_quiet (fail)
      go_upto_region 9 with (fail)
      have hBq : Below w.heap.size w (V.drewN nq) := bd hB nq
      replace d0 : (V.drewN nq).cell? ⟨w.heap.size, 0, none⟩ = some (.int .i64 p0) := d0
      replace d1 : (V.drewN nq).cell? ⟨w.heap.size, 1, none⟩ = some (.int .i64 p1) := d1
      clear d2 d3 hB
      generalize V.drewN nq = V5 at *
      generalize min p0 p2 = x0 at *
      generalize max p0 p2 = x1 at *
      generalize min p1 p3 = y0 at *
      generalize max p1 p3 = y1 at *
      obtain ⟨Le, Lo, W, H, n, F, hbd, hhas, hdots, hcov⟩ := box_facts hcor.out hun.out
      have HBD := Lib.hid hbd
      have HAS := Lib.hid hhas
      have HDT := Lib.hid hdots
      have HCV := Lib.hid hcov
      clear hbd hhas hdots hcov
      have PL := Lib.hid (poly_of V5.heap.size 4 (rcF x0 y0 x1 y1) (by omega) _ (lit8 V5 x0 y0 x1 y1 3))
      have hB5 : Below V5.heap.size V5 (V5.alloc (.cells #[.int .i64 x0, .int .i64 y0, .int .i64 x1, .int .i64 y0, .int .i64 x1, .int .i64 y1, .int .i64 x0, .int .i64 y1] 3)) := ba (Below.refl _ _) _
      go_upto_region 10 with ((with_reducible refine PL.out.mono ?_); rintro e V6 ⟨a6, c6, rfl, o1, o2, hP, hB6⟩)
      replace hB5 := bt hB5 hB6
      have d0' := kc (bt hB5 (ba (Below.refl _ _) (.cells #[.slice a6 4 c6] 49))) d0
      have d1' := kc (bt hB5 (ba (Below.refl _ _) (.cells #[.slice a6 4 c6] 49))) d1
      have hB7 := bt hBq (bt hB5 (ba (Below.refl _ _) (.cells #[.slice a6 4 c6] 49)))
      have hO : OT (V6.alloc (.cells #[.slice a6 4 c6] 49)) (some ⟨V6.heap.size, 0, none⟩) 1 (fun _ => 4) (fun _ => rcP x0 y0 x1 y1) := ot_lit (by go_cell) o1 o2 (pa_below hP (ba (Below.refl _ _) _))
      have HO := Lib.hid hO
      clear PL hB5 hB6 d0 d1 hBq o1 o2 hP hO
      generalize V6.alloc (.cells #[.slice a6 4 c6] 49) = V7 at *
      generalize V6.heap.size = bS at *
      go_wp2_with fail
      with_reducible refine (HDT.out _ _ _ HO.out).mono ?_
      rintro e V8 ⟨sa, rfl, hD, hB8⟩
      have HO8 := Lib.hid (ot_below HO.out hB8)
      have hP9 := pic_new V8 Le Lo W H sa n 40
      have hB9 : Below V8.heap.size V8 (V8.alloc (.cells #[.int .i64 Le, .int .i64 Lo, .int .i64 (W : Int), .int .i64 (H : Int), .slice sa n n] 40)) := ba (Below.refl _ _) _
      obtain ⟨⟨z0, z1, z2, z3, z4⟩, f0, f1, f2, f3, f4⟩ := pzat_new V8 40
      replace d0' := kc hB8 d0'
      replace d1' := kc hB8 d1'
      have hB11 := bt hB7 hB8
      clear hB7 HO HDT
      go_upto_region 11 with (fail)
      have HP := Lib.hid hP9
      have HB := Lib.hid (bt hB11 hB9)
      have HH := Lib.hid (And.intro (kc hB9 d0') (kc hB9 d1'))
      have HD := Lib.hid (da_below hD hB9)
      have HO9 := Lib.hid (ot_below HO8.out hB9)
      clear hP9 hB9 hB8 hB11 z0 z1 z2 z3 z4 f0 f1 f2 f3 f4 d0' d1' hD HO8
      generalize V8.alloc (.cells #[.int .i64 Le, .int .i64 Lo, .int .i64 (W : Int), .int .i64 (H : Int), .slice sa n n] 40) = V9 at *
      generalize V8.heap.size = bP at *
      go_wp2_with fail
      have hu4 : 4 ≤ u ∧ u ≤ 1073741824 := by have := hun.out; unfold Un at this; omega
      have HU := Lib.hid hu4
      clear hu4 hcor hun
      go_loopw [17] (fun v V => YR V9 v V) (fun v _ => (20 - intOf v).toNat)
      case atStart => exact ⟨-12, rfl, by omega, by omega, Below.refl _ _⟩
      case round =>
        obtain ⟨y, rfl, ya, yb, hBy⟩ := hrel
        rename World => Vy
        rcases Int.lt_or_le y 20 with hy | hy
        · have NY : Hid (∀ V', Below Vy.heap.size Vy V' → YR V9 (.int .i64 (y + 1)) V' ∧ (20 - intOf (.int .i64 (y + 1))).toNat < (20 - intOf (.int .i64 y)).toNat) := Lib.hid (fun V' h => ⟨⟨y + 1, rfl, by omega, by omega, bt hBy h⟩, by simp [intOf]; omega⟩)
          have HY := Lib.hid (And.intro ya hy)
          have HBy := Lib.hid hBy
          clear ya yb hBy
          go_wp2_with fail
          clear hy
          go_loopw [18] (fun v V => YR Vy v V) (fun v _ => (20 - intOf v).toNat)
          case atStart => exact ⟨-12, rfl, by omega, by omega, Below.refl _ _⟩
          case round =>
            obtain ⟨x, rfl, xa, xb, hBx⟩ := hrel
            rename World => Vx
            rcases Int.lt_or_le x 20 with hx | hx
            · have NX : Hid (∀ V', Below Vx.heap.size Vx V' → YR Vy (.int .i64 (x + 1)) V' ∧ (20 - intOf (.int .i64 (x + 1))).toNat < (20 - intOf (.int .i64 x)).toNat) := Lib.hid (fun V' h => ⟨⟨x + 1, rfl, by omega, by omega, bt hBx h⟩, by simp [intOf]; omega⟩)
              have HX := Lib.hid (And.intro xa hx)
              have HBx := Lib.hid (bt HBy.out hBx)
              clear xa xb hBx
              go_wp2_with fail
              clear hx
              go_loopw [19, 20] (fun s19 s20 V => KR Vx (cB x0 y0 x1 y1 u x y) s19 s20 V) (fun _ s20 _ => 4 - (intOf s20).toNat)
              case atStart => exact ⟨0, rfl, by omega, rfl, rfl⟩
              case round =>
                obtain ⟨k, rfl, hk, rfl, rfl⟩ := hrel
                rcases Nat.lt_or_ge k 4 with hk4 | hk4
                · have k2 := nat_c k
                  have k3 : (k : Int) < 4 := k4 hk4
                  obtain ⟨m1, m2, m3, m4, m5, m6⟩ := km (k := k)
                  replace m6 := m6 (by omega)
                  have hup := cn_up (m := cB x0 y0 x1 y1 u x y k) (by have := cB_le x0 y0 x1 y1 u x y k; omega)
                  obtain ⟨e1, e2, e3, e4⟩ := rs_in (u := u) (x := x) HU.out ((inR_iff x).2 (by have := HX.out; omega)) (i := ((k % 2 : Nat) : Int)) (by omega)
                  obtain ⟨g1, g2, g3, g4⟩ := rs_in (u := u) (x := y) HU.out ((inR_iff y).2 (by have := HY.out; omega)) (i := ((k / 2 : Nat) : Int)) (by omega)
                  obtain ⟨d1, d2, d3, d4, d5, d6⟩ := rs_div (u := u) HU.out
                  have hst : cB x0 y0 x1 y1 u x y (k + 1) = cB x0 y0 x1 y1 u x y k + inB x0 y0 x1 y1 (u * x + u / 4 + ((k % 2 : Nat) : Int) * (u / 2)) (u * y + u / 4 + ((k / 2 : Nat) : Int) * (u / 2)) := rfl
                  have RR : Hid (∀ c : Nat, cB x0 y0 x1 y1 u x y (k + 1) = c → KR Vx (cB x0 y0 x1 y1 u x y) (.int .i64 (c : Int)) (.int .i64 ((k : Int) + 1)) Vx) := Lib.hid (fun c h => ⟨k + 1, rfl, hk4, by rw [h], rfl⟩)
                  have hlt := ltn' hk4
                  clear hk hk4 NX NY
                  generalize cB x0 y0 x1 y1 u x y (k + 1) = c1 at *
                  generalize cB x0 y0 x1 y1 u x y k = c0 at *
                  generalize ((k % 2 : Nat) : Int) = i at *
                  generalize ((k / 2 : Nat) : Int) = j at *
                  unfold inB at hst
                  have no : ¬ (x0 < u * x + u / 4 + i * (u / 2) ∧ u * x + u / 4 + i * (u / 2) ≤ x1 ∧ y0 ≤ u * y + u / 4 + j * (u / 2) ∧ u * y + u / 4 + j * (u / 2) < y1) → Hid (KR Vx (cB x0 y0 x1 y1 u x y) (.int .i64 (c0 : Int)) (.int .i64 ((k : Int) + 1)) Vx) := fun h => Lib.hid (RR.out c0 (by rw [if_neg h] at hst; exact hst))
                  have yes : (x0 < u * x + u / 4 + i * (u / 2) ∧ u * x + u / 4 + i * (u / 2) ≤ x1 ∧ y0 ≤ u * y + u / 4 + j * (u / 2) ∧ u * y + u / 4 + j * (u / 2) < y1) → Hid (KR Vx (cB x0 y0 x1 y1 u x y) (.int .i64 ((c0 + 1 : Nat) : Int)) (.int .i64 ((k : Int) + 1)) Vx) := fun h => Lib.hid (RR.out (c0 + 1) (by rw [if_pos h] at hst; exact hst))
                  clear hst RR
                  by_cases h1 : x0 < u * x + u / 4 + i * (u / 2)
                  · by_cases h2 : u * x + u / 4 + i * (u / 2) ≤ x1
                    · by_cases h3 : y0 ≤ u * y + u / 4 + j * (u / 2)
                      · by_cases h4 : u * y + u / 4 + j * (u / 2) < y1
                        · have R := yes ⟨h1, h2, h3, h4⟩
                          clear no yes
                          go_wp2_with fail
                          exact ⟨by first | exact R.out | (rw [hup]; exact R.out), hlt⟩
                        · have R := no (fun h => h4 h.2.2.2)
                          clear no yes
                          go_wp2_with fail
                          exact ⟨R.out, hlt⟩
                      · have R := no (fun h => h3 h.2.2.1)
                        clear no yes
                        go_wp2_with fail
                        exact ⟨R.out, hlt⟩
                    · have R := no (fun h => h2 h.2.1)
                      clear no yes
                      go_wp2_with fail
                      exact ⟨R.out, hlt⟩
                  · have R := no (fun h => h1 h.1)
                    clear no yes
                    go_wp2_with fail
                    exact ⟨R.out, hlt⟩
                · obtain rfl : k = 4 := by omega
                  have HO := Lib.hid (ot_below HO9.out HBx.out)
                  have CV : Hid (Calls Try.prog 15 #[.slice (some ⟨bS, 0, none⟩) 1 1, .int .i64 u, .int .i64 x, .int .i64 y] Vx fun e w' => e = .returned (.int .i64 (cB x0 y0 x1 y1 u x y 4 : Nat)) ∧ Below Vx.heap.size Vx w') := Lib.hid (HCV.out _ _ Vx x y (by have := HX.out; omega) (by have := HY.out; omega) HO.out)
                  have hh := HAS.out x y (by have := HX.out; omega) (by have := HY.out; omega)
                  have wx : wrap64 (x - Le) = x - Le := w6 (by have := HX.out; have := HBD.out; omega)
                  have wy : wrap64 (y - Lo) = y - Lo := w6 (by have := HY.out; have := HBD.out; omega)
                  have wx1 : wrap64 (x + 1) = x + 1 := w6 (by have := HX.out; omega)
                  have GT : Hid (∀ V, Below Vx.heap.size Vx V → Calls Try.prog 23 #[.agg #[.int .i64 (W : Int), .int .i64 (H : Int), .slice sa n n], .int .i64 (x - Le), .int .i64 (y - Lo)] V fun e w' => e = .returned (.bool (decide (2 ≤ cB x0 y0 x1 y1 u x y 4))) ∧ Below V.heap.size V w') := Lib.hid (fun V hb => by
                    rw [← hh]
                    exact Get_any (W : Int) (H : Int) sa n n F (x - Le) (y - Lo) V (da_below HD.out (bt HBx.out hb)))
                  clear hk hk4 hh
                  have c4 : (0 : Int) ≤ ((cB x0 y0 x1 y1 u x y 4 : Nat) : Int) := by omega
                  generalize cB x0 y0 x1 y1 u x y 4 = c at *
                  have PP : Hid (∀ V, Below Vx.heap.size Vx V → PicAt V bP Le Lo W H sa n) := Lib.hid (fun V hb => pic_below HP.out (bt HBx.out hb))
                  by_cases h2 : 2 ≤ c
                  · rw [decide_eq_true h2] at GT
                    have h3 : (2 : Int) ≤ (c : Int) := by omega
                    go_wp2_with (first
                      | ((with_reducible refine CV.out.mono ?_); rintro e v1 ⟨rfl, hv1⟩; obtain ⟨z0, z1, z2, z3, z4⟩ := PP.out _ hv1)
                      | ((with_reducible refine (GT.out _ hv1).mono ?_); rintro e v2 ⟨rfl, hv2⟩))
                    have R := Lib.hid (NX.out _ (bt hv1 hv2))
                    first | exact R.out | (rw [wx1]; exact R.out)
                  · rw [decide_eq_false h2] at GT
                    have h3 : ¬ (2 : Int) ≤ (c : Int) := by omega
                    go_wp2_with (first
                      | ((with_reducible refine CV.out.mono ?_); rintro e v1 ⟨rfl, hv1⟩; obtain ⟨z0, z1, z2, z3, z4⟩ := PP.out _ hv1)
                      | ((with_reducible refine (GT.out _ hv1).mono ?_); rintro e v2 ⟨rfl, hv2⟩))
                    have R := Lib.hid (NX.out _ (bt hv1 hv2))
                    first | exact R.out | (rw [wx1]; exact R.out)
            · obtain rfl : x = 20 := by omega
              have R := Lib.hid (NY.out _ hBx)
              have wy : wrap64 (y + 1) = y + 1 := w6 (by have := HY.out; omega)
              clear NY
              go_wp2_with fail
              first | exact R.out | (rw [wy]; exact R.out)
        · obtain rfl : y = 20 := by omega
          have HBf := Lib.hid (bt HB.out hBy)
          have d0 := kc hBy HH.out.1
          have d1 := kc hBy HH.out.2
          clear hBy HAS HCV HD HP HO9
          go_wp2_with fail
          with_reducible refine (MD.out _ HBf.out).mono ?_
          rintro e V10 ⟨v3, xs3, ns, B3, g, rfl, hM, hok⟩
          obtain ⟨a3, c3, S3, rfl, n1, n2, ha3, hO3, _⟩ := mo_oo hM
          have h3 := hM.be
          have hO3' := oo_ot2 hO3 ha3
          replace d0 := kc h3 d0
          replace d1 := kc h3 d1
          have CZ : Hid (∀ X Y W, (X = 56 ∨ X = -25 ∨ Y = 56 ∨ Y = -25) → (-30 ≤ X ∧ X ≤ 59) → (-30 ≤ Y ∧ Y ≤ 59) → Below V10.heap.size V10 W → Calls Try.prog 13 #[.slice a3 (min lN 4) c3, .int .i64 X, .int .i64 Y] W fun e w' => e = .returned (.int .i64 0) ∧ Below W.heap.size W w') := Lib.hid (fun X Y W hq hX hY hb => by
            rw [← made_zero hok hq]
            exact winding_wn X Y ((inR_iff X).2 (by omega)) ((inR_iff Y).2 (by omega)) a3 (min lN 4) c3 ns g (by omega) (fun k hk => by have := (hok k hk).1; omega) (fun k hk => okR_M (hok k hk)) W (ot_below hO3' hb))
          have C1 := Lib.hid (fun W hb => CZ.out 56 p1 W (.inl rfl) (by omega) hin.out.2 hb)
          have C2 := Lib.hid (fun W hb => CZ.out (-25) p1 W (.inr (.inl rfl)) (by omega) hin.out.2 hb)
          have C3 := Lib.hid (fun W hb => CZ.out p0 56 W (.inr (.inr (.inl rfl))) hin.out.1 (by omega) hb)
          have C4 := Lib.hid (fun W hb => CZ.out p0 (-25) W (.inr (.inr (.inr rfl))) hin.out.1 (by omega) hb)
          have HBg := Lib.hid (bt HBf.out h3)
          have DD := Lib.hid (And.intro d0 d1)
          clear h3 hM hO3 ha3 MD hO3' hok CZ
          generalize min lN 4 = m at *
          go_wp2_with (first
            | ((with_reducible refine (C1.out _ (Below.refl _ _)).mono ?_); rintro e v1 ⟨rfl, hv1⟩; have t1 := kc hv1 DD.out.2)
            | ((with_reducible refine (C2.out _ hv1).mono ?_); rintro e v2 ⟨rfl, hv2⟩; have hq2 := bt hv1 hv2; have t2 := kc hq2 DD.out.1)
            | ((with_reducible refine (C3.out _ hq2).mono ?_); rintro e v3 ⟨rfl, hv3⟩; have hq3 := bt hq2 hv3; have t3 := kc hq3 DD.out.1)
            | ((with_reducible refine (C4.out _ hq3).mono ?_); rintro e v4 ⟨rfl, hv4⟩; have hq4 := bt hq3 hv4))
          go_ret
          exact ⟨rfl, bt HBg.out hq4⟩
end Go.Proofs.Ytjeiapgniflnaaa.Rs
