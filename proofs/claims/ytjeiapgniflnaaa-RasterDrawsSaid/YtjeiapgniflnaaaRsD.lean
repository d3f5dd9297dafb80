/-
  Layer 7 (raster): Winding of the document's own.
-/
import Derived.Test.YtjeiapgniflnaaaRsB
namespace Go.Proofs.Ytjeiapgniflnaaa.Rs
open Go.RowKit
open Go.Proofs.Ytjeiapgniflnaaa.Ot
theorem prod_in {a b : Int} (ha : -2147483648 ≤ a ∧ a ≤ 2147483648) (hb : -2147483648 ≤ b ∧ b ≤ 2147483648) : -4611686018427387904 ≤ a * b ∧ a * b ≤ 4611686018427387904 := by
  have h : (a * b).natAbs ≤ 2147483648 * 2147483648 := by rw [Int.natAbs_mul]; exact Nat.mul_le_mul (by omega) (by omega)
  omega
set_option maxRecDepth 100000 in
set_option maxHeartbeats 4000000 in
theorem left_any (a b : Pt) (x y : Int) (ha : okR a = true) (hb : okR b = true) (hx : inR x = true) (hy : inR y = true) (w : World) :
    Calls Try.prog 33 #[ptV a, ptV b, .int .i64 x, .int .i64 y] w fun e' w' => e' = .returned (.bool (lf a b x y)) ∧ Below w.heap.size w w' := by
  obtain ⟨⟨a1, a2⟩, a3, a4⟩ := (okR_iff _).1 ha
  obtain ⟨⟨b1, b2⟩, b3, b4⟩ := (okR_iff _).1 hb
  obtain ⟨x1, x2⟩ := (inR_iff _).1 hx
  obtain ⟨y1, y2⟩ := (inR_iff _).1 hy
  have p1 := prod_in (a := b.x - a.x) (b := y - a.y) (by omega) (by omega)
  have p2 := prod_in (a := x - a.x) (b := b.y - a.y) (by omega) (by omega)
  have e1 : wrap64 (b.x - a.x) = b.x - a.x := w_id (by omega)
  have e2 : wrap64 (y - a.y) = y - a.y := w_id (by omega)
  have e3 : wrap64 ((b.x - a.x) * (y - a.y)) = (b.x - a.x) * (y - a.y) := w_id (by omega)
  have e4 : wrap64 (x - a.x) = x - a.x := w_id (by omega)
  have e5 : wrap64 (b.y - a.y) = b.y - a.y := w_id (by omega)
  have e6 : wrap64 ((x - a.x) * (b.y - a.y)) = (x - a.x) * (b.y - a.y) := w_id (by omega)
  clear ha hb hx hy a1 a2 a3 a4 b1 b2 b3 b4 x1 x2 y1 y2 p1 p2
  unfold ptV lf
  go_enter Try.func33, Try.ntmps33
  go_wp2_with fail
  go_ret
  exact ⟨rfl, ba (ba (Below.refl _ _) _) _⟩
theorem and3 (a b c : Bool) : (a = false ∧ (a && b && c) = false) ∨ (a = true ∧ b = false ∧ (a && b && c) = false) ∨ (a = true ∧ b = true ∧ c = false ∧ (a && b && c) = false) ∨ (a = true ∧ b = true ∧ c = true ∧ (a && b && c) = true) := by
  cases a <;> cases b <;> cases c <;> simp
def RwO (w : World) (ns : Nat → Nat) (g : Nat → Nat → Pt) (x y : Int) (N : Nat) (s7 s8 : Value) (V : World) : Prop := ∃ k : Nat, s8 = .int .i64 k ∧ k ≤ N ∧ s7 = .int .i64 (wn ns g x y k) ∧ Below w.heap.size w V
def RwI (w : World) (g : Nat → Pt) (n : Nat) (x y T : Int) (s7 s9 : Value) (V : World) : Prop := ∃ k : Nat, s9 = .int .i64 k ∧ k ≤ n ∧ s7 = .int .i64 (T + rwn g n x y k) ∧ Below w.heap.size w V
theorem wn_in {ns : Nat → Nat} {g : Nat → Nat → Pt} {x y : Int} {N k i : Nat} (hk : k < N) (hi : i ≤ ns k) (hs : pre ns N ≤ 1000000) : -1000000 ≤ wn ns g x y k + rwn (g k) (ns k) x y i ∧ wn ns g x y k + rwn (g k) (ns k) x y i ≤ 1000000 := by
  have h1 := wn_le ns g x y k
  have h2 := rwn_le (g k) (ns k) x y i
  have h3 := pre_mono ns (show k + 1 ≤ N by omega)
  rw [pre] at h3
  omega
theorem up3 {T : Int} (h : -1000000 ≤ T ∧ T ≤ 1000000) : wrap64 (T + 1) = T + 1 ∧ wrap64 (T - 1) = T - 1 ∧ wrap64 T = T := ⟨w_id (by omega), w_id (by omega), w_id (by omega)⟩
set_option maxRecDepth 100000 in
set_option maxHeartbeats 16000000 in
theorem rWinding_in (a : Option Addr) (N c : Nat) (ns : Nat → Nat) (g : Nat → Nat → Pt) (x y : Int) (hx : inR x = true) (hy : inR y = true) (hr : allO ns g N = true) (hN : N ≤ 1000000) (hs : pre ns N ≤ 1000000) (w : World) (hA : OT w a N ns g) :
    Calls Try.prog 14 #[.slice a N c, .int .i64 x, .int .i64 y] w fun e w' => e = .returned (.int .i64 (wn ns g x y N)) ∧ Below w.heap.size w w' := by
  have IX := Lib.hid (fun w => in_any x w)
  have IY := Lib.hid (fun w => in_any y w)
  rw [hx] at IX
  rw [hy] at IY
  have AR := Lib.hid (ranged_any a N c ns g hN hs w hA)
  rw [hr] at AR
  have HA := Lib.hid hA
  have HS := Lib.hid hs
  have HR := Lib.hid hr
  have HX := Lib.hid hx
  have HY := Lib.hid hy
  clear hx hy hr hA hs
  go_enter Try.func14, Try.ntmps14
  go_wp2_with (first | (with_reducible refine (IX.out _).mono ?_; rintro e w3 ⟨rfl, rfl⟩) | (with_reducible refine (IY.out _).mono ?_; rintro e w3 ⟨rfl, rfl⟩) | (with_reducible refine (AR.out).mono ?_; rintro e w1 ⟨rfl, rfl⟩))
  go_loopw [7, 8] (fun s7 s8 V => RwO w ns g x y N s7 s8 V) (fun _ s8 _ => N - (intOf s8).toNat)
  case atStart => exact ⟨0, rfl, by omega, rfl, Below.refl _ _⟩
  case round =>
    obtain ⟨k, rfl, hle, rfl, hB⟩ := hrel
    rename World => V
    rcases Nat.lt_or_ge k N with hk | hk
    · obtain ⟨b, off, a', c', rfl, hc, h1, h2, hp⟩ := ot_below HA.out hB k hk
      have k2 := nat_c k
      have k3 := lt_c hk
      have HW := Lib.hid (fun i hi => wn_in (g := g) (x := x) (y := y) (k := k) (i := i) hk hi HS.out)
      have HK := Lib.hid (fun i hi => allR_at (allO_at HR.out hk) (i := i) hi)
      have hn1 : ns k ≤ 1000000 := by
        have := pre_mono ns (show k + 1 ≤ N by omega)
        rw [pre] at this
        have := HS.out
        omega
      have HE : Hid (∀ V', Below V.heap.size V V' → RwO w ns g x y N (.int .i64 (wn ns g x y k + rwn (g k) (ns k) x y (ns k))) (.int .i64 ((k : Int) + 1)) V') := Lib.hid (fun V' hb => ⟨k + 1, rfl, by omega, rfl, bt hB hb⟩)
      have HP := Lib.hid hp
      have HC := Lib.hid hc
      clear hp
      generalize wn ns g x y k = T at *
      generalize g k = gk at *
      generalize ns k = n at *
      go_wp2_with fail
      go_loopw [7, 9] (fun s7 s9 W => RwI V gk n x y T s7 s9 W) (fun _ s9 _ => n - (intOf s9).toNat)
      case atStart => exact ⟨0, rfl, by omega, by rw [rwn, Int.add_zero], Below.refl _ _⟩
      case round =>
        clear hc
        obtain ⟨i, rfl, hi, rfl, hW⟩ := hrel
        rename World => W
        have c0 := kc hW HC.out
        have i2 := nat_c i
        rcases Nat.lt_or_ge i n with hin | hin
        · have i3 := lt_c hin
          obtain ⟨m1, m3, m2⟩ := next_mod hin hn1
          obtain ⟨b', o', rfl, x0, x1, x2⟩ := pa_below HP.out hW i hin
          obtain ⟨b2, o2, e2, y0, y1, y2⟩ := pa_below HP.out hW _ m2
          cases e2
          have hok := HK.out i hin
          have hok2 := HK.out _ m2
          have LF1 := Lib.hid (left_any (gk i) (gk ((i + 1) % n)) x y hok hok2 HX.out HY.out)
          have LF2 := Lib.hid (left_any (gk ((i + 1) % n)) (gk i) x y hok2 hok HX.out HY.out)
          have hT := HW.out i (Nat.le_of_lt hin)
          obtain ⟨u1, u2, u3⟩ := up3 hT
          have hv : Hid (T + rwn gk n x y (i + 1) = T + rwn gk n x y i + ct (gk i) (gk ((i + 1) % n)) x y) := Lib.hid (by rw [rwn]; omega)
          have RR : Hid (∀ V' v, T + rwn gk n x y (i + 1) = v → Below W.heap.size W V' → RwI V gk n x y T (.int .i64 v) (.int .i64 ((i : Int) + 1)) V') := Lib.hid (fun V' v h hb => ⟨i + 1, rfl, hin, by rw [h], bt hW hb⟩)
          obtain ⟨wi, wi2⟩ := wrap_n hin hn1
          have nz := ne_c hin
          have nz3 : ¬ n = 0 := Nat.ne_of_gt (Nat.lt_of_le_of_lt (Nat.zero_le _) hin)
          have nz2 : ((n : Int) == 0) = false := beq_eq_false_iff_ne.2 nz
          have hin' := Lib.hid hin
          clear hT HE hok hok2 hi hin
          generalize rwn gk n x y (i + 1) = T1 at *
          generalize T + rwn gk n x y i = T0 at *
          generalize (i + 1) % n = i' at *
          have j2 := nat_c i'
          have j3 := lt_c m2
          generalize gk i = p at *
          generalize gk i' = q at *
          unfold ptV at LF1 LF2
          unfold ct at hv
          go_upto_region 11 with (fail)
          have hA1 : Below W.heap.size W (W.alloc (.cells #[.int .i64 p.x, .int .i64 p.y, .bool p.o] 63)) := ba (Below.refl _ _) _
          have z0 : (W.alloc (.cells #[.int .i64 p.x, .int .i64 p.y, .bool p.o] 63)).cell? ⟨W.heap.size, 0, none⟩ = some (.int .i64 p.x) := by go_cell
          have z1 : (W.alloc (.cells #[.int .i64 p.x, .int .i64 p.y, .bool p.o] 63)).cell? ⟨W.heap.size, 1, none⟩ = some (.int .i64 p.y) := by go_cell
          have z2 : (W.alloc (.cells #[.int .i64 p.x, .int .i64 p.y, .bool p.o] 63)).cell? ⟨W.heap.size, 2, none⟩ = some (.bool p.o) := by go_cell
          replace c0 := kc hA1 c0
          replace y0 := kc hA1 y0
          replace y1 := kc hA1 y1
          replace y2 := kc hA1 y2
          obtain ⟨Ba, hBa⟩ : ∃ Ba, W.heap.size = Ba := ⟨_, rfl⟩
          have hBW : Ba < (W.alloc (.cells #[.int .i64 p.x, .int .i64 p.y, .bool p.o] 63)).heap.size := by rw [World.size_alloc]; omega
          have RR2 : Hid (∀ V' v, T + T1 = v → Below (W.alloc (.cells #[.int .i64 p.x, .int .i64 p.y, .bool p.o] 63)).heap.size (W.alloc (.cells #[.int .i64 p.x, .int .i64 p.y, .bool p.o] 63)) V' → RwI V gk n x y T (.int .i64 v) (.int .i64 ((i : Int) + 1)) V') := Lib.hid (fun V' v h hb => RR.out V' v h (bt hA1 hb))
          rw [hBa] at z0 z1 z2 ⊢
          clear RR x0 x1 x2 hBa hA1
          generalize (W.alloc (.cells #[.int .i64 p.x, .int .i64 p.y, .bool p.o] 63)) = W1 at *
          have C0 : ∀ V', Below W1.heap.size W1 V' → V'.cell? ⟨b, off + k, none⟩ = some (.slice (some ⟨b', o', none⟩) n c') := fun _ h => kc h c0
          have Y0 : ∀ V', Below W1.heap.size W1 V' → V'.cell? ⟨b', o' + i' * 3, none⟩ = some (.int .i64 q.x) := fun _ h => kc h y0
          have Y1 : ∀ V', Below W1.heap.size W1 V' → V'.cell? ⟨b', o' + i' * 3 + 1, none⟩ = some (.int .i64 q.y) := fun _ h => kc h y1
          have Y2 : ∀ V', Below W1.heap.size W1 V' → V'.cell? ⟨b', o' + i' * 3 + 2, none⟩ = some (.bool q.o) := fun _ h => kc h y2
          go_region_held3 (fun w' => Below W1.heap.size W1 w') (first
            | (with_reducible exact bd1 (Below.refl _ _))
            | (with_reducible exact bd1 (ba (Below.refl _ _) _))
            | (with_reducible exact ba (bd1 (Below.refl _ _)) _)
            | (with_reducible exact bs (bs (bs (by assumption) (Nat.le_refl _) _) (Nat.le_refl _) _) (Nat.le_refl _) _))
            (fail)
          have hA2 : Below W1.heap.size W1 ((W1.alloc (.cells #[.int .i64 q.x, .int .i64 q.y, .bool q.o] 63)).drew) := bd1 (ba (Below.refl _ _) _)
          have t0 : ((W1.alloc (.cells #[.int .i64 q.x, .int .i64 q.y, .bool q.o] 63)).drew).cell? ⟨W1.heap.size, 0, none⟩ = some (.int .i64 q.x) := by go_cell
          have t1 : ((W1.alloc (.cells #[.int .i64 q.x, .int .i64 q.y, .bool q.o] 63)).drew).cell? ⟨W1.heap.size, 1, none⟩ = some (.int .i64 q.y) := by go_cell
          have t2 : ((W1.alloc (.cells #[.int .i64 q.x, .int .i64 q.y, .bool q.o] 63)).drew).cell? ⟨W1.heap.size, 2, none⟩ = some (.bool q.o) := by go_cell
          replace z0 := kc hA2 z0
          replace z1 := kc hA2 z1
          replace z2 := kc hA2 z2
          replace c0 := kc hA2 c0
          have RR3 : Hid (∀ V' v, T + T1 = v → Below ((W1.alloc (.cells #[.int .i64 q.x, .int .i64 q.y, .bool q.o] 63)).drew).heap.size ((W1.alloc (.cells #[.int .i64 q.x, .int .i64 q.y, .bool q.o] 63)).drew) V' → RwI V gk n x y T (.int .i64 v) (.int .i64 ((i : Int) + 1)) V') := Lib.hid (fun V' v h hb => RR2.out V' v h (bt hA2 hb))
          have hlt := ltn hin'.out
          clear RR2 y0 y1 y2 hA2 C0 Y0 Y1 Y2 hBW
          (try clear hHeld)
          generalize W1.heap.size = Bb at *
          generalize ((W1.alloc (.cells #[.int .i64 q.x, .int .i64 q.y, .bool q.o] 63)).drew) = W2 at *
          rcases and3 (decide (p.y ≤ y)) (decide (y < q.y)) (lf p q x y) with ⟨a1, hv1⟩ | ⟨a1, a2, hv1⟩ | ⟨a1, a2, a3, hv1⟩ | ⟨a1, a2, a3, hv1⟩ <;>
          rcases and3 (decide (q.y ≤ y)) (decide (y < p.y)) (lf q p x y) with ⟨b1, hv2⟩ | ⟨b1, b2, hv2⟩ | ⟨b1, b2, b3, hv2⟩ | ⟨b1, b2, b3, hv2⟩ <;>
          (
            (first | rw [a3] at LF1 | skip)
            (first | rw [b3] at LF2 | skip)
            rw [hv1, hv2] at hv
            have hv' := hv.out
            simp only [if_true, Bool.false_eq_true, if_false, Int.sub_zero, Int.add_zero, Int.zero_sub] at hv'
            clear hv hv1 hv2
            have LG1 := Lib.hid (fun w => LF1.out w)
            have LG2 := Lib.hid (fun w => LF2.out w)
            clear LF1 LF2
            go_wp2_with (first | ((with_reducible refine (LG1.out _).mono ?_); rintro e W3 ⟨rfl, hb1⟩; have t0 := kc hb1 t0; have t1 := kc hb1 t1; have t2 := kc hb1 t2; have z0 := kc hb1 z0; have z1 := kc hb1 z1; have z2 := kc hb1 z2) | ((with_reducible refine (LG2.out _).mono ?_); rintro e W4 ⟨rfl, hb2⟩))
            first
              | exact ⟨RR3.out _ _ (by first | exact hv' | (rw [hv']; first | rfl | rw [u1] | (rw [u2]; rfl) | (rw [u3]; omega) | omega)) (Below.refl _ _), hlt⟩
              | exact ⟨RR3.out _ _ (by first | exact hv' | (rw [hv']; first | rfl | rw [u1] | (rw [u2]; rfl) | (rw [u3]; omega) | omega)) hb1, hlt⟩
              | exact ⟨RR3.out _ _ (by first | exact hv' | (rw [hv']; first | rfl | rw [u1] | (rw [u2]; rfl) | (rw [u3]; omega) | omega)) hb2, hlt⟩
              | exact ⟨RR3.out _ _ (by first | exact hv' | (rw [hv']; first | rfl | rw [u1] | (rw [u2]; rfl) | (rw [u3]; omega) | omega)) (bt hb1 hb2), hlt⟩
              | trace_state)
        · obtain rfl : i = n := by omega
          have R := Lib.hid (HE.out _ hW)
          go_wp2_with fail
          exact ⟨R.out, by simp [intOf]; omega⟩
    · obtain rfl : k = N := by omega
      go_wp2
      go_ret
      exact ⟨rfl, hB⟩
set_option maxRecDepth 100000 in
set_option maxHeartbeats 4000000 in
theorem rWinding_any (a : Option Addr) (N c : Nat) (ns : Nat → Nat) (g : Nat → Nat → Pt) (x y : Int) (hN : N ≤ 1000000) (hs : pre ns N ≤ 1000000) (w : World) (hA : OT w a N ns g) :
    Calls Try.prog 14 #[.slice a N c, .int .i64 x, .int .i64 y] w fun e w' => e = .returned (.int .i64 (wdg N ns g x y)) ∧ Below w.heap.size w w' := by
  have IX := Lib.hid (fun w => in_any x w)
  have IY := Lib.hid (fun w => in_any y w)
  have AR := Lib.hid (ranged_any a N c ns g hN hs w hA)
  unfold wdg
  rcases hr : allO ns g N with _ | _
  · rw [hr] at AR
    rw [if_neg (by simp)]
    clear hA
    go_enter Try.func14, Try.ntmps14
    go_wp2_with (with_reducible refine (AR.out).mono ?_; rintro e w1 ⟨rfl, rfl⟩)
    go_ret
    exact ⟨rfl, (Below.refl _ _)⟩
  rcases hx : inR x with _ | _
  · rw [hr] at AR
    rw [hx] at IX
    rw [if_neg (by simp)]
    clear hA
    go_enter Try.func14, Try.ntmps14
    go_wp2_with (first | (with_reducible refine (AR.out).mono ?_; rintro e w1 ⟨rfl, rfl⟩) | (with_reducible refine (IX.out _).mono ?_; rintro e w3 ⟨rfl, rfl⟩))
    go_ret
    exact ⟨rfl, (Below.refl _ _)⟩
  rcases hy : inR y with _ | _
  · rw [hr] at AR
    rw [hx] at IX
    rw [hy] at IY
    rw [if_neg (by simp)]
    clear hA
    go_enter Try.func14, Try.ntmps14
    go_wp2_with (first | (with_reducible refine (AR.out).mono ?_; rintro e w1 ⟨rfl, rfl⟩) | (with_reducible refine (IX.out _).mono ?_; rintro e w3 ⟨rfl, rfl⟩) | (with_reducible refine (IY.out _).mono ?_; rintro e w3 ⟨rfl, rfl⟩))
    go_ret
    exact ⟨rfl, (Below.refl _ _)⟩
  · rw [if_pos (by simp)]
    exact rWinding_in a N c ns g x y hx hy hr hN hs w hA
end Go.Proofs.Ytjeiapgniflnaaa.Rs
