/-
  Layer 7 (raster): the box of the program.
-/
import Derived.Test.YtjeiapgniflnaaaRsB
namespace Go.Proofs.Ytjeiapgniflnaaa.Rs
open Go.RowKit
open Go.Proofs.Ytjeiapgniflnaaa.Ot
def rcM : Rc := ⟨1073741824, 1073741824, -1073741824, -1073741824⟩
def bxRow (g : Nat → Pt) (R : Rc) : Nat → Rc
  | 0 => R
  | i + 1 => rcUp (bxRow g R i) (g i)
def bxAll (ns : Nat → Nat) (g : Nat → Nat → Pt) : Nat → Rc
  | 0 => rcM
  | k + 1 => bxRow (g k) (bxAll ns g k) (ns k)
theorem rc_set {V : World} {b : Nat} {r : Rc} (q : Rc) (h : RcAt V b r) : RcAt ((((V.setCell ⟨b, 0, none⟩ (.int .i64 q.a)).setCell ⟨b, 1, none⟩ (.int .i64 q.b)).setCell ⟨b, 2, none⟩ (.int .i64 q.c)).setCell ⟨b, 3, none⟩ (.int .i64 q.d)) b q := by
  obtain ⟨⟨h1, h2, h3, h4⟩, f1, f2, f3, f4⟩ := h
  exact ⟨⟨by go_cell, by go_cell, by go_cell, by go_cell⟩, by go_cell, by go_cell, by go_cell, by go_cell⟩
theorem rc_other {V : World} {b b' : Nat} {r : Rc} {q : Rc} (hn : b ≠ b') (h : RcAt V b r) : RcAt ((((V.setCell ⟨b', 0, none⟩ (.int .i64 q.a)).setCell ⟨b', 1, none⟩ (.int .i64 q.b)).setCell ⟨b', 2, none⟩ (.int .i64 q.c)).setCell ⟨b', 3, none⟩ (.int .i64 q.d)) b r := by
  obtain ⟨⟨h1, h2, h3, h4⟩, f1, f2, f3, f4⟩ := h
  have n1 : ¬ b' = b := fun e => hn e.symm
  exact ⟨⟨by go_cell, by go_cell, by go_cell, by go_cell⟩, by go_cell, by go_cell, by go_cell, by go_cell⟩
theorem rc_below4 {w V : World} {b : Nat} (q : Rc) (h : Below w.heap.size w V) (hb : w.heap.size ≤ b) : Below w.heap.size w ((((V.setCell ⟨b, 0, none⟩ (.int .i64 q.a)).setCell ⟨b, 1, none⟩ (.int .i64 q.b)).setCell ⟨b, 2, none⟩ (.int .i64 q.c)).setCell ⟨b, 3, none⟩ (.int .i64 q.d)) := by
  repeat (with_reducible refine bs ?_ hb _)
  exact h
def BxI (w : World) (R : Rc) (V : World) : Prop := RcAt V (w.heap.size + 1) R ∧ RcAt V w.heap.size rc0 ∧ Below w.heap.size w V
theorem bxi_below {w : World} {R : Rc} {V V' : World} (h : BxI w R V) (hB : Below V.heap.size V V') : BxI w R V' :=
  ⟨rcat_below h.1 hB, rcat_below h.2.1 hB, bt h.2.2 hB⟩
theorem bxi_set {w : World} {R : Rc} {V : World} (q : Rc) (h : BxI w R V) : BxI w q ((((V.setCell ⟨w.heap.size + 1, 0, none⟩ (.int .i64 q.a)).setCell ⟨w.heap.size + 1, 1, none⟩ (.int .i64 q.b)).setCell ⟨w.heap.size + 1, 2, none⟩ (.int .i64 q.c)).setCell ⟨w.heap.size + 1, 3, none⟩ (.int .i64 q.d)) :=
  ⟨rc_set q h.1, rc_other (by omega) h.2.1, rc_below4 q h.2.2 (by omega)⟩
def BxO (w : World) (ns : Nat → Nat) (g : Nat → Nat → Pt) (N : Nat) (s11 : Value) (V : World) : Prop := ∃ k : Nat, s11 = .int .i64 k ∧ k ≤ N ∧ BxI w (bxAll ns g k) V
def BxJ (w : World) (g : Nat → Pt) (R : Rc) (n : Nat) (s17 : Value) (V : World) : Prop := ∃ k : Nat, s17 = .int .i64 k ∧ k ≤ n ∧ BxI w (bxRow g R k) V
set_option maxRecDepth 100000 in
set_option maxHeartbeats 16000000 in
theorem box_any (a : Option Addr) (N c : Nat) (ns : Nat → Nat) (g : Nat → Nat → Pt) (hN : N ≤ 1000000) (hs : pre ns N ≤ 1000000) (w : World) (hA : OT w a N ns g) :
    Calls Try.prog 47 #[.slice a N c] w fun e w' => e = .returned (rcV (bxAll ns g N)) ∧ Below w.heap.size w w' := by
  have HA := Lib.hid hA
  have HS : Hid (∀ k, k < N → ns k ≤ 1000000) := Lib.hid (fun k hk => by have := pre_mono ns (show k + 1 ≤ N by omega); rw [pre] at this; omega)
  clear hA hs
  unfold rcV
  go_enter Try.func47, Try.ntmps47
  go_wp2_with fail
  go_loopw [11] (fun v V => BxO w ns g N v V) (fun v _ => N - (intOf v).toNat)
  case atStart =>
    refine ⟨0, rfl, by omega, ⟨⟨by show World.cell? _ _ = some (Value.int IntKind.i64 1073741824); go_cell, by show World.cell? _ _ = some (Value.int IntKind.i64 1073741824); go_cell, by show World.cell? _ _ = some (Value.int IntKind.i64 (-1073741824)); go_cell, by show World.cell? _ _ = some (Value.int IntKind.i64 (-1073741824)); go_cell⟩, by go_cell, by go_cell, by go_cell, by go_cell⟩, ⟨⟨by show World.cell? _ _ = some (Value.int IntKind.i64 0); go_cell, by show World.cell? _ _ = some (Value.int IntKind.i64 0); go_cell, by show World.cell? _ _ = some (Value.int IntKind.i64 0); go_cell, by show World.cell? _ _ = some (Value.int IntKind.i64 0); go_cell⟩, by go_cell, by go_cell, by go_cell, by go_cell⟩, ?_⟩
    have h2 : w.heap.size ≤ w.heap.size + 1 := by omega
    first
    | with_reducible exact ba (ba (Below.refl _ _) _) _
    | (repeat (with_reducible refine bs ?_ h2 _)
       with_reducible exact ba (ba (Below.refl _ _) _) _)
  case round =>
    obtain ⟨k, rfl, hle, hI⟩ := hrel
    rename World => V
    rcases Nat.lt_or_ge k N with hk | hk
    · obtain ⟨b, off, a', c', rfl, hc, h1, h2, hp⟩ := ot_below HA.out hI.2.2 k hk
      have k2 := nat_c k
      have k3 := lt_c hk
      have hs := HS.out k hk
      have hYs : Hid (∀ V', BxI w (bxRow (g k) (bxAll ns g k) (ns k)) V' → BxO w ns g N (.int .i64 ((k : Int) + 1)) V') := Lib.hid (fun V' hb => ⟨k + 1, rfl, by omega, hb⟩)
      have HP : Hid (∀ V', Below w.heap.size w V' → ∃ b off a' c', some (⟨b, off, none⟩ : Addr) = some ⟨b, off, none⟩ ∧ V'.cell? ⟨b, off + k, none⟩ = some (.slice a' (ns k) c') ∧ PA V' a' (ns k) (g k)) := Lib.hid (fun V' hb => by
        obtain ⟨b, off, a', c', e, hc, h1, h2, hp⟩ := ot_below HA.out hb k hk
        exact ⟨b, off, a', c', rfl, hc, hp⟩)
      have HPA : Hid (∀ V', Below w.heap.size w V' → PA V' a' (ns k) (g k)) := Lib.hid (fun V' hb => by
        obtain ⟨b0, off0, a0, c0, e0, hc0, _, _, hp0⟩ := HA.out k hk
        cases e0
        have hcv := kc hI.2.2 hc0
        rw [hc] at hcv
        cases hcv
        exact pa_below hp0 hb)
      clear hp HP
      generalize g k = gk at *
      generalize bxAll ns g k = R at *
      generalize ns k = n at *
      go_wp2_with fail
      go_loopw [17] (fun v W => BxJ w gk R n v W) (fun v _ => n - (intOf v).toNat)
      case atStart => exact ⟨0, rfl, by omega, hI⟩
      case round =>
        clear hI hc
        obtain ⟨i, rfl, hi, hI⟩ := hrel
        rename World => W
        rcases Nat.lt_or_ge i n with hin | hin
        · obtain ⟨b', o', rfl, x0, x1, x2⟩ := HPA.out W hI.2.2 i hin
          have i2 := nat_c i
          have i3 := lt_c hin
          have hlt := ltn hin
          have RR : Hid (BxJ w gk R n (.int .i64 ((i : Int) + 1)) (((((W.setCell ⟨w.heap.size + 1, 0, none⟩ (.int .i64 (min (bxRow gk R i).a (gk i).x))).setCell ⟨w.heap.size + 1, 1, none⟩ (.int .i64 (min (bxRow gk R i).b (gk i).y))).setCell ⟨w.heap.size + 1, 2, none⟩ (.int .i64 (max (bxRow gk R i).c (gk i).x))).setCell ⟨w.heap.size + 1, 3, none⟩ (.int .i64 (max (bxRow gk R i).d (gk i).y))).alloc (.cells #[.int .i64 (gk i).x, .int .i64 (gk i).y, .bool (gk i).o] 63))) := Lib.hid ⟨i + 1, rfl, hin, bxi_below (bxi_set (rcUp (bxRow gk R i) (gk i)) hI) (ba (Below.refl _ _) _)⟩
          obtain ⟨⟨⟨r0, r1, r2, r3⟩, f0, f1, f2, f3⟩, _, _⟩ := hI
          have hbl := block_lt_of_cell r0
          simp only at hbl
          have n1 : ¬ W.heap.size = w.heap.size + 1 := by omega
          clear hi hin
          generalize bxRow gk R i = q at *
          generalize gk i = p at *
          go_wp2_with fail
          exact ⟨RR.out, hlt⟩
        · obtain rfl : i = n := by omega
          have R := Lib.hid (hYs.out _ hI)
          have hlt := ltn hk
          go_wp2_with fail
          exact ⟨R.out, hlt⟩
    · obtain rfl : k = N := by omega
      obtain ⟨⟨⟨r0, r1, r2, r3⟩, f0, f1, f2, f3⟩, ⟨⟨q0, q1, q2, q3⟩, g0, g1, g2, g3⟩, hB⟩ := hI
      go_wp2_with fail
      refine bodyPost_ret (v := .agg #[.int .i64 (bxAll ns g k).a, .int .i64 (bxAll ns g k).b, .int .i64 (bxAll ns g k).c, .int .i64 (bxAll ns g k).d]) (by simp [results, Try.results47, go_sem, *]) rfl ⟨rfl, ?_⟩
      repeat (with_reducible refine bs ?_ (Nat.le_refl _) _)
      exact hB
end Go.Proofs.Ytjeiapgniflnaaa.Rs
