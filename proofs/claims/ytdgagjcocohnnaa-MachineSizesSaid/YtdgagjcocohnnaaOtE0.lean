/-
  Layer 6 (outline): rectangles; what is carried over stores.
-/
import Derived.Test.YtdgagjcocohnnaaOtD
import Derived.Test.YtdgagjcocohnnaaOtR
namespace Go.Proofs.Ytdgagjcocohnnaa.Ot
open Go.RowKit Go.Shelf
attribute [local go_sem] Oper.semAt_some
structure Rc where
  a : Int
  b : Int
  c : Int
  d : Int
def rcV (r : Rc) : Value := .agg #[.int .i64 r.a, .int .i64 r.b, .int .i64 r.c, .int .i64 r.d]
def rc0 : Rc := ⟨0, 0, 0, 0⟩
/-- A rectangle in a block of its own, which may be written. -/
def RcAt (w : World) (b : Nat) (r : Rc) : Prop :=
  (w.cell? ⟨b, 0, none⟩ = some (.int .i64 r.a) ∧ w.cell? ⟨b, 1, none⟩ = some (.int .i64 r.b) ∧ w.cell? ⟨b, 2, none⟩ = some (.int .i64 r.c) ∧ w.cell? ⟨b, 3, none⟩ = some (.int .i64 r.d)) ∧
  w.frozen? ⟨b, 0, none⟩ = false ∧ w.frozen? ⟨b, 1, none⟩ = false ∧ w.frozen? ⟨b, 2, none⟩ = false ∧ w.frozen? ⟨b, 3, none⟩ = false
theorem rcat_below {w W : World} {b : Nat} {r : Rc} (h : RcAt w b r) (hB : Below w.heap.size w W) : RcAt W b r := by
  obtain ⟨⟨h1, h2, h3, h4⟩, f1, f2, f3, f4⟩ := h
  exact ⟨⟨kc hB h1, kc hB h2, kc hB h3, kc hB h4⟩, kf hB h1 f1, kf hB h2 f2, kf hB h3 f3, kf hB h4 f4⟩
def rcSt (p : Pt) : Rc := ⟨p.x, p.y, p.x, p.y⟩
def rcUp (r : Rc) (p : Pt) : Rc := ⟨min r.a p.x, min r.b p.y, max r.c p.x, max r.d p.y⟩
theorem rc_set4 {V : World} {b : Nat} {r : Rc} (p : Pt) (h : RcAt V b r) : RcAt ((((V.setCell ⟨b, 0, none⟩ (.int .i64 (min r.a p.x))).setCell ⟨b, 2, none⟩ (.int .i64 (max r.c p.x))).setCell ⟨b, 1, none⟩ (.int .i64 (min r.b p.y))).setCell ⟨b, 3, none⟩ (.int .i64 (max r.d p.y))) b (rcUp r p) := by
  obtain ⟨⟨h1, h2, h3, h4⟩, f1, f2, f3, f4⟩ := h
  exact ⟨⟨by show _ = some (Value.int IntKind.i64 (min r.a p.x)); go_cell, by show _ = some (Value.int IntKind.i64 (min r.b p.y)); go_cell, by show _ = some (Value.int IntKind.i64 (max r.c p.x)); go_cell, by show _ = some (Value.int IntKind.i64 (max r.d p.y)); go_cell⟩, by go_cell, by go_cell, by go_cell, by go_cell⟩
theorem rc_st4 {V : World} {b : Nat} {r : Rc} (p : Pt) (h : RcAt V b r) : RcAt ((((V.setCell ⟨b, 0, none⟩ (.int .i64 p.x)).setCell ⟨b, 1, none⟩ (.int .i64 p.y)).setCell ⟨b, 2, none⟩ (.int .i64 p.x)).setCell ⟨b, 3, none⟩ (.int .i64 p.y)) b (rcSt p) := by
  obtain ⟨⟨h1, h2, h3, h4⟩, f1, f2, f3, f4⟩ := h
  exact ⟨⟨by show _ = some (Value.int IntKind.i64 p.x); go_cell, by show _ = some (Value.int IntKind.i64 p.y); go_cell, by show _ = some (Value.int IntKind.i64 p.x); go_cell, by show _ = some (Value.int IntKind.i64 p.y); go_cell⟩, by go_cell, by go_cell, by go_cell, by go_cell⟩
theorem rcUp_st (p : Pt) : rcUp (rcSt p) p = rcSt p := by unfold rcUp rcSt; simp
/-- The smallest rectangle with the first points. -/
def bxN (p : Nat → Pt) : Nat → Rc
  | 0 => rc0
  | k + 1 => rcUp (if k = 0 then rcSt (p 0) else bxN p k) (p k)
/-- The points of an outline, counted through. -/
def fl (N : Nat) (ns : Nat → Nat) (g : Nat → Nat → Pt) (j : Nat) : Pt := g (loc ns N j).1 (loc ns N j).2
def bxO (N : Nat) (ns : Nat → Nat) (g : Nat → Nat → Pt) : Rc := bxN (fl N ns g) (pre ns N)
theorem put_cell {W : World} {r : Nat} {o : Obj} (o' : Obj) {p : Addr} {v : Value} (ho : W.heap[r]? = some o) (hc : o.isCells = false) (h : W.cell? p = some v) : (W.putObj r o').cell? p = some v ∧ (W.putObj r o').frozen? p = W.frozen? p := by
  have hne : p.block ≠ r := by
    rintro rfl
    unfold World.cell? at h
    rw [ho] at h
    cases o <;> simp_all [Obj.isCells]
  have e : (W.putObj r o').heap[p.block]? = W.heap[p.block]? := World.putObj_heap_other hne
  exact ⟨by simpa only [World.cell?, e] using h, by simp only [World.frozen?, e]⟩
theorem below_put {w W : World} (h : Below w.heap.size w W) {r : Nat} (hr : w.heap.size ≤ r) (o : Obj) : Below w.heap.size w (W.putObj r o) :=
  h.grown (grownBy_putObj' W r o) h.size (fun k hk => by cases hk; exact hr)
theorem ko_below {V V' : World} (h : Below V.heap.size V V') : KeepsOthers V V' := ⟨h.size, fun k _ hk _ => (h.block k (Array.getElem?_eq_some_iff.1 hk).1).trans hk⟩
theorem put_rc {W : World} {r : Nat} {o : Obj} (o' : Obj) {b : Nat} {x : Rc} (ho : W.heap[r]? = some o) (hc : o.isCells = false) (h : RcAt W b x) : RcAt (W.putObj r o') b x := by
  obtain ⟨⟨h1, h2, h3, h4⟩, f1, f2, f3, f4⟩ := h
  exact ⟨⟨(put_cell o' ho hc h1).1, (put_cell o' ho hc h2).1, (put_cell o' ho hc h3).1, (put_cell o' ho hc h4).1⟩, (put_cell o' ho hc h1).2.trans f1, (put_cell o' ho hc h2).2.trans f2, (put_cell o' ho hc h3).2.trans f3, (put_cell o' ho hc h4).2.trans f4⟩
theorem put_ox {W : World} {r : Nat} {o : Obj} (o' : Obj) {a : Option Addr} {N : Nat} {ns B O : Nat → Nat} (ho : W.heap[r]? = some o) (hc : o.isCells = false) (h : OX W a N ns B O) : OX (W.putObj r o') a N ns B O := fun k hk => by
  obtain ⟨b, off, a', c', e, hx, h1, h2, hp⟩ := h k hk
  exact ⟨b, off, a', c', e, (put_cell o' ho hc hx).1, h1, h2, hp⟩
theorem put_pm {W : World} {r : Nat} {o : Obj} (o' : Obj) {X : Nat} {a : Option Addr} {N c : Nat} {ns B O : Nat → Nat} (ho : W.heap[r]? = some o) (hc : o.isCells = false) (h : PMem X a N c ns B O W) : PMem X a N c ns B O (W.putObj r o') :=
  ⟨(put_cell o' ho hc h.1).1, put_ox o' ho hc h.2⟩
theorem pm_below {V V' : World} {X : Nat} {a : Option Addr} {N c : Nat} {ns B O : Nat → Nat} (h : PMem X a N c ns B O V) (hB : Below V.heap.size V V') : PMem X a N c ns B O V' := ⟨kc hB h.1, ox_below h.2 hB⟩
/-- What Box holds behind some rounds. -/
def BI (w : World) (a : Option Addr) (N c : Nat) (ns B O : Nat → Nat) (g : Nat → Nat → Pt) (k : Nat) (V : World) : Prop :=
  RcAt V (w.heap.size + 1) (bxN (fl N ns g) k) ∧ RcAt V w.heap.size rc0 ∧ PMem (w.heap.size + 1 + 1) a N c ns B O V ∧ Below w.heap.size w V
theorem bi_below {w : World} {a : Option Addr} {N c : Nat} {ns B O : Nat → Nat} {g : Nat → Nat → Pt} {k : Nat} {V V' : World} (h : BI w a N c ns B O g k V) (hB : Below V.heap.size V V') : BI w a N c ns B O g k V' := by
  obtain ⟨h1, h2, h3, h4⟩ := h
  exact ⟨rcat_below h1 hB, rcat_below h2 hB, pm_below h3 hB, bt h4 hB⟩
theorem bi_put {w : World} {a : Option Addr} {N c : Nat} {ns B O : Nat → Nat} {g : Nat → Nat → Pt} {k : Nat} {V : World} {r : Nat} {o : Obj} (o' : Obj) (hr : w.heap.size ≤ r) (h : BI w a N c ns B O g k V) (ho : V.heap[r]? = some o) (hc : o.isCells = false) : BI w a N c ns B O g k (V.putObj r o') := by
  obtain ⟨h1, h2, h3, h4⟩ := h
  exact ⟨put_rc o' ho hc h1, put_rc o' ho hc h2, put_pm o' ho hc h3, below_put h4 hr o'⟩
theorem gr (w : World) (r : Nat) : w.grownBy w (some r) := ⟨rfl, rfl, rfl, Nat.le_refl _, fun _ _ _ => rfl⟩
theorem gd1 {a w : World} {r : Option Nat} (h : a.grownBy w r) : a.grownBy w.drew r := ⟨h.os, h.tape, h.output, h.size, h.block⟩
theorem gt {a w v : World} {r : Option Nat} (h : a.grownBy w r) (hb : Below w.heap.size w v) : a.grownBy v r :=
  ⟨hb.os.trans h.os, hb.tape.trans h.tape, hb.output.trans h.output, Nat.le_trans h.size hb.size, fun i hi hn => (hb.block i (Nat.lt_of_lt_of_le hi h.size)).trans (h.block i hi hn)⟩
theorem gs {a w : World} {r o : Nat} (h : a.grownBy w (some r)) (u : Value) : a.grownBy (w.setCell ⟨r, o, none⟩ u) (some r) :=
  ⟨h.os, h.tape, h.output, by simpa [World.setCell] using h.size, fun i hi hne => (Below.heap_setCell w _ u i (by rintro rfl; exact hne rfl)).trans (h.block i hi hne)⟩
theorem gc {a w : World} {r b o : Nat} {v : Value} (h : a.grownBy w (some r)) (hc : a.cell? ⟨b, o, none⟩ = some v) (hn : b ≠ r) : w.cell? ⟨b, o, none⟩ = some v :=
  h.cell hc (by simpa using hn)
theorem gf {a w : World} {r b o : Nat} {v : Value} {t : Bool} (h : a.grownBy w (some r)) (hc : a.cell? ⟨b, o, none⟩ = some v) (hf : a.frozen? ⟨b, o, none⟩ = t) (hn : b ≠ r) : w.frozen? ⟨b, o, none⟩ = t := by
  have e := h.block b (block_lt_of_cell hc) (by simpa using hn)
  rw [← hf]
  simp only [World.frozen?, e]
theorem gB {w a v : World} {r : Nat} (h : Below w.heap.size w a) (g : a.grownBy v (some r)) (hr : w.heap.size ≤ r) : Below w.heap.size w v :=
  ⟨g.os.trans h.os, g.tape.trans h.tape, g.output.trans h.output, Nat.le_trans h.size g.size, fun i hi => (g.block i (Nat.lt_of_lt_of_le hi h.size) (fun e => by injection e; omega)).trans (h.block i hi)⟩
theorem gko {V V' : World} {r : Nat} {o : Nat} {v : Value} (h : V.grownBy V' (some r)) (hc : V.cell? ⟨r, o, none⟩ = some v) : KeepsOthers V V' := by
  refine ⟨h.size, fun k ob hk hn => ?_⟩
  have hne : k ≠ r := by
    rintro rfl
    unfold World.cell? at hc
    rw [hk] at hc
    cases ob <;> simp_all [Obj.isCells]
  exact (h.block k (Array.getElem?_eq_some_iff.1 hk).1 (by simpa using hne)).trans hk
theorem bi_next {w : World} {a : Option Addr} {N c : Nat} {ns B O : Nat → Nat} {g : Nat → Nat → Pt} {k : Nat} {V : World} (h : BI w a N c ns B O g k V) (hX : OX w a N ns B O) (V' : World) (hg : V.grownBy V' (some (w.heap.size + 1))) (hr : RcAt V' (w.heap.size + 1) (bxN (fl N ns g) (k + 1))) :
    KeepsOthers V V' ∧ BI w a N c ns B O g (k + 1) V' := by
  obtain ⟨h1, ⟨⟨c1, c2, c3, c4⟩, f1, f2, f3, f4⟩, h3, h4⟩ := h
  have hB := gB h4 hg (by omega)
  have n1 : w.heap.size ≠ w.heap.size + 1 := by omega
  exact ⟨gko hg h1.1.1, hr, ⟨⟨gc hg c1 n1, gc hg c2 n1, gc hg c3 n1, gc hg c4 n1⟩, gf hg c1 f1 n1, gf hg c2 f2 n1, gf hg c3 f3 n1, gf hg c4 f4 n1⟩, ⟨gc hg h3.1 (by omega), ox_below hX hB⟩, hB⟩
end Go.Proofs.Ytdgagjcocohnnaa.Ot
