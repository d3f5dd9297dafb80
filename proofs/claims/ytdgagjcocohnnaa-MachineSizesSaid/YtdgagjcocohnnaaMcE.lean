/-
  Layer 9 (machine): step.
-/
import Derived.Test.YtdgagjcocohnnaaMcC
import Derived.Test.YtdgagjcocohnnaaMcD
import Derived.Laws.IdiomCopy
import Derived.Shelf.Abstract
namespace Go.Proofs.Ytdgagjcocohnnaa.Mc
open Go.RowKit
theorem gr (w : World) (r : Nat) : w.grownBy w (some r) := ⟨rfl, rfl, rfl, Nat.le_refl _, fun _ _ _ => rfl⟩
theorem gs {a w : World} {r o : Nat} (h : a.grownBy w (some r)) (u : Value) : a.grownBy (w.setCell ⟨r, o, none⟩ u) (some r) :=
  ⟨h.os, h.tape, h.output, by simpa [World.setCell] using h.size, fun i hi hne => (Below.heap_setCell w _ u i (by rintro rfl; exact hne rfl)).trans (h.block i hi hne)⟩
theorem gt {a w v : World} {r : Option Nat} (h : a.grownBy w r) (hb : Below w.heap.size w v) : a.grownBy v r :=
  ⟨hb.os.trans h.os, hb.tape.trans h.tape, hb.output.trans h.output, Nat.le_trans h.size hb.size, fun i hi hn => (hb.block i (Nat.lt_of_lt_of_le hi h.size)).trans (h.block i hi hn)⟩
theorem ga {a w : World} {r : Option Nat} (h : a.grownBy w r) (o : Obj) : a.grownBy (w.alloc o) r := gt h (ba (Below.refl _ _) o)
theorem gd1 {a w : World} {r : Option Nat} (h : a.grownBy w r) : a.grownBy w.drew r := ⟨h.os, h.tape, h.output, h.size, h.block⟩
theorem gc {a w : World} {r b o : Nat} {v : Value} (h : a.grownBy w (some r)) (hc : a.cell? ⟨b, o, none⟩ = some v) (hn : b ≠ r) : w.cell? ⟨b, o, none⟩ = some v := by
  have hb : w.heap[b]? = a.heap[b]? := h.block b (block_lt_of_cell hc) (by intro e; cases e; exact hn rfl)
  unfold World.cell? at hc ⊢
  rw [hb]; exact hc
theorem far_cell {w : World} {q o B o' : Nat} {u v : Value} (h : w.cell? ⟨q, o, none⟩ = some u) (hne : q ≠ B ∨ o ≠ o') : (w.setCell ⟨B, o', none⟩ v).cell? ⟨q, o, none⟩ = some u := by
  rw [World.cell?_setCell_other (h := fun e => by injection e with e1 e2; rcases hne with h | h; exact h e1.symm; exact h e2.symm)]
  exact h
theorem same_cell {w : World} {B o : Nat} {u v : Value} (h : w.cell? ⟨B, o, none⟩ = some u) : (w.setCell ⟨B, o, none⟩ v).cell? ⟨B, o, none⟩ = some v := by go_cell
theorem fz_set {w : World} {q o B o' : Nat} {v : Value} {t : Bool} (h : w.frozen? ⟨q, o, none⟩ = t) : (w.setCell ⟨B, o', none⟩ v).frozen? ⟨q, o, none⟩ = t := by go_cell
/-- A store into a run, beyond its table. -/
theorem kk_set {B : Nat} {V : World} {o : Nat} {u : Value} (h : ∀ k, 1 ≤ k → k < 16 → V.cell? ⟨B, k * 6, none⟩ = some (.bool (kd k).uN) ∧ V.cell? ⟨B, k * 6 + 1, none⟩ = some (.bool (kd k).uM) ∧ V.cell? ⟨B, k * 6 + 2, none⟩ = some (.bool (kd k).oP) ∧ V.cell? ⟨B, k * 6 + 3, none⟩ = some (.int .i64 (kd k).ta) ∧ V.cell? ⟨B, k * 6 + 4, none⟩ = some (.int .i64 (kd k).pu) ∧ V.cell? ⟨B, k * 6 + 5, none⟩ = some (.func (Fn.func (kd k).fn) #[] #[])) (ho : 96 ≤ o) :
    ∀ k, 1 ≤ k → k < 16 → (V.setCell ⟨B, o, none⟩ u).cell? ⟨B, k * 6, none⟩ = some (.bool (kd k).uN) ∧ (V.setCell ⟨B, o, none⟩ u).cell? ⟨B, k * 6 + 1, none⟩ = some (.bool (kd k).uM) ∧ (V.setCell ⟨B, o, none⟩ u).cell? ⟨B, k * 6 + 2, none⟩ = some (.bool (kd k).oP) ∧ (V.setCell ⟨B, o, none⟩ u).cell? ⟨B, k * 6 + 3, none⟩ = some (.int .i64 (kd k).ta) ∧ (V.setCell ⟨B, o, none⟩ u).cell? ⟨B, k * 6 + 4, none⟩ = some (.int .i64 (kd k).pu) ∧ (V.setCell ⟨B, o, none⟩ u).cell? ⟨B, k * 6 + 5, none⟩ = some (.func (Fn.func (kd k).fn) #[] #[]) := fun k h1 h2 => by
  obtain ⟨a, b, c, d, e, f⟩ := h k h1 h2
  exact ⟨far_cell a (.inr (by omega)), far_cell b (.inr (by omega)), far_cell c (.inr (by omega)), far_cell d (.inr (by omega)), far_cell e (.inr (by omega)), far_cell f (.inr (by omega))⟩
theorem gg {w V V' : World} {B Bu : Nat} (h1 : w.grownBy V (some B)) (h2 : V.grownBy V' (some Bu)) (hB : w.heap.size ≤ Bu) : w.grownBy V' (some B) :=
  ⟨h2.os.trans h1.os, h2.tape.trans h1.tape, h2.output.trans h1.output, Nat.le_trans h1.size h2.size, fun i hi hn => (h2.block i (Nat.lt_of_lt_of_le hi h1.size) (by intro e; cases e; omega)).trans (h1.block i hi hn)⟩
/-- What step leaves, if it sets no point. -/
def StP (B : Nat) (pa : Option Addr) (np pc : Nat) (sz ret : Int) (l : List Int) (st : Int) (w : World) (e : Ending) (w' : World) : Prop := e = .returned (.int .i64 ret) ∧ w.grownBy w' (some B) ∧ RuA B pa np pc sz l st w'
theorem ru_grown {B Bu : Nat} {pa : Option Addr} {np pc : Nat} {sz : Int} {l : List Int} {st : Int} {V V' : World} (h : RuA B pa np pc sz l st V) (hG : V.grownBy V' (some Bu)) (hne : ¬ B = Bu) : RuA B pa np pc sz l st V' := by
  have fz : ∀ o v t, V.cell? ⟨B, o, none⟩ = some v → V.frozen? ⟨B, o, none⟩ = t → V'.frozen? ⟨B, o, none⟩ = t := fun o v t hc hf => by
    have hb : V'.heap[B]? = V.heap[B]? := hG.block B (block_lt_of_cell hc) (by intro e; cases e; exact hne rfl)
    unfold World.frozen? at hf ⊢
    rw [hb]; exact hf
  refine ⟨fun k h1 h2 => ?_, gc hG h.c96 hne, gc hG h.c97 hne, gc hG h.c98 hne, fz _ _ _ h.c98 h.f98, fun i hi => ?_, gc hG h.c107 hne, fz _ _ _ h.c107 h.f107, h.len⟩
  · obtain ⟨a, b, c, d, e, f⟩ := h.kk k h1 h2
    exact ⟨gc hG a hne, gc hG b hne, gc hG c hne, gc hG d hne, gc hG e hne, gc hG f hne⟩
  · obtain ⟨v, a, b, c⟩ := h.stk i hi
    exact ⟨v, gc hG a hne, fz _ _ _ a b, c⟩
theorem ru_st {B : Nat} {pa : Option Addr} {np pc : Nat} {sz : Int} {l : List Int} {st st' : Int} {V : World} (h : RuA B pa np pc sz l st V) : RuA B pa np pc sz l st' (V.setCell ⟨B, 98, none⟩ (.int .i64 st')) :=
  ⟨kk_set h.kk (by omega), far_cell h.c96 (.inr (by omega)), far_cell h.c97 (.inr (by omega)), same_cell h.c98, fz_set h.f98, fun i hi => by
    obtain ⟨v, a, b, c⟩ := h.stk i hi
    exact ⟨v, far_cell a (.inr (by omega)), fz_set b, c⟩, far_cell h.c107 (.inr (by omega)), fz_set h.f107, h.len⟩
theorem ru_pop {B : Nat} {pa : Option Addr} {np pc : Nat} {sz : Int} {l t : List Int} {st : Int} {V : World} (h : RuA B pa np pc sz (l ++ t) st V) : RuA B pa np pc sz l st (V.setCell ⟨B, 107, none⟩ (.int .i64 l.length)) :=
  ⟨kk_set h.kk (by omega), far_cell h.c96 (.inr (by omega)), far_cell h.c97 (.inr (by omega)), far_cell h.c98 (.inr (by omega)), fz_set h.f98, fun i hi => by
    obtain ⟨v, a, b, c⟩ := h.stk i hi
    refine ⟨v, far_cell a (.inr (by omega)), fz_set b, fun x hx => c x ?_⟩
    have hlt : i < l.length := (List.getElem?_eq_some_iff.1 hx).1
    rw [List.getElem?_append_left hlt]
    exact hx, same_cell h.c107, fz_set h.f107, by have := h.len; rw [List.length_append] at this; omega⟩
theorem ru_cell {B : Nat} {pa : Option Addr} {np pc : Nat} {sz : Int} {l : List Int} {st : Int} {V : World} (h : RuA B pa np pc sz l st V) (x : Int) (hl : l.length < 8) : RuA B pa np pc sz l st (V.setCell ⟨B, 99 + l.length, none⟩ (.int .i64 x)) ∧ (V.setCell ⟨B, 99 + l.length, none⟩ (.int .i64 x)).cell? ⟨B, 99 + l.length, none⟩ = some (.int .i64 x) := by
  obtain ⟨v0, a0, b0, c0⟩ := h.stk l.length hl
  refine ⟨⟨kk_set h.kk (by omega), far_cell h.c96 (.inr (by omega)), far_cell h.c97 (.inr (by omega)), far_cell h.c98 (.inr (by omega)), fz_set h.f98, fun i hi => ?_, far_cell h.c107 (.inr (by omega)), fz_set h.f107, h.len⟩, same_cell a0⟩
  by_cases e : i = l.length
  · subst e
    exact ⟨x, same_cell a0, fz_set b0, fun y hy => absurd (List.getElem?_eq_some_iff.1 hy).1 (by omega)⟩
  · obtain ⟨v, a, b, c⟩ := h.stk i hi
    exact ⟨v, far_cell a (.inr (by omega)), fz_set b, c⟩
theorem ru_push {B : Nat} {pa : Option Addr} {np pc : Nat} {sz : Int} {l : List Int} {st : Int} {V : World} {x : Int} (h : RuA B pa np pc sz l st V) (hx : V.cell? ⟨B, 99 + l.length, none⟩ = some (.int .i64 x)) (hl : l.length < 8) : RuA B pa np pc sz (l ++ [x]) st (V.setCell ⟨B, 107, none⟩ (.int .i64 (l.length + 1 : Nat))) := by
  refine ⟨kk_set h.kk (by omega), far_cell h.c96 (.inr (by omega)), far_cell h.c97 (.inr (by omega)), far_cell h.c98 (.inr (by omega)), fz_set h.f98, fun i hi => ?_, ?_, fz_set h.f107, by rw [List.length_append]; simp; omega⟩
  · obtain ⟨v, a, b, c⟩ := h.stk i hi
    refine ⟨v, far_cell a (.inr (by omega)), fz_set b, fun y hy => ?_⟩
    by_cases e : i < l.length
    · rw [List.getElem?_append_left e] at hy
      exact c y hy
    · have hlt : i < (l ++ [x]).length := (List.getElem?_eq_some_iff.1 hy).1
      rw [List.length_append] at hlt
      simp only [List.length_cons, List.length_nil] at hlt
      obtain rfl : i = l.length := by omega
      rw [List.getElem?_append_right (by omega), Nat.sub_self] at hy
      have e1 : x = y := by simpa using hy
      subst e1
      rw [a] at hx
      injection hx with hx
      injection hx
  · rw [List.length_append]
    exact same_cell h.c107
theorem copy_one (V : World) (Bu B h' : Nat) (x : Int) (s0 : V.cell? ⟨B, 99 + h' + 0, none⟩ = some (.int .i64 x)) (u2 : V.cell? ⟨Bu, 2, none⟩ = some (.int .i64 0)) (w2 : V.frozen? ⟨Bu, 2, none⟩ = false) :
    (Builtin.copy_ #[23, 23] 3 #[.slice (some ⟨Bu, 2, none⟩) 2 2, .slice (some ⟨B, 99 + h', none⟩) 1 (8 - h')]).run Try.prog V = .ok (goInt 1) (V.setCell ⟨Bu, 2, none⟩ (.int .i64 x)) := by
  refine run_copy_cells (P := Try.prog) V 23 23 3 3 Bu 2 2 2 ⟨B, 99 + h', none⟩ 1 (8 - h') [.int .i64 x] Try.underlying23 (by kernel_rfl) rfl ?_ ?_ ?_ (by simp [Value.oneCell'])
  · intro j v hj
    match j, hj with
    | 0, hj =>
      simp at hj
      subst hj
      exact s0
  · intro j hj
    obtain rfl : j = 0 := by simpa using hj
    show (V.cell? ⟨Bu, 2, none⟩).isSome = true
    rw [u2]
    rfl
  · intro j hj
    obtain rfl : j = 0 := by simpa using hj
    exact w2
theorem copy_two (V : World) (Bu B h' : Nat) (x y : Int) (s0 : V.cell? ⟨B, 99 + h' + 0, none⟩ = some (.int .i64 x)) (s1 : V.cell? ⟨B, 99 + h' + 1, none⟩ = some (.int .i64 y)) (u2 : V.cell? ⟨Bu, 2, none⟩ = some (.int .i64 0)) (u3 : V.cell? ⟨Bu, 3, none⟩ = some (.int .i64 0)) (w2 : V.frozen? ⟨Bu, 2, none⟩ = false) (w3 : V.frozen? ⟨Bu, 3, none⟩ = false) :
    (Builtin.copy_ #[23, 23] 3 #[.slice (some ⟨Bu, 2, none⟩) 2 2, .slice (some ⟨B, 99 + h', none⟩) 2 (8 - h')]).run Try.prog V = .ok (goInt 2) ((V.setCell ⟨Bu, 2, none⟩ (.int .i64 x)).setCell ⟨Bu, 3, none⟩ (.int .i64 y)) := by
  refine run_copy_cells (P := Try.prog) V 23 23 3 3 Bu 2 2 2 ⟨B, 99 + h', none⟩ 2 (8 - h') [.int .i64 x, .int .i64 y] Try.underlying23 (by kernel_rfl) rfl ?_ ?_ ?_ (by simp [Value.oneCell'])
  · intro j v hj
    match j, hj with
    | 0, hj =>
      simp at hj
      subst hj
      exact s0
    | 1, hj =>
      simp at hj
      subst hj
      exact s1
  · intro j hj
    have : j = 0 ∨ j = 1 := by simp at hj; omega
    rcases this with rfl | rfl
    · show (V.cell? ⟨Bu, 2, none⟩).isSome = true
      rw [u2]
      rfl
    · show (V.cell? ⟨Bu, 3, none⟩).isSome = true
      rw [u3]
      rfl
  · intro j hj
    have : j = 0 ∨ j = 1 := by simp at hj; omega
    rcases this with rfl | rfl
    · exact w2
    · exact w3
/-- What an operation works on, in its block. -/
def UseAt (V V' : World) (Bu : Nat) (n sz a b : Int) : Prop := V.grownBy V' (some Bu) ∧ V'.cell? ⟨Bu, 0, none⟩ = some (.int .i64 n) ∧ V'.cell? ⟨Bu, 1, none⟩ = some (.int .i64 sz) ∧ V'.cell? ⟨Bu, 2, none⟩ = some (.int .i64 a) ∧ V'.cell? ⟨Bu, 3, none⟩ = some (.int .i64 b) ∧ V'.cell? ⟨Bu, 4, none⟩ = some (.pointer none) ∧ V'.frozen? ⟨Bu, 4, none⟩ = false
theorem use_one {V : World} {Bu : Nat} {n sz x : Int} (h : V.grownBy (V.setCell ⟨Bu, 2, none⟩ (.int .i64 x)).drew (some Bu)) (u0 : V.cell? ⟨Bu, 0, none⟩ = some (.int .i64 n)) (u1 : V.cell? ⟨Bu, 1, none⟩ = some (.int .i64 sz)) (u2 : V.cell? ⟨Bu, 2, none⟩ = some (.int .i64 0)) (u3 : V.cell? ⟨Bu, 3, none⟩ = some (.int .i64 0)) (u4 : V.cell? ⟨Bu, 4, none⟩ = some (.pointer none)) (w4 : V.frozen? ⟨Bu, 4, none⟩ = false) : UseAt V (V.setCell ⟨Bu, 2, none⟩ (.int .i64 x)).drew Bu n sz x 0 :=
  ⟨h, far_cell u0 (.inr (by omega)), far_cell u1 (.inr (by omega)), same_cell u2, far_cell u3 (.inr (by omega)), far_cell u4 (.inr (by omega)), fz_set w4⟩
theorem use_two {V : World} {Bu : Nat} {n sz x y : Int} (h : V.grownBy ((V.setCell ⟨Bu, 2, none⟩ (.int .i64 x)).setCell ⟨Bu, 3, none⟩ (.int .i64 y)).drew (some Bu)) (u0 : V.cell? ⟨Bu, 0, none⟩ = some (.int .i64 n)) (u1 : V.cell? ⟨Bu, 1, none⟩ = some (.int .i64 sz)) (u2 : V.cell? ⟨Bu, 2, none⟩ = some (.int .i64 0)) (u3 : V.cell? ⟨Bu, 3, none⟩ = some (.int .i64 0)) (u4 : V.cell? ⟨Bu, 4, none⟩ = some (.pointer none)) (w4 : V.frozen? ⟨Bu, 4, none⟩ = false) : UseAt V ((V.setCell ⟨Bu, 2, none⟩ (.int .i64 x)).setCell ⟨Bu, 3, none⟩ (.int .i64 y)).drew Bu n sz x y :=
  ⟨h, far_cell (far_cell u0 (.inr (by omega))) (.inr (by omega)), far_cell (far_cell u1 (.inr (by omega))) (.inr (by omega)), far_cell (same_cell u2) (.inr (by omega)), same_cell (far_cell u3 (.inr (by omega))), far_cell (far_cell u4 (.inr (by omega))) (.inr (by omega)), fz_set (fz_set w4)⟩
set_option maxRecDepth 100000 in
set_option maxHeartbeats 16000000 in
theorem step_any (B : Nat) (pa : Option Addr) (np pc : Nat) (sz : Int) (l : List Int) (st : Int) (k : Nat) (n m : Int) (hk1 : 1 ≤ k) (hk : k < 16) (l' t : List Int) (hl : l = l' ++ t) (hta : (kd k).ta = t.length) (w : World) (hst : 0 ≤ st ∧ st ≤ 10000) (hBw : B < w.heap.size) (hR : RuA B pa np pc sz l st w) (hen : Enters Try.prog (kd k).fn) (r : Int) (pt : Option Addr) (hpu : (kd k).pu = 1 → l'.length < 8) (hpt : (kd k).oP = false → pt = none) (hpl : (kd k).oP = true → ∃ (qa oa nn : Nat), pa = some ⟨qa, oa, none⟩ ∧ n = (nn : Int) ∧ nn < np ∧ w.cell? ⟨qa, oa + nn, none⟩ = some (.pointer pt) ∧ qa ≠ B)
    (hdo : ∀ W, w.grownBy W (some B) → Calls Try.prog (kd k).fn #[useV n sz (t.getD 0 0) (t.getD 1 0) pt] W (DoP r W)) :
    Calls Try.prog 53 #[.pointer (some ⟨B, 0, none⟩), opV ⟨k, n, m⟩] w (StP B pa np pc sz (if (kd k).pu = 0 then r else 0) (if (kd k).pu = 0 then l' else l' ++ [lim r]) (st + 1) w) := by
  have HDO := Lib.hid hdo
  have HEN := Lib.hid hen
  have HPU := Lib.hid hpu
  have HPT := Lib.hid hpt
  have HPL := Lib.hid hpl
  have PU1 := Lib.hid (kd_in k).2
  clear hdo hen hpu hpt hpl
  have hlen := hR.len
  rw [hl, List.length_append] at hlen
  obtain ⟨h', hh'⟩ : ∃ h', l'.length = h' := ⟨_, rfl⟩
  have ht2 : t.length ≤ 2 := by rw [← hta]; exact (kd_in k).1
  obtain ⟨ta, hta'⟩ : ∃ ta, t.length = ta := ⟨_, rfl⟩
  rw [hh', hta'] at hlen
  rw [hta'] at ht2 hta
  obtain ⟨e0, e1, e2⟩ := op3 w k n m
  unfold opV
  have hB1 : Below w.heap.size w (w.alloc (.cells #[.int .i64 k, .int .i64 n, .int .i64 m] 45)) := ba (Below.refl _ _) _
  have R1 := ru_below hR hB1
  obtain ⟨q0, q1, q2, q3, q4, q5⟩ := R1.kk k hk1 hk
  have c97 := R1.c97
  have c98 := R1.c98
  have f98 := R1.f98
  have c107 := R1.c107
  have f107 := R1.f107
  rw [hta] at q3
  have HT := Lib.hid hta
  have HL := Lib.hid hl
  have HTT := Lib.hid hta'
  have HK := Lib.hid (And.intro hk1 hk)
  have HR := Lib.hid hR
  have k2 : (0 : Int) ≤ (k : Int) := by omega
  have k3 : (k : Int) < 16 := by omega
  have hne : ¬ B = w.heap.size := by omega
  have hsf : ∀ (a : Addr) (f : Fn) (x y : Array Value) (md : Mode) (W : World), (store a (.func f x y) md).run Try.prog W = stored Try.prog W a (.func f x y) md := fun a f x y md W => run_store _ W a _ md rfl
  clear hR R1 hta hl hk hk1 hta'
  go_enter Try.func53, Try.ntmps53
  go_upto_region 2 with (fail)
  clear q0 q1 q2 q3 q4 q5 c97 c98 f98 c107 f107 e0 e1 e2 hB1
  have R2 : RuA B pa np pc sz l (st + 1) ((w.setCell ⟨B, 98, none⟩ (.int .i64 (st + 1))).alloc (.cells #[.int .i64 k, .int .i64 n, .int .i64 m] 45)) := ru_below (ru_st HR.out) (ba (Below.refl _ _) _)
  have G2 : w.grownBy ((w.setCell ⟨B, 98, none⟩ (.int .i64 (st + 1))).alloc (.cells #[.int .i64 k, .int .i64 n, .int .i64 m] 45)) (some B) := ga (gs (gr w B) _) _
  obtain ⟨e0, e1, e2⟩ := op3 (w.setCell ⟨B, 98, none⟩ (.int .i64 (st + 1))) k n m
  rw [World.size_setCell] at e0 e1 e2
  have hs2 : w.heap.size < ((w.setCell ⟨B, 98, none⟩ (.int .i64 (st + 1))).alloc (.cells #[.int .i64 k, .int .i64 n, .int .i64 m] 45)).heap.size := block_lt_of_cell e0
  generalize ((w.setCell ⟨B, 98, none⟩ (.int .i64 (st + 1))).alloc (.cells #[.int .i64 k, .int .i64 n, .int .i64 m] 45)) = V2 at *
  obtain ⟨q0, q1, q2, q3, q4, q5⟩ := R2.kk k HK.out.1 HK.out.2
  rw [HT.out] at q3
  have c97 := R2.c97
  have E0 : ∀ W, Below V2.heap.size V2 W → W.cell? ⟨w.heap.size, 0, none⟩ = some (.int .i64 k) := fun _ h => kc h e0
  have Q0 : ∀ W, Below V2.heap.size V2 W → W.cell? ⟨B, k * 6, none⟩ = some (.bool (kd k).uN) := fun _ h => kc h q0
  have Q1 : ∀ W, Below V2.heap.size V2 W → W.cell? ⟨B, k * 6 + 1, none⟩ = some (.bool (kd k).uM) := fun _ h => kc h q1
  have Q2 : ∀ W, Below V2.heap.size V2 W → W.cell? ⟨B, k * 6 + 2, none⟩ = some (.bool (kd k).oP) := fun _ h => kc h q2
  have Q3 : ∀ W, Below V2.heap.size V2 W → W.cell? ⟨B, k * 6 + 3, none⟩ = some (.int .i64 ta) := fun _ h => kc h q3
  have Q4 : ∀ W, Below V2.heap.size V2 W → W.cell? ⟨B, k * 6 + 4, none⟩ = some (.int .i64 (kd k).pu) := fun _ h => kc h q4
  have Q5 : ∀ W, Below V2.heap.size V2 W → W.cell? ⟨B, k * 6 + 5, none⟩ = some (.func (Fn.func (kd k).fn) #[] #[]) := fun _ h => kc h q5
  generalize (kd k).uN = uN at *
  generalize (kd k).uM = uM at *
  generalize (kd k).oP = oP at *
  generalize (kd k).pu = pu at *
  generalize (kd k).fn = fn at *
  clear q0 q1 q2 q3 q4 q5
  go_region_held3 (fun w' => Below V2.heap.size V2 w') (first
    | (with_reducible exact bd1 (Below.refl _ _))
    | (with_reducible exact bd1 (ba (Below.refl _ _) _))
    | (with_reducible exact ba (bd1 (Below.refl _ _)) _)
    | (with_reducible exact ba (by assumption) _)
    | (with_reducible assumption))
    (fail)
  have b3 : Below V2.heap.size V2 (V2.alloc (.cells #[.bool uN, .bool uM, .bool oP, .int .i64 ta, .int .i64 pu, .func (Fn.func fn) #[] #[]] 64)).drew := bd1 (ba (Below.refl _ _) _)
  have R3 := ru_below R2 b3
  have G3 := gt G2 b3
  have y1 := kc b3 e1
  have g2 : (V2.alloc (.cells #[.bool uN, .bool uM, .bool oP, .int .i64 ta, .int .i64 pu, .func (Fn.func fn) #[] #[]] 64)).drew.cell? ⟨V2.heap.size, 2, none⟩ = some (.bool oP) := by go_cell
  have g3 : (V2.alloc (.cells #[.bool uN, .bool uM, .bool oP, .int .i64 ta, .int .i64 pu, .func (Fn.func fn) #[] #[]] 64)).drew.cell? ⟨V2.heap.size, 3, none⟩ = some (.int .i64 ta) := by go_cell
  have g4 : (V2.alloc (.cells #[.bool uN, .bool uM, .bool oP, .int .i64 ta, .int .i64 pu, .func (Fn.func fn) #[] #[]] 64)).drew.cell? ⟨V2.heap.size, 4, none⟩ = some (.int .i64 pu) := by go_cell
  have g5 : (V2.alloc (.cells #[.bool uN, .bool uM, .bool oP, .int .i64 ta, .int .i64 pu, .func (Fn.func fn) #[] #[]] 64)).drew.cell? ⟨V2.heap.size, 5, none⟩ = some (.func (Fn.func fn) #[] #[]) := by go_cell
  clear E0 Q0 Q1 Q2 Q3 Q4 Q5 b3 e0 e1 e2 R2 G2 c97
  generalize (V2.alloc (.cells #[.bool uN, .bool uM, .bool oP, .int .i64 ta, .int .i64 pu, .func (Fn.func fn) #[] #[]] 64)).drew = V3 at *
  have hsk : B < V2.heap.size ∧ w.heap.size < V2.heap.size := by omega
  generalize V2.heap.size = Bk at *
  have c97 := R3.c97
  have Y1 : ∀ W, Below V3.heap.size V3 W → W.cell? ⟨w.heap.size, 1, none⟩ = some (.int .i64 n) := fun _ h => kc h y1
  have C97 : ∀ W, Below V3.heap.size V3 W → W.cell? ⟨B, 97, none⟩ = some (.int .i64 sz) := fun _ h => kc h c97
  go_upto_region 3 with (fail)
  go_region_held3 (fun w' => Below V3.heap.size V3 w') (first
    | (with_reducible exact bd1 (Below.refl _ _))
    | (with_reducible exact bd1 (ba (Below.refl _ _) _))
    | (with_reducible exact ba (bd1 (Below.refl _ _)) _)
    | (with_reducible exact ba (by assumption) _)
    | (with_reducible assumption))
    (fail)
  have b4 : Below V3.heap.size V3 (V3.alloc (.cells #[.int .i64 n, .int .i64 sz, .int .i64 0, .int .i64 0, .pointer none] 88)).drew := bd1 (ba (Below.refl _ _) _)
  have R4 := ru_below R3 b4
  have G4 := gt G3 b4
  have hu : V3.heap.size < (V3.alloc (.cells #[.int .i64 n, .int .i64 sz, .int .i64 0, .int .i64 0, .pointer none] 88)).drew.heap.size := by simp
  have hk3 : Bk < V3.heap.size := block_lt_of_cell g2
  replace y1 := kc b4 y1
  replace g2 := kc b4 g2
  replace g3 := kc b4 g3
  replace g4 := kc b4 g4
  replace g5 := kc b4 g5
  have u0 : (V3.alloc (.cells #[.int .i64 n, .int .i64 sz, .int .i64 0, .int .i64 0, .pointer none] 88)).drew.cell? ⟨V3.heap.size, 0, none⟩ = some (.int .i64 n) := by go_cell
  have u1 : (V3.alloc (.cells #[.int .i64 n, .int .i64 sz, .int .i64 0, .int .i64 0, .pointer none] 88)).drew.cell? ⟨V3.heap.size, 1, none⟩ = some (.int .i64 sz) := by go_cell
  have u2 : (V3.alloc (.cells #[.int .i64 n, .int .i64 sz, .int .i64 0, .int .i64 0, .pointer none] 88)).drew.cell? ⟨V3.heap.size, 2, none⟩ = some (.int .i64 0) := by go_cell
  have u3 : (V3.alloc (.cells #[.int .i64 n, .int .i64 sz, .int .i64 0, .int .i64 0, .pointer none] 88)).drew.cell? ⟨V3.heap.size, 3, none⟩ = some (.int .i64 0) := by go_cell
  have u4 : (V3.alloc (.cells #[.int .i64 n, .int .i64 sz, .int .i64 0, .int .i64 0, .pointer none] 88)).drew.cell? ⟨V3.heap.size, 4, none⟩ = some (.pointer none) := by go_cell
  have v2 : (V3.alloc (.cells #[.int .i64 n, .int .i64 sz, .int .i64 0, .int .i64 0, .pointer none] 88)).drew.frozen? ⟨V3.heap.size, 2, none⟩ = false := by go_cell
  have v3 : (V3.alloc (.cells #[.int .i64 n, .int .i64 sz, .int .i64 0, .int .i64 0, .pointer none] 88)).drew.frozen? ⟨V3.heap.size, 3, none⟩ = false := by go_cell
  have v4 : (V3.alloc (.cells #[.int .i64 n, .int .i64 sz, .int .i64 0, .int .i64 0, .pointer none] 88)).drew.frozen? ⟨V3.heap.size, 4, none⟩ = false := by go_cell
  clear Y1 C97 b4 R3 G3 c97
  generalize (V3.alloc (.cells #[.int .i64 n, .int .i64 sz, .int .i64 0, .int .i64 0, .pointer none] 88)).drew = V4 at *
  generalize V3.heap.size = Bu at *
  have n1 : ¬ B = Bk := by omega
  have n2 : ¬ B = Bu := by omega
  have c107 := R4.c107
  have f107 := R4.f107
  rw [HL.out, List.length_append, hh', HTT.out] at c107
  have c107' : V4.cell? ⟨B, 107, none⟩ = some (.int .i64 ((h' : Int) + (ta : Int))) := c107
  clear c107
  go_upto_region 4 with (fail)
  have hw : IntKind.i64.wrap (h' : Int) = (h' : Int) := (IntWalk.i64_left _).trans (IntWalk.wrap64_in _ ⟨by omega, by omega⟩)
  have hw2 : IntKind.i64.wrap ((h' : Int) + (ta : Int) - (ta : Int)) = (h' : Int) := (IntWalk.i64_left _).trans ((congrArg wrap64 (show (h' : Int) + (ta : Int) - (ta : Int) = (h' : Int) by omega)).trans (IntWalk.wrap64_in _ ⟨by omega, by omega⟩))
  have G3' : ∀ W, V4.grownBy W (some B) → W.cell? ⟨Bk, 3, none⟩ = some (.int .i64 ta) := fun _ h => gc h g3 (fun e => n1 e.symm)
  refine wp_region_held_drew (S := fun w' => V4.grownBy w' (some B)) (by kernel_rfl) (gd1 (gr _ _)) (fun hHeld => ?_)
  refine wpAnyH_take (i := 0) (v := ?_) rfl (by kernel_rfl) (by kernel_rfl) (by kernel_rfl) (fun _ _ _ h => h) (Or.inl ⟨by rfl, ?_⟩) (by assumption) ?_
  rotate_left
  · intro w hSw; (try dsimp only at hSw); go_simp; try with_reducible rfl
  try simp only [Act.put, List.getElem_toArray, List.getElem_cons_zero, List.setIfInBounds_toArray, List.set_cons_zero, List.set_cons_succ]
  refine wpAnyH_take (i := 1) (v := ?_) rfl (by kernel_rfl) (by kernel_rfl) (by kernel_rfl) (fun _ _ _ h => h) (Or.inl ⟨by rfl, ?_⟩) (by assumption) ?_
  rotate_left
  · intro w hSw; (try dsimp only at hSw); go_simp; try with_reducible rfl
  try simp only [Act.put, List.getElem_toArray, List.getElem_cons_zero, List.getElem_cons_succ, List.setIfInBounds_toArray, List.set_cons_zero, List.set_cons_succ]
  refine wpAnyH_take (i := 2) (v := ?_) rfl (by kernel_rfl) (by kernel_rfl) (by kernel_rfl) (fun _ _ _ h => h) (Or.inl ⟨by rfl, ?_⟩) (by assumption) ?_
  rotate_left
  · intro w hSw; (try dsimp only at hSw); go_simp; try with_reducible rfl
  try simp only [Act.put, List.getElem_toArray, List.getElem_cons_zero, List.getElem_cons_succ, List.setIfInBounds_toArray, List.set_cons_zero, List.set_cons_succ]
  refine wpAnyH_take (i := 4) (v := ?_) rfl (by kernel_rfl) (by kernel_rfl) (by kernel_rfl) (fun _ _ _ h => h) (Or.inl ⟨by rfl, ?_⟩) (by assumption) ?_
  rotate_left
  · intro w hSw; (try dsimp only at hSw); go_simp; try with_reducible rfl
  try simp only [Act.put, List.getElem_toArray, List.getElem_cons_zero, List.getElem_cons_succ, List.setIfInBounds_toArray, List.set_cons_zero, List.set_cons_succ]
  refine wpAnyH_take (i := 5) (v := ?_) rfl (by kernel_rfl) (by kernel_rfl) (by kernel_rfl) (fun _ _ _ h => h) (Or.inl ⟨by rfl, ?_⟩) (by assumption) ?_
  rotate_left
  · intro w hSw; (try dsimp only at hSw); go_simp; try with_reducible rfl
  try simp only [Act.put, List.getElem_toArray, List.getElem_cons_zero, List.getElem_cons_succ, List.setIfInBounds_toArray, List.set_cons_zero, List.set_cons_succ]
  refine wpAnyH_ready (rs := [3]) (by kernel_rfl) (by simp) ?_
  refine AllReadyH.cons rfl (fun K hK => ?_) AllReadyH.nil
  go_simp
  try dsimp only
  refine hK.out _ _ (hHeld) (fun hHeld => ?_)
  clear hK K
  try simp only [Act.put, List.getElem_toArray, List.getElem_cons_zero, List.getElem_cons_succ, List.setIfInBounds_toArray, List.set_cons_zero, List.set_cons_succ]
  refine wpAnyH_take (i := 6) (v := ?_) rfl (by kernel_rfl) (by kernel_rfl) (by kernel_rfl) (fun _ _ _ h => h) (Or.inl ⟨by rfl, ?_⟩) (by assumption) ?_
  rotate_left
  · intro w hSw; (try dsimp only at hSw); go_simp; try with_reducible rfl
  try simp only [Act.put, List.getElem_toArray, List.getElem_cons_zero, List.getElem_cons_succ, List.setIfInBounds_toArray, List.set_cons_zero, List.set_cons_succ]
  refine wpAnyH_take (i := 7) (v := ?_) rfl (by kernel_rfl) (by kernel_rfl) (by kernel_rfl) (fun _ _ _ h => h) (Or.inl ⟨by rfl, ?_⟩) (by assumption) ?_
  rotate_left
  · intro w hSw; (try dsimp only at hSw); go_simp; try with_reducible rfl
  try simp only [Act.put, List.getElem_toArray, List.getElem_cons_zero, List.getElem_cons_succ, List.setIfInBounds_toArray, List.set_cons_zero, List.set_cons_succ]
  refine wpAnyH_take (i := 8) (v := ?_) rfl (by kernel_rfl) (by kernel_rfl) (by kernel_rfl) (fun _ _ _ h => h) (Or.inl ⟨by rfl, ?_⟩) (by assumption) ?_
  rotate_left
  · intro w hSw; (try dsimp only at hSw); go_simp; try with_reducible rfl
  try simp only [Act.put, List.getElem_toArray, List.getElem_cons_zero, List.getElem_cons_succ, List.setIfInBounds_toArray, List.set_cons_zero, List.set_cons_succ]
  refine wpAnyH_ready (rs := [9]) (by kernel_rfl) (by simp) ?_
  refine AllReadyH.cons rfl (fun K hK => ?_) AllReadyH.nil
  go_simp
  try dsimp only
  refine hK.out _ _ (gs hHeld _) (fun hHeld => ?_)
  clear hK K
  try simp only [Act.put, List.getElem_toArray, List.getElem_cons_zero, List.getElem_cons_succ, List.setIfInBounds_toArray, List.set_cons_zero, List.set_cons_succ]
  refine wpAnyH_done (by kernel_rfl) ?_ _
  clear G3' c107' f107
  have R5 : RuA B pa np pc sz l' (st + 1) (V4.setCell ⟨B, 107, none⟩ (.int .i64 (h' : Int))).drew := by
    have h9 := ru_pop (by rw [HL.out] at R4; exact R4)
    rw [hh'] at h9
    exact ru_below h9 (bd1 (Below.refl _ _))
  have ST : Hid (∀ i x, t[i]? = some x → (V4.setCell ⟨B, 107, none⟩ (.int .i64 (h' : Int))).drew.cell? ⟨B, 99 + h' + i, none⟩ = some (.int .i64 x)) := Lib.hid (fun i x hx => by
    have hlt : i < t.length := (List.getElem?_eq_some_iff.1 hx).1
    rw [HTT.out] at hlt
    obtain ⟨v, a, _, c⟩ := R4.stk (h' + i) (by omega)
    have e : v = x := c x (by rw [HL.out, List.getElem?_append_right (by omega), hh', Nat.add_sub_cancel_left]; exact hx)
    subst e
    rw [Nat.add_assoc]
    exact far_cell a (.inr (by omega)))
  have G45 : V4.grownBy (V4.setCell ⟨B, 107, none⟩ (.int .i64 (h' : Int))).drew (some B) := gd1 (gs (gr _ _) _)
  have G5 : w.grownBy (V4.setCell ⟨B, 107, none⟩ (.int .i64 (h' : Int))).drew (some B) := gd1 (gs G4 _)
  have bu : Bu ≠ B := fun e => n2 e.symm
  have bk : Bk ≠ B := fun e => n1 e.symm
  have x1 := gc G45 y1 (fun e => hne e.symm)
  replace g2 := gc G45 g2 bk
  replace g3 := gc G45 g3 bk
  replace g4 := gc G45 g4 bk
  replace g5 := gc G45 g5 bk
  replace u0 := gc G45 u0 bu
  replace u1 := gc G45 u1 bu
  replace u2 := gc G45 u2 bu
  replace u3 := gc G45 u3 bu
  replace u4 := gc G45 u4 bu
  have w2 : (V4.setCell ⟨B, 107, none⟩ (.int .i64 (h' : Int))).drew.frozen? ⟨Bu, 2, none⟩ = false := by go_cell
  have w3 : (V4.setCell ⟨B, 107, none⟩ (.int .i64 (h' : Int))).drew.frozen? ⟨Bu, 3, none⟩ = false := by go_cell
  have w4 : (V4.setCell ⟨B, 107, none⟩ (.int .i64 (h' : Int))).drew.frozen? ⟨Bu, 4, none⟩ = false := by go_cell
  have hu5 : Bu < (V4.setCell ⟨B, 107, none⟩ (.int .i64 (h' : Int))).drew.heap.size := block_lt_of_cell u0
  clear v2 v3 v4 y1 R4 G4 G45 hu
  generalize (V4.setCell ⟨B, 107, none⟩ (.int .i64 (h' : Int))).drew = V5 at *
  have hb0 : (0 : Int) ≤ (h' : Int) := by omega
  have c107 := R5.c107
  rw [hh'] at c107
  have n3 : ¬ Bk = Bu := by omega
  go_upto_region 5 with (fail)
  go_cut [55] (fun s55 V' => UseAt V5 V' Bu n sz (t.getD 0 0) (t.getD 1 0))
  case first =>
    clear x1 g2 g4 g5 R5 G5
    have C107 : ∀ W, V5.grownBy W (some Bu) → W.cell? ⟨B, 107, none⟩ = some (.int .i64 (h' : Int)) := fun _ h => gc h c107 n2
    have K3 : ∀ W, V5.grownBy W (some Bu) → W.cell? ⟨Bk, 3, none⟩ = some (.int .i64 ta) := fun _ h => gc h g3 n3
    rcases t with _ | ⟨x, _ | ⟨y, _ | ⟨z, r⟩⟩⟩
    · obtain rfl : ta = 0 := HTT.out.symm
      have hcp : ∀ (a : Addr) (c : Nat), (Builtin.copy_ #[23, 23] 3 #[.slice (some ⟨Bu, 2, none⟩) 2 2, .slice (some a) 0 c]).run Try.prog V5.drew = .ok (goInt 0) V5.drew := fun a c => run_copy_none (P := Try.prog) V5.drew 23 23 3 3 _ _ 2 2 0 c Try.underlying23 (by kernel_rfl) rfl
      have hs8 : (h' : Int) ≤ 8 := by omega
      have hwa : IntKind.i64.wrap ((h' : Int) + ((0 : Nat) : Int)) = (h' : Int) := (IntWalk.i64_left _).trans ((congrArg wrap64 (show (h' : Int) + ((0 : Nat) : Int) = (h' : Int) by omega)).trans (IntWalk.wrap64_in _ ⟨by omega, by omega⟩))
      have hwb : IntKind.i64.wrap (h' : Int) = (h' : Int) := (IntWalk.i64_left _).trans (IntWalk.wrap64_in _ ⟨by omega, by omega⟩)
      refine wp_region_held_drew (S := fun w' => V5.grownBy w' (some Bu)) (by kernel_rfl) (gd1 (gr _ _)) (fun hHeld => ?_)
      refine wpAnyH_take (i := 0) (v := ?_) rfl (by kernel_rfl) (by kernel_rfl) (by kernel_rfl) (fun _ _ _ h => h) (Or.inl ⟨by rfl, ?_⟩) (by assumption) ?_
      rotate_left
      · intro w hSw; (try dsimp only at hSw); go_simp; try with_reducible rfl
      try simp only [Act.put, List.getElem_toArray, List.getElem_cons_zero, List.setIfInBounds_toArray, List.set_cons_zero, List.set_cons_succ]
      refine wpAnyH_take (i := 1) (v := ?_) rfl (by kernel_rfl) (by kernel_rfl) (by kernel_rfl) (fun _ _ _ h => h) (Or.inl ⟨by rfl, ?_⟩) (by assumption) ?_
      rotate_left
      · intro w hSw; (try dsimp only at hSw); go_simp; try with_reducible rfl
      try simp only [Act.put, List.getElem_toArray, List.getElem_cons_zero, List.getElem_cons_succ, List.setIfInBounds_toArray, List.set_cons_zero, List.set_cons_succ]
      refine wpAnyH_take (i := 2) (v := ?_) rfl (by kernel_rfl) (by kernel_rfl) (by kernel_rfl) (fun _ _ _ h => h) (Or.inl ⟨by rfl, ?_⟩) (by assumption) ?_
      rotate_left
      · intro w hSw; (try dsimp only at hSw); go_simp; try with_reducible rfl
      try simp only [Act.put, List.getElem_toArray, List.getElem_cons_zero, List.getElem_cons_succ, List.setIfInBounds_toArray, List.set_cons_zero, List.set_cons_succ]
      refine wpAnyH_take (i := 3) (v := ?_) rfl (by kernel_rfl) (by kernel_rfl) (by kernel_rfl) (fun _ _ _ h => h) (Or.inl ⟨by rfl, ?_⟩) (by assumption) ?_
      rotate_left
      · intro w hSw; (try dsimp only at hSw); go_simp; try with_reducible rfl
      try simp only [Act.put, List.getElem_toArray, List.getElem_cons_zero, List.getElem_cons_succ, List.setIfInBounds_toArray, List.set_cons_zero, List.set_cons_succ]
      refine wpAnyH_take (i := 4) (v := ?_) rfl (by kernel_rfl) (by kernel_rfl) (by kernel_rfl) (fun _ _ _ h => h) (Or.inl ⟨by rfl, ?_⟩) (by assumption) ?_
      rotate_left
      · intro w hSw; (try dsimp only at hSw); go_simp; try with_reducible rfl
      try simp only [Act.put, List.getElem_toArray, List.getElem_cons_zero, List.getElem_cons_succ, List.setIfInBounds_toArray, List.set_cons_zero, List.set_cons_succ]
      refine wpAnyH_take (i := 5) (v := ?_) rfl (by kernel_rfl) (by kernel_rfl) (by kernel_rfl) (fun _ _ _ h => h) (Or.inl ⟨by rfl, ?_⟩) (by assumption) ?_
      rotate_left
      · intro w hSw; (try dsimp only at hSw); go_simp; try with_reducible rfl
      try simp only [Act.put, List.getElem_toArray, List.getElem_cons_zero, List.getElem_cons_succ, List.setIfInBounds_toArray, List.set_cons_zero, List.set_cons_succ]
      refine wpAnyH_take (i := 6) (v := ?_) rfl (by kernel_rfl) (by kernel_rfl) (by kernel_rfl) (fun _ _ _ h => h) (Or.inl ⟨by rfl, ?_⟩) (by assumption) ?_
      rotate_left
      · intro w hSw; (try dsimp only at hSw); go_simp; try with_reducible rfl
      try simp only [Act.put, List.getElem_toArray, List.getElem_cons_zero, List.getElem_cons_succ, List.setIfInBounds_toArray, List.set_cons_zero, List.set_cons_succ]
      refine wpAnyH_take (i := 7) (v := ?_) rfl (by kernel_rfl) (by kernel_rfl) (by kernel_rfl) (fun _ _ _ h => h) (Or.inl ⟨by rfl, ?_⟩) (by assumption) ?_
      rotate_left
      · intro w hSw; (try dsimp only at hSw); go_simp; try with_reducible rfl
      try simp only [Act.put, List.getElem_toArray, List.getElem_cons_zero, List.getElem_cons_succ, List.setIfInBounds_toArray, List.set_cons_zero, List.set_cons_succ]
      refine wpAnyH_take (i := 8) (v := ?_) rfl (by kernel_rfl) (by kernel_rfl) (by kernel_rfl) (fun _ _ _ h => h) (Or.inl ⟨by rfl, ?_⟩) (by assumption) ?_
      rotate_left
      · intro w hSw; (try dsimp only at hSw); go_simp; try with_reducible rfl
      try simp only [Act.put, List.getElem_toArray, List.getElem_cons_zero, List.getElem_cons_succ, List.setIfInBounds_toArray, List.set_cons_zero, List.set_cons_succ]
      refine wpAnyH_take (i := 9) (v := ?_) rfl (by kernel_rfl) (by kernel_rfl) (by kernel_rfl) (fun _ _ _ h => h) (Or.inl ⟨by rfl, ?_⟩) (by assumption) ?_
      rotate_left
      · intro w hSw; (try dsimp only at hSw); go_simp; try with_reducible rfl
      try simp only [Act.put, List.getElem_toArray, List.getElem_cons_zero, List.getElem_cons_succ, List.setIfInBounds_toArray, List.set_cons_zero, List.set_cons_succ]
      refine wpAnyH_take (i := 10) (v := ?_) rfl (by kernel_rfl) (by kernel_rfl) (by kernel_rfl) (fun _ _ _ h => h) (Or.inl ⟨by rfl, ?_⟩) (by assumption) ?_
      rotate_left
      · intro w hSw; (try dsimp only at hSw); go_simp; try with_reducible rfl
      try simp only [Act.put, List.getElem_toArray, List.getElem_cons_zero, List.getElem_cons_succ, List.setIfInBounds_toArray, List.set_cons_zero, List.set_cons_succ]
      refine wpAnyH_take (i := 11) (v := ?_) rfl (by kernel_rfl) (by kernel_rfl) (by kernel_rfl) (fun _ _ _ h => h) (Or.inl ⟨by rfl, ?_⟩) (by assumption) ?_
      rotate_left
      · intro w hSw; (try dsimp only at hSw); go_simp; try with_reducible rfl
      try simp only [Act.put, List.getElem_toArray, List.getElem_cons_zero, List.getElem_cons_succ, List.setIfInBounds_toArray, List.set_cons_zero, List.set_cons_succ]
      refine wpAnyH_take (i := 12) (v := ?_) rfl (by kernel_rfl) (by kernel_rfl) (by kernel_rfl) (fun _ _ _ h => h) (Or.inl ⟨by rfl, ?_⟩) (by assumption) ?_
      rotate_left
      · intro w hSw; (try dsimp only at hSw); go_simp; try with_reducible rfl
      try simp only [Act.put, List.getElem_toArray, List.getElem_cons_zero, List.getElem_cons_succ, List.setIfInBounds_toArray, List.set_cons_zero, List.set_cons_succ]
      refine wpAnyH_take (i := 13) (v := ?_) rfl (by kernel_rfl) (by kernel_rfl) (by kernel_rfl) (fun _ _ _ h => h) (Or.inl ⟨by rfl, ?_⟩) (by assumption) ?_
      rotate_left
      · intro w hSw; (try dsimp only at hSw); go_simp; try with_reducible rfl
      try simp only [Act.put, List.getElem_toArray, List.getElem_cons_zero, List.getElem_cons_succ, List.setIfInBounds_toArray, List.set_cons_zero, List.set_cons_succ]
      refine wpAnyH_take (i := 14) (v := ?_) rfl (by kernel_rfl) (by kernel_rfl) (by kernel_rfl) (fun _ _ _ h => h) (Or.inl ⟨by rfl, ?_⟩) (by assumption) ?_
      rotate_left
      · intro w hSw; (try dsimp only at hSw); go_simp; try with_reducible rfl
      try simp only [Act.put, List.getElem_toArray, List.getElem_cons_zero, List.getElem_cons_succ, List.setIfInBounds_toArray, List.set_cons_zero, List.set_cons_succ]
      refine wpAnyH_take (i := 15) (v := ?_) rfl (by kernel_rfl) (by kernel_rfl) (by kernel_rfl) (fun _ _ _ h => h) (Or.inl ⟨by rfl, ?_⟩) (by assumption) ?_
      rotate_left
      · intro w hSw; (try dsimp only at hSw); go_simp; try with_reducible rfl
      try simp only [Act.put, List.getElem_toArray, List.getElem_cons_zero, List.getElem_cons_succ, List.setIfInBounds_toArray, List.set_cons_zero, List.set_cons_succ]
      refine wpAnyH_take (i := 16) (v := ?_) rfl (by kernel_rfl) (by kernel_rfl) (by kernel_rfl) (fun _ _ _ h => h) (Or.inl ⟨by rfl, ?_⟩) (by assumption) ?_
      rotate_left
      · intro w hSw; (try dsimp only at hSw); go_simp; try with_reducible rfl
      try simp only [Act.put, List.getElem_toArray, List.getElem_cons_zero, List.getElem_cons_succ, List.setIfInBounds_toArray, List.set_cons_zero, List.set_cons_succ]
      refine wpAnyH_ready (rs := [17]) (by kernel_rfl) (by simp) ?_
      refine AllReadyH.cons rfl (fun K hK => ?_) AllReadyH.nil
      go_simp
      try dsimp only
      refine hK.out _ _ (hHeld) (fun hHeld => ?_)
      clear hK K
      try simp only [Act.put, List.getElem_toArray, List.getElem_cons_zero, List.getElem_cons_succ, List.setIfInBounds_toArray, List.set_cons_zero, List.set_cons_succ]
      refine wpAnyH_done (by kernel_rfl) ?_ _
      go_step
      (try go_step)
      go_meet
      exact ⟨hHeld, u0, u1, u2, u3, u4, w4⟩
    · obtain rfl : ta = 1 := HTT.out.symm
      have h8 : ¬ 8 = h' := by omega
      have hs8 : (h' : Int) + 1 ≤ 8 := by omega
      have hb1 : (h' : Int) ≤ (h' : Int) + 1 := by omega
      have s0 := ST.out 0 x rfl
      have hw3 : IntKind.i64.wrap ((h' : Int) + 1) = (h' : Int) + 1 := (IntWalk.i64_left _).trans (IntWalk.wrap64_in _ ⟨by omega, by omega⟩)
      have hcp := copy_one V5.drew Bu B h' x s0 u2 w2
      refine wp_region_held_drew (S := fun w' => V5.grownBy w' (some Bu)) (by kernel_rfl) (gd1 (gr _ _)) (fun hHeld => ?_)
      refine wpAnyH_take (i := 0) (v := ?_) rfl (by kernel_rfl) (by kernel_rfl) (by kernel_rfl) (fun _ _ _ h => h) (Or.inl ⟨by rfl, ?_⟩) (by assumption) ?_
      rotate_left
      · intro w hSw; (try dsimp only at hSw); go_simp; try with_reducible rfl
      try simp only [Act.put, List.getElem_toArray, List.getElem_cons_zero, List.setIfInBounds_toArray, List.set_cons_zero, List.set_cons_succ]
      refine wpAnyH_take (i := 1) (v := ?_) rfl (by kernel_rfl) (by kernel_rfl) (by kernel_rfl) (fun _ _ _ h => h) (Or.inl ⟨by rfl, ?_⟩) (by assumption) ?_
      rotate_left
      · intro w hSw; (try dsimp only at hSw); go_simp; try with_reducible rfl
      try simp only [Act.put, List.getElem_toArray, List.getElem_cons_zero, List.getElem_cons_succ, List.setIfInBounds_toArray, List.set_cons_zero, List.set_cons_succ]
      refine wpAnyH_take (i := 2) (v := ?_) rfl (by kernel_rfl) (by kernel_rfl) (by kernel_rfl) (fun _ _ _ h => h) (Or.inl ⟨by rfl, ?_⟩) (by assumption) ?_
      rotate_left
      · intro w hSw; (try dsimp only at hSw); go_simp; try with_reducible rfl
      try simp only [Act.put, List.getElem_toArray, List.getElem_cons_zero, List.getElem_cons_succ, List.setIfInBounds_toArray, List.set_cons_zero, List.set_cons_succ]
      refine wpAnyH_take (i := 3) (v := ?_) rfl (by kernel_rfl) (by kernel_rfl) (by kernel_rfl) (fun _ _ _ h => h) (Or.inl ⟨by rfl, ?_⟩) (by assumption) ?_
      rotate_left
      · intro w hSw; (try dsimp only at hSw); go_simp; try with_reducible rfl
      try simp only [Act.put, List.getElem_toArray, List.getElem_cons_zero, List.getElem_cons_succ, List.setIfInBounds_toArray, List.set_cons_zero, List.set_cons_succ]
      refine wpAnyH_take (i := 4) (v := ?_) rfl (by kernel_rfl) (by kernel_rfl) (by kernel_rfl) (fun _ _ _ h => h) (Or.inl ⟨by rfl, ?_⟩) (by assumption) ?_
      rotate_left
      · intro w hSw; (try dsimp only at hSw); go_simp; try with_reducible rfl
      try simp only [Act.put, List.getElem_toArray, List.getElem_cons_zero, List.getElem_cons_succ, List.setIfInBounds_toArray, List.set_cons_zero, List.set_cons_succ]
      refine wpAnyH_take (i := 5) (v := ?_) rfl (by kernel_rfl) (by kernel_rfl) (by kernel_rfl) (fun _ _ _ h => h) (Or.inl ⟨by rfl, ?_⟩) (by assumption) ?_
      rotate_left
      · intro w hSw; (try dsimp only at hSw); go_simp; try with_reducible rfl
      try simp only [Act.put, List.getElem_toArray, List.getElem_cons_zero, List.getElem_cons_succ, List.setIfInBounds_toArray, List.set_cons_zero, List.set_cons_succ]
      refine wpAnyH_take (i := 6) (v := ?_) rfl (by kernel_rfl) (by kernel_rfl) (by kernel_rfl) (fun _ _ _ h => h) (Or.inl ⟨by rfl, ?_⟩) (by assumption) ?_
      rotate_left
      · intro w hSw; (try dsimp only at hSw); go_simp; try with_reducible rfl
      try simp only [Act.put, List.getElem_toArray, List.getElem_cons_zero, List.getElem_cons_succ, List.setIfInBounds_toArray, List.set_cons_zero, List.set_cons_succ]
      refine wpAnyH_take (i := 7) (v := ?_) rfl (by kernel_rfl) (by kernel_rfl) (by kernel_rfl) (fun _ _ _ h => h) (Or.inl ⟨by rfl, ?_⟩) (by assumption) ?_
      rotate_left
      · intro w hSw; (try dsimp only at hSw); go_simp; try with_reducible rfl
      try simp only [Act.put, List.getElem_toArray, List.getElem_cons_zero, List.getElem_cons_succ, List.setIfInBounds_toArray, List.set_cons_zero, List.set_cons_succ]
      refine wpAnyH_take (i := 8) (v := ?_) rfl (by kernel_rfl) (by kernel_rfl) (by kernel_rfl) (fun _ _ _ h => h) (Or.inl ⟨by rfl, ?_⟩) (by assumption) ?_
      rotate_left
      · intro w hSw; (try dsimp only at hSw); go_simp; try with_reducible rfl
      try simp only [Act.put, List.getElem_toArray, List.getElem_cons_zero, List.getElem_cons_succ, List.setIfInBounds_toArray, List.set_cons_zero, List.set_cons_succ]
      refine wpAnyH_take (i := 9) (v := ?_) rfl (by kernel_rfl) (by kernel_rfl) (by kernel_rfl) (fun _ _ _ h => h) (Or.inl ⟨by rfl, ?_⟩) (by assumption) ?_
      rotate_left
      · intro w hSw; (try dsimp only at hSw); go_simp; try with_reducible rfl
      try simp only [Act.put, List.getElem_toArray, List.getElem_cons_zero, List.getElem_cons_succ, List.setIfInBounds_toArray, List.set_cons_zero, List.set_cons_succ]
      refine wpAnyH_take (i := 10) (v := ?_) rfl (by kernel_rfl) (by kernel_rfl) (by kernel_rfl) (fun _ _ _ h => h) (Or.inl ⟨by rfl, ?_⟩) (by assumption) ?_
      rotate_left
      · intro w hSw; (try dsimp only at hSw); go_simp; try with_reducible rfl
      try simp only [Act.put, List.getElem_toArray, List.getElem_cons_zero, List.getElem_cons_succ, List.setIfInBounds_toArray, List.set_cons_zero, List.set_cons_succ]
      refine wpAnyH_take (i := 11) (v := ?_) rfl (by kernel_rfl) (by kernel_rfl) (by kernel_rfl) (fun _ _ _ h => h) (Or.inl ⟨by rfl, ?_⟩) (by assumption) ?_
      rotate_left
      · intro w hSw; (try dsimp only at hSw); go_simp; try with_reducible rfl
      try simp only [Act.put, List.getElem_toArray, List.getElem_cons_zero, List.getElem_cons_succ, List.setIfInBounds_toArray, List.set_cons_zero, List.set_cons_succ]
      refine wpAnyH_take (i := 12) (v := ?_) rfl (by kernel_rfl) (by kernel_rfl) (by kernel_rfl) (fun _ _ _ h => h) (Or.inl ⟨by rfl, ?_⟩) (by assumption) ?_
      rotate_left
      · intro w hSw; (try dsimp only at hSw); go_simp; try with_reducible rfl
      try simp only [Act.put, List.getElem_toArray, List.getElem_cons_zero, List.getElem_cons_succ, List.setIfInBounds_toArray, List.set_cons_zero, List.set_cons_succ]
      refine wpAnyH_take (i := 13) (v := ?_) rfl (by kernel_rfl) (by kernel_rfl) (by kernel_rfl) (fun _ _ _ h => h) (Or.inl ⟨by rfl, ?_⟩) (by assumption) ?_
      rotate_left
      · intro w hSw; (try dsimp only at hSw); go_simp; try with_reducible rfl
      try simp only [Act.put, List.getElem_toArray, List.getElem_cons_zero, List.getElem_cons_succ, List.setIfInBounds_toArray, List.set_cons_zero, List.set_cons_succ]
      refine wpAnyH_take (i := 14) (v := ?_) rfl (by kernel_rfl) (by kernel_rfl) (by kernel_rfl) (fun _ _ _ h => h) (Or.inl ⟨by rfl, ?_⟩) (by assumption) ?_
      rotate_left
      · intro w hSw; (try dsimp only at hSw); go_simp; try with_reducible rfl
      try simp only [Act.put, List.getElem_toArray, List.getElem_cons_zero, List.getElem_cons_succ, List.setIfInBounds_toArray, List.set_cons_zero, List.set_cons_succ]
      refine wpAnyH_take (i := 15) (v := ?_) rfl (by kernel_rfl) (by kernel_rfl) (by kernel_rfl) (fun _ _ _ h => h) (Or.inl ⟨by rfl, ?_⟩) (by assumption) ?_
      rotate_left
      · intro w hSw; (try dsimp only at hSw); go_simp; try with_reducible rfl
      try simp only [Act.put, List.getElem_toArray, List.getElem_cons_zero, List.getElem_cons_succ, List.setIfInBounds_toArray, List.set_cons_zero, List.set_cons_succ]
      refine wpAnyH_take (i := 16) (v := ?_) rfl (by kernel_rfl) (by kernel_rfl) (by kernel_rfl) (fun _ _ _ h => h) (Or.inl ⟨by rfl, ?_⟩) (by assumption) ?_
      rotate_left
      · intro w hSw; (try dsimp only at hSw); go_simp; try with_reducible rfl
      try simp only [Act.put, List.getElem_toArray, List.getElem_cons_zero, List.getElem_cons_succ, List.setIfInBounds_toArray, List.set_cons_zero, List.set_cons_succ]
      refine wpAnyH_ready (rs := [17]) (by kernel_rfl) (by simp) ?_
      refine AllReadyH.cons rfl (fun K hK => ?_) AllReadyH.nil
      go_simp
      try dsimp only
      refine hK.out _ _ (gs hHeld _) (fun hHeld => ?_)
      clear hK K
      try simp only [Act.put, List.getElem_toArray, List.getElem_cons_zero, List.getElem_cons_succ, List.setIfInBounds_toArray, List.set_cons_zero, List.set_cons_succ]
      refine wpAnyH_done (by kernel_rfl) ?_ _
      go_step
      (try go_step)
      go_meet
      exact use_one hHeld u0 u1 u2 u3 u4 w4
    · obtain rfl : ta = 2 := HTT.out.symm
      have h8 : ¬ 8 = h' := by omega
      have hs8 : (h' : Int) + 2 ≤ 8 := by omega
      have hb1 : (h' : Int) ≤ (h' : Int) + 2 := by omega
      have s0 := ST.out 0 x rfl
      have s1 := ST.out 1 y rfl
      have hw3 : IntKind.i64.wrap ((h' : Int) + 2) = (h' : Int) + 2 := (IntWalk.i64_left _).trans (IntWalk.wrap64_in _ ⟨by omega, by omega⟩)
      have hln : ((h' : Int) + 2).toNat - h' = 2 := by omega
      have hcp := copy_two V5.drew Bu B h' x y s0 s1 u2 u3 w2 w3
      refine wp_region_held_drew (S := fun w' => V5.grownBy w' (some Bu)) (by kernel_rfl) (gd1 (gr _ _)) (fun hHeld => ?_)
      refine wpAnyH_take (i := 0) (v := ?_) rfl (by kernel_rfl) (by kernel_rfl) (by kernel_rfl) (fun _ _ _ h => h) (Or.inl ⟨by rfl, ?_⟩) (by assumption) ?_
      rotate_left
      · intro w hSw; (try dsimp only at hSw); go_simp; try with_reducible rfl
      try simp only [Act.put, List.getElem_toArray, List.getElem_cons_zero, List.setIfInBounds_toArray, List.set_cons_zero, List.set_cons_succ]
      refine wpAnyH_take (i := 1) (v := ?_) rfl (by kernel_rfl) (by kernel_rfl) (by kernel_rfl) (fun _ _ _ h => h) (Or.inl ⟨by rfl, ?_⟩) (by assumption) ?_
      rotate_left
      · intro w hSw; (try dsimp only at hSw); go_simp; try with_reducible rfl
      try simp only [Act.put, List.getElem_toArray, List.getElem_cons_zero, List.getElem_cons_succ, List.setIfInBounds_toArray, List.set_cons_zero, List.set_cons_succ]
      refine wpAnyH_take (i := 2) (v := ?_) rfl (by kernel_rfl) (by kernel_rfl) (by kernel_rfl) (fun _ _ _ h => h) (Or.inl ⟨by rfl, ?_⟩) (by assumption) ?_
      rotate_left
      · intro w hSw; (try dsimp only at hSw); go_simp; try with_reducible rfl
      try simp only [Act.put, List.getElem_toArray, List.getElem_cons_zero, List.getElem_cons_succ, List.setIfInBounds_toArray, List.set_cons_zero, List.set_cons_succ]
      refine wpAnyH_take (i := 3) (v := ?_) rfl (by kernel_rfl) (by kernel_rfl) (by kernel_rfl) (fun _ _ _ h => h) (Or.inl ⟨by rfl, ?_⟩) (by assumption) ?_
      rotate_left
      · intro w hSw; (try dsimp only at hSw); go_simp; try with_reducible rfl
      try simp only [Act.put, List.getElem_toArray, List.getElem_cons_zero, List.getElem_cons_succ, List.setIfInBounds_toArray, List.set_cons_zero, List.set_cons_succ]
      refine wpAnyH_take (i := 4) (v := ?_) rfl (by kernel_rfl) (by kernel_rfl) (by kernel_rfl) (fun _ _ _ h => h) (Or.inl ⟨by rfl, ?_⟩) (by assumption) ?_
      rotate_left
      · intro w hSw; (try dsimp only at hSw); go_simp; try with_reducible rfl
      try simp only [Act.put, List.getElem_toArray, List.getElem_cons_zero, List.getElem_cons_succ, List.setIfInBounds_toArray, List.set_cons_zero, List.set_cons_succ]
      refine wpAnyH_take (i := 5) (v := ?_) rfl (by kernel_rfl) (by kernel_rfl) (by kernel_rfl) (fun _ _ _ h => h) (Or.inl ⟨by rfl, ?_⟩) (by assumption) ?_
      rotate_left
      · intro w hSw; (try dsimp only at hSw); go_simp; try with_reducible rfl
      try simp only [Act.put, List.getElem_toArray, List.getElem_cons_zero, List.getElem_cons_succ, List.setIfInBounds_toArray, List.set_cons_zero, List.set_cons_succ]
      refine wpAnyH_take (i := 6) (v := ?_) rfl (by kernel_rfl) (by kernel_rfl) (by kernel_rfl) (fun _ _ _ h => h) (Or.inl ⟨by rfl, ?_⟩) (by assumption) ?_
      rotate_left
      · intro w hSw; (try dsimp only at hSw); go_simp; try with_reducible rfl
      try simp only [Act.put, List.getElem_toArray, List.getElem_cons_zero, List.getElem_cons_succ, List.setIfInBounds_toArray, List.set_cons_zero, List.set_cons_succ]
      refine wpAnyH_take (i := 7) (v := ?_) rfl (by kernel_rfl) (by kernel_rfl) (by kernel_rfl) (fun _ _ _ h => h) (Or.inl ⟨by rfl, ?_⟩) (by assumption) ?_
      rotate_left
      · intro w hSw; (try dsimp only at hSw); go_simp; try with_reducible rfl
      try simp only [Act.put, List.getElem_toArray, List.getElem_cons_zero, List.getElem_cons_succ, List.setIfInBounds_toArray, List.set_cons_zero, List.set_cons_succ]
      refine wpAnyH_take (i := 8) (v := ?_) rfl (by kernel_rfl) (by kernel_rfl) (by kernel_rfl) (fun _ _ _ h => h) (Or.inl ⟨by rfl, ?_⟩) (by assumption) ?_
      rotate_left
      · intro w hSw; (try dsimp only at hSw); go_simp; try with_reducible rfl
      try simp only [Act.put, List.getElem_toArray, List.getElem_cons_zero, List.getElem_cons_succ, List.setIfInBounds_toArray, List.set_cons_zero, List.set_cons_succ]
      refine wpAnyH_take (i := 9) (v := ?_) rfl (by kernel_rfl) (by kernel_rfl) (by kernel_rfl) (fun _ _ _ h => h) (Or.inl ⟨by rfl, ?_⟩) (by assumption) ?_
      rotate_left
      · intro w hSw; (try dsimp only at hSw); go_simp; try with_reducible rfl
      try simp only [Act.put, List.getElem_toArray, List.getElem_cons_zero, List.getElem_cons_succ, List.setIfInBounds_toArray, List.set_cons_zero, List.set_cons_succ]
      refine wpAnyH_take (i := 10) (v := ?_) rfl (by kernel_rfl) (by kernel_rfl) (by kernel_rfl) (fun _ _ _ h => h) (Or.inl ⟨by rfl, ?_⟩) (by assumption) ?_
      rotate_left
      · intro w hSw; (try dsimp only at hSw); go_simp; try with_reducible rfl
      try simp only [Act.put, List.getElem_toArray, List.getElem_cons_zero, List.getElem_cons_succ, List.setIfInBounds_toArray, List.set_cons_zero, List.set_cons_succ]
      refine wpAnyH_take (i := 11) (v := ?_) rfl (by kernel_rfl) (by kernel_rfl) (by kernel_rfl) (fun _ _ _ h => h) (Or.inl ⟨by rfl, ?_⟩) (by assumption) ?_
      rotate_left
      · intro w hSw; (try dsimp only at hSw); go_simp; try with_reducible rfl
      try simp only [Act.put, List.getElem_toArray, List.getElem_cons_zero, List.getElem_cons_succ, List.setIfInBounds_toArray, List.set_cons_zero, List.set_cons_succ]
      refine wpAnyH_take (i := 12) (v := ?_) rfl (by kernel_rfl) (by kernel_rfl) (by kernel_rfl) (fun _ _ _ h => h) (Or.inl ⟨by rfl, ?_⟩) (by assumption) ?_
      rotate_left
      · intro w hSw; (try dsimp only at hSw); go_simp; try with_reducible rfl
      try simp only [Act.put, List.getElem_toArray, List.getElem_cons_zero, List.getElem_cons_succ, List.setIfInBounds_toArray, List.set_cons_zero, List.set_cons_succ]
      refine wpAnyH_take (i := 13) (v := ?_) rfl (by kernel_rfl) (by kernel_rfl) (by kernel_rfl) (fun _ _ _ h => h) (Or.inl ⟨by rfl, ?_⟩) (by assumption) ?_
      rotate_left
      · intro w hSw; (try dsimp only at hSw); go_simp; try with_reducible rfl
      try simp only [Act.put, List.getElem_toArray, List.getElem_cons_zero, List.getElem_cons_succ, List.setIfInBounds_toArray, List.set_cons_zero, List.set_cons_succ]
      refine wpAnyH_take (i := 14) (v := ?_) rfl (by kernel_rfl) (by kernel_rfl) (by kernel_rfl) (fun _ _ _ h => h) (Or.inl ⟨by rfl, ?_⟩) (by assumption) ?_
      rotate_left
      · intro w hSw; (try dsimp only at hSw); go_simp; try with_reducible rfl
      try simp only [Act.put, List.getElem_toArray, List.getElem_cons_zero, List.getElem_cons_succ, List.setIfInBounds_toArray, List.set_cons_zero, List.set_cons_succ]
      refine wpAnyH_take (i := 15) (v := ?_) rfl (by kernel_rfl) (by kernel_rfl) (by kernel_rfl) (fun _ _ _ h => h) (Or.inl ⟨by rfl, ?_⟩) (by assumption) ?_
      rotate_left
      · intro w hSw; (try dsimp only at hSw); go_simp; try with_reducible rfl
      try simp only [Act.put, List.getElem_toArray, List.getElem_cons_zero, List.getElem_cons_succ, List.setIfInBounds_toArray, List.set_cons_zero, List.set_cons_succ]
      refine wpAnyH_take (i := 16) (v := ?_) rfl (by kernel_rfl) (by kernel_rfl) (by kernel_rfl) (fun _ _ _ h => h) (Or.inl ⟨by rfl, ?_⟩) (by assumption) ?_
      rotate_left
      · intro w hSw; (try dsimp only at hSw); go_simp; try with_reducible rfl
      try simp only [Act.put, List.getElem_toArray, List.getElem_cons_zero, List.getElem_cons_succ, List.setIfInBounds_toArray, List.set_cons_zero, List.set_cons_succ]
      refine wpAnyH_ready (rs := [17]) (by kernel_rfl) (by simp) ?_
      refine AllReadyH.cons rfl (fun K hK => ?_) AllReadyH.nil
      go_simp
      try dsimp only
      refine hK.out _ _ (gs (gs hHeld _) _) (fun hHeld => ?_)
      clear hK K
      try simp only [Act.put, List.getElem_toArray, List.getElem_cons_zero, List.getElem_cons_succ, List.setIfInBounds_toArray, List.set_cons_zero, List.set_cons_succ]
      refine wpAnyH_done (by kernel_rfl) ?_ _
      go_step
      (try go_step)
      go_meet
      exact use_two hHeld u0 u1 u2 u3 u4 w4
    · have := HTT.out
      simp only [List.length_cons] at this
      omega
  case rest =>
    obtain ⟨G6, p0, p1, p2, p3, p4, pf4⟩ := hcut
    rename World => V6
    have z1 := gc G6 x1 (by omega)
    have z2 := gc G6 g2 n3
    have z4 := gc G6 g4 n3
    have z5 := gc G6 g5 n3
    have R6 := ru_grown R5 G6 n2
    have G5w := Lib.hid G5
    clear x1 g2 g3 g4 g5 u0 u1 u2 u3 u4 w2 w3 w4 c107 G5 R5
    generalize t.getD 0 0 = aT at *
    generalize t.getD 1 0 = bT at *
    go_upto_region 6 with (fail)
    rcases oP with _ | _
    · obtain rfl := HPT.out rfl
      have GW : w.grownBy V6 (some B) := gg G5w.out G6 (by omega)
      have DC := Lib.hid (HDO.out V6 GW)
      unfold useV at DC
      have hent := HEN.out
      unfold Enters at hent
      have pul := PU1.out
      have pu8 := HPU.out
      clear HDO HEN HPU HPT PU1 G5w ST
      go_upto_region 9 with ((with_reducible refine DC.out.mono ?_); rintro e V7 ⟨rfl, hb7⟩)
      have R7 := ru_below R6 hb7
      have GW7 := gt GW hb7
      replace z4 := kc hb7 z4
      clear z1 z2 z5 p0 p1 p2 p3 p4 pf4 hb7 DC R6 GW G6 hent
      have hpc : pu = 0 ∨ pu = 1 := by omega
      rcases hpc with rfl | rfl
      · go_wp2_with fail
        go_ret
        exact ⟨rfl, GW7, R7⟩
      · have hl8 := pu8 rfl
        have c7 := R7.c107
        rw [hh'] at c7 hl8
        obtain ⟨xv, s7, f7, _⟩ := R7.stk h' hl8
        have hb0 : (0 : Int) ≤ (h' : Int) := by omega
        have hb8 : (h' : Int) < 8 := by omega
        have LM := Lib.hid (fun W => limited_any r W)
        have C107 : ∀ W, (V7.grownBy W (some B) ∧ W.cell? ⟨B, 107, none⟩ = some (.int .i64 (h' : Int))) → W.cell? ⟨B, 107, none⟩ = some (.int .i64 (h' : Int)) := fun _ h => h.2
        go_upto_region 11 with (fail)
        refine wp_region_held_drew (S := fun W => V7.grownBy W (some B) ∧ W.cell? ⟨B, 107, none⟩ = some (.int .i64 (h' : Int))) (by kernel_rfl) ⟨gd1 (gr _ _), c7⟩ (fun hHeld => ?_)
        refine wpAnyH_take (i := 0) (v := ?_) rfl (by kernel_rfl) (by kernel_rfl) (by kernel_rfl) (fun _ _ _ h => h) (Or.inl ⟨by rfl, ?_⟩) (by assumption) ?_
        rotate_left
        · intro w hSw; (try dsimp only at hSw); go_simp; try with_reducible rfl
        try simp only [Act.put, List.getElem_toArray, List.getElem_cons_zero, List.setIfInBounds_toArray, List.set_cons_zero, List.set_cons_succ]
        refine wpAnyH_take (i := 1) (v := ?_) rfl (by kernel_rfl) (by kernel_rfl) (by kernel_rfl) (fun _ _ _ h => h) (Or.inl ⟨by rfl, ?_⟩) (by assumption) ?_
        rotate_left
        · intro w hSw; (try dsimp only at hSw); go_simp; try with_reducible rfl
        try simp only [Act.put, List.getElem_toArray, List.getElem_cons_zero, List.getElem_cons_succ, List.setIfInBounds_toArray, List.set_cons_zero, List.set_cons_succ]
        refine wpAnyH_take (i := 2) (v := ?_) rfl (by kernel_rfl) (by kernel_rfl) (by kernel_rfl) (fun _ _ _ h => h) (Or.inl ⟨by rfl, ?_⟩) (by assumption) ?_
        rotate_left
        · intro w hSw; (try dsimp only at hSw); go_simp; try with_reducible rfl
        try simp only [Act.put, List.getElem_toArray, List.getElem_cons_zero, List.getElem_cons_succ, List.setIfInBounds_toArray, List.set_cons_zero, List.set_cons_succ]
        refine wpAnyH_take (i := 3) (v := ?_) rfl (by kernel_rfl) (by kernel_rfl) (by kernel_rfl) (fun _ _ _ h => h) (Or.inl ⟨by rfl, ?_⟩) (by assumption) ?_
        rotate_left
        · intro w hSw; (try dsimp only at hSw); go_simp; try with_reducible rfl
        try simp only [Act.put, List.getElem_toArray, List.getElem_cons_zero, List.getElem_cons_succ, List.setIfInBounds_toArray, List.set_cons_zero, List.set_cons_succ]
        refine wpAnyH_take (i := 4) (v := ?_) rfl (by kernel_rfl) (by kernel_rfl) (by kernel_rfl) (fun _ _ _ h => h) (Or.inl ⟨by rfl, ?_⟩) (by assumption) ?_
        rotate_left
        · intro w hSw; (try dsimp only at hSw); go_simp; try with_reducible rfl
        try simp only [Act.put, List.getElem_toArray, List.getElem_cons_zero, List.getElem_cons_succ, List.setIfInBounds_toArray, List.set_cons_zero, List.set_cons_succ]
        refine wpAnyH_take (i := 5) (v := ?_) rfl (by kernel_rfl) (by kernel_rfl) (by kernel_rfl) (fun _ _ _ h => h) (Or.inl ⟨by rfl, ?_⟩) (by assumption) ?_
        rotate_left
        · intro w hSw; (try dsimp only at hSw); go_simp; try with_reducible rfl
        try simp only [Act.put, List.getElem_toArray, List.getElem_cons_zero, List.getElem_cons_succ, List.setIfInBounds_toArray, List.set_cons_zero, List.set_cons_succ]
        refine wpAnyH_take (i := 7) (v := ?_) rfl (by kernel_rfl) (by kernel_rfl) (by kernel_rfl) (fun _ _ _ h => h) (Or.inl ⟨by rfl, ?_⟩) (by assumption) ?_
        rotate_left
        · intro w hSw; (try dsimp only at hSw); go_simp; try with_reducible rfl
        try simp only [Act.put, List.getElem_toArray, List.getElem_cons_zero, List.getElem_cons_succ, List.setIfInBounds_toArray, List.set_cons_zero, List.set_cons_succ]
        refine wpAnyH_take (i := 8) (v := ?_) rfl (by kernel_rfl) (by kernel_rfl) (by kernel_rfl) (fun _ _ _ h => h) (Or.inl ⟨by rfl, ?_⟩) (by assumption) ?_
        rotate_left
        · intro w hSw; (try dsimp only at hSw); go_simp; try with_reducible rfl
        try simp only [Act.put, List.getElem_toArray, List.getElem_cons_zero, List.getElem_cons_succ, List.setIfInBounds_toArray, List.set_cons_zero, List.set_cons_succ]
        refine wpAnyH_ready (rs := [6]) (by kernel_rfl) (by simp) ?_
        refine AllReadyH.cons rfl (fun K hK => ?_) AllReadyH.nil
        go_simp
        with_reducible refine (LM.out _).mono ?_
        rintro e v3 ⟨rfl, rfl⟩
        try dsimp only
        refine hK.out _ _ (hHeld) (fun hHeld => ?_)
        clear hK K
        try simp only [Act.put, List.getElem_toArray, List.getElem_cons_zero, List.getElem_cons_succ, List.setIfInBounds_toArray, List.set_cons_zero, List.set_cons_succ]
        refine wpAnyH_take (i := 9) (v := ?_) rfl (by kernel_rfl) (by kernel_rfl) (by kernel_rfl) (fun _ _ _ h => h) (Or.inl ⟨by rfl, ?_⟩) (by assumption) ?_
        rotate_left
        · intro w hSw; (try dsimp only at hSw); go_simp; try with_reducible rfl
        try simp only [Act.put, List.getElem_toArray, List.getElem_cons_zero, List.getElem_cons_succ, List.setIfInBounds_toArray, List.set_cons_zero, List.set_cons_succ]
        refine wpAnyH_ready (rs := [10]) (by kernel_rfl) (by simp) ?_
        refine AllReadyH.cons rfl (fun K hK => ?_) AllReadyH.nil
        go_simp
        try dsimp only
        refine hK.out _ _ (⟨gs hHeld.1 _, far_cell hHeld.2 (.inr (by omega))⟩) (fun hHeld => ?_)
        clear hK K
        try simp only [Act.put, List.getElem_toArray, List.getElem_cons_zero, List.getElem_cons_succ, List.setIfInBounds_toArray, List.set_cons_zero, List.set_cons_succ]
        refine wpAnyH_done (by kernel_rfl) ?_ _
        clear C107 c7 s7 f7 LM z4
        have hl9 : l'.length < 8 := by omega
        obtain ⟨R8, R9⟩ := ru_cell R7 (lim r) hl9
        rw [hh'] at R8 R9
        have R8' := ru_below R8 (bd1 (Below.refl _ _))
        have G8 : w.grownBy (V7.setCell ⟨B, 99 + h', none⟩ (.int .i64 (lim r))).drew (some B) := gd1 (gs GW7 _)
        have R9' : (V7.setCell ⟨B, 99 + h', none⟩ (.int .i64 (lim r))).drew.cell? ⟨B, 99 + h', none⟩ = some (.int .i64 (lim r)) := R9
        clear R8 R9 R7 GW7 hHeld pul pu8
        generalize (V7.setCell ⟨B, 99 + h', none⟩ (.int .i64 (lim r))).drew = V8 at *
        have c8 := R8'.c107
        have f8 := R8'.f107
        rw [hh'] at c8
        go_step
        go_wp2
        go_ret
        have h9 := ru_push R8' (by rw [hh']; exact R9') hl9
        rw [hh', Int.natCast_add] at h9
        exact ⟨rfl, gs G8 _, h9⟩
    · obtain ⟨qa, oa, nn, rfl, rfl, hnn, hq, hqB⟩ := HPL.out rfl
      have GV : w.grownBy V6 (some B) := gg G5w.out G6 (by omega)
      have hq6 := gc GV hq hqB
      have hqw : qa < w.heap.size := block_lt_of_cell hq
      have hqu : qa ≠ Bu := by omega
      have hwu : w.heap.size ≠ Bu := by omega
      have cc96 := R6.c96
      have C96 : ∀ W, V6.grownBy W (some Bu) → W.cell? ⟨B, 96, none⟩ = some (.slice (some ⟨qa, oa, none⟩) np pc) := fun _ h => gc h cc96 n2
      have Z1 : ∀ W, V6.grownBy W (some Bu) → W.cell? ⟨w.heap.size, 1, none⟩ = some (.int .i64 (nn : Int)) := fun _ h => gc h z1 hwu
      have PQ : ∀ W, V6.grownBy W (some Bu) → W.cell? ⟨qa, oa + nn, none⟩ = some (.pointer pt) := fun _ h => gc h hq6 hqu
      have i0 : (0 : Int) ≤ (nn : Int) := by omega
      have i1 : (nn : Int) < (np : Int) := by omega
      go_upto_region 7 with (fail)
      refine wp_region_held_drew (S := fun W => V6.grownBy W (some Bu)) (by kernel_rfl) (gd1 (gr _ _)) (fun hHeld => ?_)
      refine wpAnyH_take (i := 0) (v := ?_) rfl (by kernel_rfl) (by kernel_rfl) (by kernel_rfl) (fun _ _ _ h => h) (Or.inl ⟨by rfl, ?_⟩) (by assumption) ?_
      rotate_left
      · intro w hSw; (try dsimp only at hSw); go_simp; try with_reducible rfl
      try simp only [Act.put, List.getElem_toArray, List.getElem_cons_zero, List.setIfInBounds_toArray, List.set_cons_zero, List.set_cons_succ]
      refine wpAnyH_take (i := 1) (v := ?_) rfl (by kernel_rfl) (by kernel_rfl) (by kernel_rfl) (fun _ _ _ h => h) (Or.inl ⟨by rfl, ?_⟩) (by assumption) ?_
      rotate_left
      · intro w hSw; (try dsimp only at hSw); go_simp; try with_reducible rfl
      try simp only [Act.put, List.getElem_toArray, List.getElem_cons_zero, List.getElem_cons_succ, List.setIfInBounds_toArray, List.set_cons_zero, List.set_cons_succ]
      refine wpAnyH_take (i := 2) (v := ?_) rfl (by kernel_rfl) (by kernel_rfl) (by kernel_rfl) (fun _ _ _ h => h) (Or.inl ⟨by rfl, ?_⟩) (by assumption) ?_
      rotate_left
      · intro w hSw; (try dsimp only at hSw); go_simp; try with_reducible rfl
      try simp only [Act.put, List.getElem_toArray, List.getElem_cons_zero, List.getElem_cons_succ, List.setIfInBounds_toArray, List.set_cons_zero, List.set_cons_succ]
      refine wpAnyH_take (i := 3) (v := ?_) rfl (by kernel_rfl) (by kernel_rfl) (by kernel_rfl) (fun _ _ _ h => h) (Or.inl ⟨by rfl, ?_⟩) (by assumption) ?_
      rotate_left
      · intro w hSw; (try dsimp only at hSw); go_simp; try with_reducible rfl
      try simp only [Act.put, List.getElem_toArray, List.getElem_cons_zero, List.getElem_cons_succ, List.setIfInBounds_toArray, List.set_cons_zero, List.set_cons_succ]
      refine wpAnyH_take (i := 4) (v := ?_) rfl (by kernel_rfl) (by kernel_rfl) (by kernel_rfl) (fun _ _ _ h => h) (Or.inl ⟨by rfl, ?_⟩) (by assumption) ?_
      rotate_left
      · intro w hSw; (try dsimp only at hSw); go_simp; try with_reducible rfl
      try simp only [Act.put, List.getElem_toArray, List.getElem_cons_zero, List.getElem_cons_succ, List.setIfInBounds_toArray, List.set_cons_zero, List.set_cons_succ]
      refine wpAnyH_take (i := 5) (v := ?_) rfl (by kernel_rfl) (by kernel_rfl) (by kernel_rfl) (fun _ _ _ h => h) (Or.inl ⟨by rfl, ?_⟩) (by assumption) ?_
      rotate_left
      · intro w hSw; (try dsimp only at hSw); go_simp; try with_reducible rfl
      try simp only [Act.put, List.getElem_toArray, List.getElem_cons_zero, List.getElem_cons_succ, List.setIfInBounds_toArray, List.set_cons_zero, List.set_cons_succ]
      refine wpAnyH_take (i := 6) (v := ?_) rfl (by kernel_rfl) (by kernel_rfl) (by kernel_rfl) (fun _ _ _ h => h) (Or.inl ⟨by rfl, ?_⟩) (by assumption) ?_
      rotate_left
      · intro w hSw; (try dsimp only at hSw); go_simp; try with_reducible rfl
      try simp only [Act.put, List.getElem_toArray, List.getElem_cons_zero, List.getElem_cons_succ, List.setIfInBounds_toArray, List.set_cons_zero, List.set_cons_succ]
      refine wpAnyH_take (i := 7) (v := ?_) rfl (by kernel_rfl) (by kernel_rfl) (by kernel_rfl) (fun _ _ _ h => h) (Or.inl ⟨by rfl, ?_⟩) (by assumption) ?_
      rotate_left
      · intro w hSw; (try dsimp only at hSw); go_simp; try with_reducible rfl
      try simp only [Act.put, List.getElem_toArray, List.getElem_cons_zero, List.getElem_cons_succ, List.setIfInBounds_toArray, List.set_cons_zero, List.set_cons_succ]
      refine wpAnyH_take (i := 8) (v := ?_) rfl (by kernel_rfl) (by kernel_rfl) (by kernel_rfl) (fun _ _ _ h => h) (Or.inl ⟨by rfl, ?_⟩) (by assumption) ?_
      rotate_left
      · intro w hSw; (try dsimp only at hSw); go_simp; try with_reducible rfl
      try simp only [Act.put, List.getElem_toArray, List.getElem_cons_zero, List.getElem_cons_succ, List.setIfInBounds_toArray, List.set_cons_zero, List.set_cons_succ]
      refine wpAnyH_ready (rs := [9]) (by kernel_rfl) (by simp) ?_
      refine AllReadyH.cons rfl (fun K hK => ?_) AllReadyH.nil
      go_simp
      try dsimp only
      refine hK.out _ _ (gs hHeld _) (fun hHeld => ?_)
      clear hK K
      try simp only [Act.put, List.getElem_toArray, List.getElem_cons_zero, List.getElem_cons_succ, List.setIfInBounds_toArray, List.set_cons_zero, List.set_cons_succ]
      refine wpAnyH_done (by kernel_rfl) ?_ _
      have GY : V6.grownBy (V6.setCell ⟨Bu, 4, none⟩ (.pointer pt)).drew (some Bu) := gd1 (gs (gr _ _) _)
      replace R6 := ru_grown R6 GY n2
      have G6' : V5.grownBy (V6.setCell ⟨Bu, 4, none⟩ (.pointer pt)).drew (some Bu) := gd1 (gs G6 _)
      replace z4 := gc GY z4 n3
      replace z5 := gc GY z5 n3
      replace z1 := gc GY z1 hwu
      replace z2 := gc GY z2 n3
      replace pf4 : (V6.setCell ⟨Bu, 4, none⟩ (.pointer pt)).drew.frozen? ⟨Bu, 4, none⟩ = false := fz_set pf4
      replace p0 : (V6.setCell ⟨Bu, 4, none⟩ (.pointer pt)).drew.cell? ⟨Bu, 0, none⟩ = _ := far_cell p0 (.inr (by omega))
      replace p1 : (V6.setCell ⟨Bu, 4, none⟩ (.pointer pt)).drew.cell? ⟨Bu, 1, none⟩ = _ := far_cell p1 (.inr (by omega))
      replace p2 : (V6.setCell ⟨Bu, 4, none⟩ (.pointer pt)).drew.cell? ⟨Bu, 2, none⟩ = _ := far_cell p2 (.inr (by omega))
      replace p3 : (V6.setCell ⟨Bu, 4, none⟩ (.pointer pt)).drew.cell? ⟨Bu, 3, none⟩ = _ := far_cell p3 (.inr (by omega))
      replace p4 : (V6.setCell ⟨Bu, 4, none⟩ (.pointer pt)).drew.cell? ⟨Bu, 4, none⟩ = some (.pointer pt) := same_cell p4
      clear G6 GY C96 Z1 PQ hq6 cc96 GV hHeld
      have G6 := G6'
      clear G6'
      generalize (V6.setCell ⟨Bu, 4, none⟩ (.pointer pt)).drew = V6 at *
      go_step
      have GW : w.grownBy V6 (some B) := gg G5w.out G6 (by omega)
      have DC := Lib.hid (HDO.out V6 GW)
      unfold useV at DC
      have hent := HEN.out
      unfold Enters at hent
      have pul := PU1.out
      have pu8 := HPU.out
      clear HDO HEN HPU HPT PU1 G5w ST
      go_upto_region 9 with ((with_reducible refine DC.out.mono ?_); rintro e V7 ⟨rfl, hb7⟩)
      have R7 := ru_below R6 hb7
      have GW7 := gt GW hb7
      replace z4 := kc hb7 z4
      clear z1 z2 z5 p0 p1 p2 p3 p4 pf4 hb7 DC R6 GW G6 hent
      have hpc : pu = 0 ∨ pu = 1 := by omega
      rcases hpc with rfl | rfl
      · go_wp2_with fail
        go_ret
        exact ⟨rfl, GW7, R7⟩
      · have hl8 := pu8 rfl
        have c7 := R7.c107
        rw [hh'] at c7 hl8
        obtain ⟨xv, s7, f7, _⟩ := R7.stk h' hl8
        have hb0 : (0 : Int) ≤ (h' : Int) := by omega
        have hb8 : (h' : Int) < 8 := by omega
        have LM := Lib.hid (fun W => limited_any r W)
        have C107 : ∀ W, (V7.grownBy W (some B) ∧ W.cell? ⟨B, 107, none⟩ = some (.int .i64 (h' : Int))) → W.cell? ⟨B, 107, none⟩ = some (.int .i64 (h' : Int)) := fun _ h => h.2
        go_upto_region 11 with (fail)
        refine wp_region_held_drew (S := fun W => V7.grownBy W (some B) ∧ W.cell? ⟨B, 107, none⟩ = some (.int .i64 (h' : Int))) (by kernel_rfl) ⟨gd1 (gr _ _), c7⟩ (fun hHeld => ?_)
        refine wpAnyH_take (i := 0) (v := ?_) rfl (by kernel_rfl) (by kernel_rfl) (by kernel_rfl) (fun _ _ _ h => h) (Or.inl ⟨by rfl, ?_⟩) (by assumption) ?_
        rotate_left
        · intro w hSw; (try dsimp only at hSw); go_simp; try with_reducible rfl
        try simp only [Act.put, List.getElem_toArray, List.getElem_cons_zero, List.setIfInBounds_toArray, List.set_cons_zero, List.set_cons_succ]
        refine wpAnyH_take (i := 1) (v := ?_) rfl (by kernel_rfl) (by kernel_rfl) (by kernel_rfl) (fun _ _ _ h => h) (Or.inl ⟨by rfl, ?_⟩) (by assumption) ?_
        rotate_left
        · intro w hSw; (try dsimp only at hSw); go_simp; try with_reducible rfl
        try simp only [Act.put, List.getElem_toArray, List.getElem_cons_zero, List.getElem_cons_succ, List.setIfInBounds_toArray, List.set_cons_zero, List.set_cons_succ]
        refine wpAnyH_take (i := 2) (v := ?_) rfl (by kernel_rfl) (by kernel_rfl) (by kernel_rfl) (fun _ _ _ h => h) (Or.inl ⟨by rfl, ?_⟩) (by assumption) ?_
        rotate_left
        · intro w hSw; (try dsimp only at hSw); go_simp; try with_reducible rfl
        try simp only [Act.put, List.getElem_toArray, List.getElem_cons_zero, List.getElem_cons_succ, List.setIfInBounds_toArray, List.set_cons_zero, List.set_cons_succ]
        refine wpAnyH_take (i := 3) (v := ?_) rfl (by kernel_rfl) (by kernel_rfl) (by kernel_rfl) (fun _ _ _ h => h) (Or.inl ⟨by rfl, ?_⟩) (by assumption) ?_
        rotate_left
        · intro w hSw; (try dsimp only at hSw); go_simp; try with_reducible rfl
        try simp only [Act.put, List.getElem_toArray, List.getElem_cons_zero, List.getElem_cons_succ, List.setIfInBounds_toArray, List.set_cons_zero, List.set_cons_succ]
        refine wpAnyH_take (i := 4) (v := ?_) rfl (by kernel_rfl) (by kernel_rfl) (by kernel_rfl) (fun _ _ _ h => h) (Or.inl ⟨by rfl, ?_⟩) (by assumption) ?_
        rotate_left
        · intro w hSw; (try dsimp only at hSw); go_simp; try with_reducible rfl
        try simp only [Act.put, List.getElem_toArray, List.getElem_cons_zero, List.getElem_cons_succ, List.setIfInBounds_toArray, List.set_cons_zero, List.set_cons_succ]
        refine wpAnyH_take (i := 5) (v := ?_) rfl (by kernel_rfl) (by kernel_rfl) (by kernel_rfl) (fun _ _ _ h => h) (Or.inl ⟨by rfl, ?_⟩) (by assumption) ?_
        rotate_left
        · intro w hSw; (try dsimp only at hSw); go_simp; try with_reducible rfl
        try simp only [Act.put, List.getElem_toArray, List.getElem_cons_zero, List.getElem_cons_succ, List.setIfInBounds_toArray, List.set_cons_zero, List.set_cons_succ]
        refine wpAnyH_take (i := 7) (v := ?_) rfl (by kernel_rfl) (by kernel_rfl) (by kernel_rfl) (fun _ _ _ h => h) (Or.inl ⟨by rfl, ?_⟩) (by assumption) ?_
        rotate_left
        · intro w hSw; (try dsimp only at hSw); go_simp; try with_reducible rfl
        try simp only [Act.put, List.getElem_toArray, List.getElem_cons_zero, List.getElem_cons_succ, List.setIfInBounds_toArray, List.set_cons_zero, List.set_cons_succ]
        refine wpAnyH_take (i := 8) (v := ?_) rfl (by kernel_rfl) (by kernel_rfl) (by kernel_rfl) (fun _ _ _ h => h) (Or.inl ⟨by rfl, ?_⟩) (by assumption) ?_
        rotate_left
        · intro w hSw; (try dsimp only at hSw); go_simp; try with_reducible rfl
        try simp only [Act.put, List.getElem_toArray, List.getElem_cons_zero, List.getElem_cons_succ, List.setIfInBounds_toArray, List.set_cons_zero, List.set_cons_succ]
        refine wpAnyH_ready (rs := [6]) (by kernel_rfl) (by simp) ?_
        refine AllReadyH.cons rfl (fun K hK => ?_) AllReadyH.nil
        go_simp
        with_reducible refine (LM.out _).mono ?_
        rintro e v3 ⟨rfl, rfl⟩
        try dsimp only
        refine hK.out _ _ (hHeld) (fun hHeld => ?_)
        clear hK K
        try simp only [Act.put, List.getElem_toArray, List.getElem_cons_zero, List.getElem_cons_succ, List.setIfInBounds_toArray, List.set_cons_zero, List.set_cons_succ]
        refine wpAnyH_take (i := 9) (v := ?_) rfl (by kernel_rfl) (by kernel_rfl) (by kernel_rfl) (fun _ _ _ h => h) (Or.inl ⟨by rfl, ?_⟩) (by assumption) ?_
        rotate_left
        · intro w hSw; (try dsimp only at hSw); go_simp; try with_reducible rfl
        try simp only [Act.put, List.getElem_toArray, List.getElem_cons_zero, List.getElem_cons_succ, List.setIfInBounds_toArray, List.set_cons_zero, List.set_cons_succ]
        refine wpAnyH_ready (rs := [10]) (by kernel_rfl) (by simp) ?_
        refine AllReadyH.cons rfl (fun K hK => ?_) AllReadyH.nil
        go_simp
        try dsimp only
        refine hK.out _ _ (⟨gs hHeld.1 _, far_cell hHeld.2 (.inr (by omega))⟩) (fun hHeld => ?_)
        clear hK K
        try simp only [Act.put, List.getElem_toArray, List.getElem_cons_zero, List.getElem_cons_succ, List.setIfInBounds_toArray, List.set_cons_zero, List.set_cons_succ]
        refine wpAnyH_done (by kernel_rfl) ?_ _
        clear C107 c7 s7 f7 LM z4
        have hl9 : l'.length < 8 := by omega
        obtain ⟨R8, R9⟩ := ru_cell R7 (lim r) hl9
        rw [hh'] at R8 R9
        have R8' := ru_below R8 (bd1 (Below.refl _ _))
        have G8 : w.grownBy (V7.setCell ⟨B, 99 + h', none⟩ (.int .i64 (lim r))).drew (some B) := gd1 (gs GW7 _)
        have R9' : (V7.setCell ⟨B, 99 + h', none⟩ (.int .i64 (lim r))).drew.cell? ⟨B, 99 + h', none⟩ = some (.int .i64 (lim r)) := R9
        clear R8 R9 R7 GW7 hHeld pul pu8
        generalize (V7.setCell ⟨B, 99 + h', none⟩ (.int .i64 (lim r))).drew = V8 at *
        have c8 := R8'.c107
        have f8 := R8'.f107
        rw [hh'] at c8
        go_step
        go_wp2
        go_ret
        have h9 := ru_push R8' (by rw [hh']; exact R9') hl9
        rw [hh', Int.natCast_add] at h9
        exact ⟨rfl, gs G8 _, h9⟩
end Go.Proofs.Ytdgagjcocohnnaa.Mc
