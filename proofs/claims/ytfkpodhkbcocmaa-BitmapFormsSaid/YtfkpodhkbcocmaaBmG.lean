/-
  Layer 4 (bitmap): draw.
-/
import Derived.Test.YtfkpodhkbcocmaaBmF
namespace Go.Proofs.Ytfkpodhkbcocmaa.Bm
open Go.RowKit Go.Shelf
attribute [local go_sem] Oper.semAt_some
/-- Dots that may be written, at an address that may be none if there are no dots. -/
def OO (w : World) (ta : Option Addr) (n : Nat) (f : Nat → Bool) : Prop := ∀ i, i < n → ∃ b, ta = some ⟨b, 0, none⟩ ∧ w.cell? ⟨b, i, none⟩ = some (.bool (f i)) ∧ w.frozen? ⟨b, i, none⟩ = false
theorem oo_ob {w : World} {b n : Nat} {f : Nat → Bool} (h : OB w b n f) : OO w (some ⟨b, 0, none⟩) n f := fun i hi => ⟨b, rfl, h i hi⟩
theorem ob_oo {w : World} {b n : Nat} {f : Nat → Bool} (h : OO w (some ⟨b, 0, none⟩) n f) : OB w b n f := fun i hi => by
  obtain ⟨b', e, h'⟩ := h i hi
  cases e
  exact h'
theorem oo_da {w : World} {ta : Option Addr} {n : Nat} {f : Nat → Bool} (h : OO w ta n f) : DA w ta n f := fun i hi => by
  obtain ⟨b, e, h1, h2⟩ := h i hi
  exact ⟨b, 0, e, by rw [Nat.zero_add]; exact h1⟩
theorem oo_below {w W : World} {ta : Option Addr} {n : Nat} {f : Nat → Bool} (h : OO w ta n f) (hB : Below w.heap.size w W) : OO W ta n f := fun i hi => by
  obtain ⟨b, e, h1, h2⟩ := h i hi
  exact ⟨b, e, kc hB (block_lt_of_cell h1) h1, kf hB (block_lt_of_cell h1) h2⟩
theorem oo_put {W : World} {r : Nat} {o : Obj} (o' : Obj) {ta : Option Addr} {n : Nat} {f : Nat → Bool} (ho : W.heap[r]? = some o) (hc : o.isCells = false) (h : OO W ta n f) : OO (W.putObj r o') ta n f := fun i hi => by
  obtain ⟨b, e, h1, h2⟩ := h i hi
  exact ⟨b, e, (put_cell o' ho hc h1).1, (put_cell o' ho hc h1).2.trans h2⟩
/-- What a call leaves that may write the dots at ta. -/
structure FR (w V : World) (ta : Option Addr) : Prop where
  os : V.os = w.os
  tape : V.tape = w.tape
  output : V.output = w.output
  size : w.heap.size ≤ V.heap.size
  block : ∀ k, k < w.heap.size → (∀ q, ta = some q → k ≠ q.block) → V.heap[k]? = w.heap[k]?
theorem FR.refl (w : World) (ta : Option Addr) : FR w w ta := ⟨rfl, rfl, rfl, Nat.le_refl _, fun _ _ _ => rfl⟩
theorem FR.below {w V V' : World} {ta : Option Addr} (h : FR w V ta) (hB : Below V.heap.size V V') : FR w V' ta :=
  ⟨hB.os.trans h.os, hB.tape.trans h.tape, hB.output.trans h.output, Nat.le_trans h.size hB.size, fun k hk hn => (hB.block k (Nat.lt_of_lt_of_le hk h.size)).trans (h.block k hk hn)⟩
theorem FR.put {w V : World} {ta : Option Addr} (h : FR w V ta) {r : Nat} (hr : w.heap.size ≤ r) (o : Obj) : FR w (V.putObj r o) ta :=
  ⟨h.os, h.tape, h.output, by have := (grownBy_putObj' V r o).size; have := h.size; omega, fun k hk hn => (World.putObj_heap_other (by omega)).trans (h.block k hk hn)⟩
theorem FR.set {w V : World} {b k : Nat} (h : FR w V (some ⟨b, 0, none⟩)) (v : Value) : FR w (V.setCell ⟨b, k, none⟩ v) (some ⟨b, 0, none⟩) :=
  ⟨h.os, h.tape, h.output, by rw [World.size_setCell]; exact h.size, fun j hj hn => (Below.heap_setCell V ⟨b, k, none⟩ v j (hn ⟨b, 0, none⟩ rfl)).trans (h.block j hj hn)⟩
theorem FR.to_below {w V : World} {ta : Option Addr} (h : FR w V ta) {S : Nat} (hS : S ≤ w.heap.size) (hb : ∀ q, ta = some q → S ≤ q.block) : Below S w V :=
  ⟨h.os, h.tape, h.output, h.size, fun k hk => h.block k (by omega) (fun q e => by have := hb q e; omega)⟩
theorem FR.cell {w V : World} {ta : Option Addr} (h : FR w V ta) {b o : Nat} {v : Value} (hc : w.cell? ⟨b, o, none⟩ = some v) (hn : ∀ q, ta = some q → b ≠ q.block) : V.cell? ⟨b, o, none⟩ = some v ∧ V.frozen? ⟨b, o, none⟩ = w.frozen? ⟨b, o, none⟩ := by
  have e := h.block b (block_lt_of_cell hc) hn
  exact ⟨by simpa only [World.cell?, e] using hc, by simp only [World.frozen?, e]⟩
/-- Where a dot of the source comes to lie. -/
def dX (x : Int) (W2 : Int) (k : Nat) : Int := RowKit.wrap64 (x + (k : Int) % W2)
def dY (y : Int) (W2 : Int) (k : Nat) : Int := RowKit.wrap64 (y + (k : Int) / W2)
def dr (W H W2 x y : Int) (f2 g : Nat → Bool) : Nat → Nat → Bool
  | 0 => g
  | k + 1 => if (f2 k && ins W H (dX x W2 k) (dY y W2 k)) = true then fun t => if t = (dY y W2 k * W + dX x W2 k).toNat then true else dr W H W2 x y f2 g k t else dr W H W2 x y f2 g k
def DI (w : World) (W H : Int) (ta : Option Addr) (n c : Nat) (W2 H2 : Int) (a2 : Option Addr) (n2 c2 : Nat) (f2 : Nat → Bool) (x y : Int) (g : Nat → Bool) (k : Nat) (V : World) : Prop :=
  OO V ta n (dr W H W2 x y f2 g k) ∧ BoxAt V w.heap.size W H ta n c ∧ V.cell? ⟨w.heap.size + 1 + 1, 0, none⟩ = some (.int .i64 x) ∧ V.cell? ⟨w.heap.size + 1 + 1 + 1, 0, none⟩ = some (.int .i64 y) ∧
  DMem (w.heap.size + 1 + 1 + 1 + 1) W2 H2 a2 n2 c2 f2 V ∧ FR w V ta
theorem di_below {w : World} {W H : Int} {ta : Option Addr} {n c : Nat} {W2 H2 : Int} {a2 : Option Addr} {n2 c2 : Nat} {f2 : Nat → Bool} {x y : Int} {g : Nat → Bool} {k : Nat} {V V' : World} (h : DI w W H ta n c W2 H2 a2 n2 c2 f2 x y g k V) (hB : Below V.heap.size V V') : DI w W H ta n c W2 H2 a2 n2 c2 f2 x y g k V' := by
  obtain ⟨h1, h2, h3, h4, ⟨h5, h6⟩, h7⟩ := h
  exact ⟨oo_below h1 hB, boxat_below h2 hB, kc hB (block_lt_of_cell h3) h3, kc hB (block_lt_of_cell h4) h4, ⟨boxat_below h5 hB, da_below h6 hB⟩, h7.below hB⟩
theorem di_put {w : World} {W H : Int} {ta : Option Addr} {n c : Nat} {W2 H2 : Int} {a2 : Option Addr} {n2 c2 : Nat} {f2 : Nat → Bool} {x y : Int} {g : Nat → Bool} {k : Nat} {V : World} {r : Nat} {o : Obj} (o' : Obj) (hr : w.heap.size ≤ r) (h : DI w W H ta n c W2 H2 a2 n2 c2 f2 x y g k V) (ho : V.heap[r]? = some o) (hc : o.isCells = false) : DI w W H ta n c W2 H2 a2 n2 c2 f2 x y g k (V.putObj r o') := by
  obtain ⟨h1, h2, h3, h4, ⟨h5, h6⟩, h7⟩ := h
  exact ⟨oo_put o' ho hc h1, put_box o' ho hc h2, (put_cell o' ho hc h3).1, (put_cell o' ho hc h4).1, ⟨put_box o' ho hc h5, put_da o' ho hc h6⟩, h7.put hr o'⟩
theorem di_skip {w : World} {W H : Int} {ta : Option Addr} {n c : Nat} {W2 H2 : Int} {a2 : Option Addr} {n2 c2 : Nat} {f2 : Nat → Bool} {x y : Int} {g : Nat → Bool} {k : Nat} {V : World} (h : DI w W H ta n c W2 H2 a2 n2 c2 f2 x y g k V) (hp : (f2 k && ins W H (dX x W2 k) (dY y W2 k)) = false) : DI w W H ta n c W2 H2 a2 n2 c2 f2 x y g (k + 1) V := by
  obtain ⟨h1, h2⟩ := h
  have e : dr W H W2 x y f2 g (k + 1) = dr W H W2 x y f2 g k := by rw [dr, if_neg (by rw [hp]; exact Bool.false_ne_true)]
  exact ⟨by rw [e]; exact h1, h2⟩
theorem di_next {w : World} {W H : Int} {b n c : Nat} {W2 H2 : Int} {a2 : Option Addr} {n2 c2 : Nat} {f2 : Nat → Bool} {x y : Int} {g : Nat → Bool} {k j : Nat} {V : World} (h : DI w W H (some ⟨b, 0, none⟩) n c W2 H2 a2 n2 c2 f2 x y g k V) (hp : (f2 k && ins W H (dX x W2 k) (dY y W2 k)) = true)
    (hj : dY y W2 k * W + dX x W2 k = (j : Int)) (hjn : j < n) (hbw : b < w.heap.size) (hne : ∀ q, a2 = some q → q.block ≠ b) : DI w W H (some ⟨b, 0, none⟩) n c W2 H2 a2 n2 c2 f2 x y g (k + 1) (V.setCell ⟨b, j, none⟩ (.bool true)) := by
  obtain ⟨h1, ⟨h20, h21, h22⟩, h3, h4, ⟨⟨h50, h51, h52⟩, h6⟩, h7⟩ := h
  have e : dr W H W2 x y f2 g (k + 1) = fun t => if t = j then true else dr W H W2 x y f2 g k t := by rw [dr, if_pos hp, hj, Int.toNat_natCast]
  have n1 : ¬ b = w.heap.size := by omega
  have n2' : ¬ b = w.heap.size + 1 + 1 := by omega
  have n3 : ¬ b = w.heap.size + 1 + 1 + 1 := by omega
  have n4 : ¬ b = w.heap.size + 1 + 1 + 1 + 1 := by omega
  refine ⟨?_, ⟨by go_cell, by go_cell, by go_cell⟩, by go_cell, by go_cell, ⟨⟨by go_cell, by go_cell, by go_cell⟩, ?_⟩, h7.set _⟩
  · rw [e]
    exact oo_ob (ob_set (ob_oo h1) hjn (fun i => rfl))
  · intro i hi
    obtain ⟨b', o, e', hc⟩ := h6 i hi
    have n5 : ¬ b = b' := fun h => hne _ e' h.symm
    exact ⟨b', o, e', by go_cell⟩
theorem nd_pos {W H : Int} {n k : Nat} (h : k < nd W H n) : 0 < n := by
  unfold nd at h
  split at h <;> omega
theorem wrap_pos {W H x y X Y i j : Int} (hX : RowKit.wrap64 (x + i) = X) (hY : RowKit.wrap64 (y + j) = Y) (hx : 0 ≤ X ∧ X < W) (hy : 0 ≤ Y ∧ Y < H) (hW : W ≤ 96) (hH : H ≤ 96) {k : Nat} (hk : Y * W + X = k) :
    RowKit.wrap64 (RowKit.wrap64 (RowKit.wrap64 (Y * W) + x) + i) = k := by
  have h1 := pos_in hx hy
  have h2 := mul_side (W := W) (H := H) ⟨by omega, by omega⟩ ⟨by omega, by omega⟩
  rw [wrap_id (x := Y * W) ⟨by omega, by omega⟩]
  rw [← hk]
  generalize Y * W = p at *
  unfold RowKit.wrap64 at *
  omega
set_option maxRecDepth 100000 in
set_option maxHeartbeats 4000000 in
theorem draw_any (W H : Int) (ta : Option Addr) (n c : Nat) (g : Nat → Bool) (W2 H2 : Int) (a2 : Option Addr) (n2 c2 : Nat) (f2 : Nat → Bool) (x y : Int) (w : World) (hW : 0 ≤ W ∧ W ≤ 96) (hH : 0 ≤ H ∧ H ≤ 96) (hn : (n : Int) = W * H) (ho : OO w ta n g) (hD : DA w a2 n2 f2)
    (hne : 0 < n2 → ∀ q q', ta = some q → a2 = some q' → q'.block ≠ q.block) :
    Calls Try.prog 45 #[bv W H ta n c, bv W2 H2 a2 n2 c2, .int .i64 x, .int .i64 y] w fun e w' => e = .returned (.tuple #[]) ∧ OO w' ta n (dr W H W2 x y f2 g (nd W2 H2 n2)) ∧ FR w w' ta := by
  refine (callsIn_wide (n := 5)).1 ?_
  have LV := Lib.hid (dots_any W2 H2 a2 n2 c2)
  have IN := Lib.hid (inside_any W H ta n c)
  unfold bv at *
  refine callsIn_of_wp_marks Try.func45 rfl trivial ?_ rfl
  simp only [Try.ntmps45, List.size_toArray, List.length_cons, List.length_nil, Nat.reduceAdd, Nat.reduceSub, Array.replicate_succ, Array.replicate_zero, List.push_toArray, List.append_toArray, List.nil_append, List.cons_append]
  have HN := Lib.hid hn
  clear hn
  gi_wp2_with (refine ⟨trivial, ?_⟩; gi_at_call 48; refine (callsIn_wide.2 (LV.out _)).mono ?_; rintro e w1 ⟨rfl, rfl⟩)
  obtain ⟨W0, hW0⟩ : ∃ W0, (((((w.alloc (.cells #[.int .i64 W, .int .i64 H, .slice ta n c] 28)).alloc (.cells #[.int .i64 W2, .int .i64 H2, .slice a2 n2 c2] 28)).alloc (.cells #[.int .i64 x] 3)).alloc (.cells #[.int .i64 y] 3)).alloc (.cells #[.int .i64 W2, .int .i64 H2, .slice a2 n2 c2] 28)) = W0 := ⟨_, rfl⟩
  have hB0 : Below w.heap.size w W0 := by rw [← hW0]; exact ba (ba (ba (ba (ba (Below.refl _ _) _) _) _) _) _
  have h0 : DI w W H ta n c W2 H2 a2 n2 c2 f2 x y g 0 W0 := by
    have hDD := da_below hD hB0
    have hOO := oo_below ho hB0
    have hFR := (FR.refl w ta).below hB0
    subst hW0
    exact ⟨hOO, ⟨by go_cell, by go_cell, by go_cell⟩, by go_cell, by go_cell, ⟨⟨by go_cell, by go_cell, by go_cell⟩, hDD⟩, hFR⟩
  have hs0 : W0.heap.size = w.heap.size + 1 + 1 + 1 + 1 + 1 := by rw [← hW0]; simp
  rw [hW0]
  clear hW0
  have hold : ∀ b, ta = some ⟨b, 0, none⟩ → 0 < n → b < w.heap.size := fun b e hn => by
    obtain ⟨b', e', h1, h2⟩ := ho 0 hn
    rw [e] at e'
    cases e'
    exact block_lt_of_cell h1
  have HO := Lib.hid hold
  have HE := Lib.hid hne
  clear hD ho hold hne
  refine range_dots (n := 5) (gf := 51) (lb := #[.pointer (some ⟨w.heap.size + 1 + 1 + 1 + 1, 0, none⟩)]) (by omega) rfl (enters_of Try.func51 (by kernel_rfl) rfl) (fun k => rfl)
    (dots_gives 4 (by omega) W2 H2 a2 n2 c2 f2 (w.heap.size + 1 + 1 + 1 + 1)) (fun k V => DI w W H ta n c W2 H2 a2 n2 c2 f2 x y g k V) (fun h hB => di_below h hB)
    (fun o' hr h ho hc => di_put o' (by omega) h ho hc) (fun h => h.2.2.2.2.1) (fun h hk hf => di_skip h (by rw [hf]; rfl)) h0
    (fun k => { tmps := #[.agg #[.int .i64 W, .int .i64 H, .slice ta n c], .agg #[.int .i64 W2, .int .i64 H2, .slice a2 n2 c2], .int .i64 x, .int .i64 y, .pointer (some ⟨w.heap.size, 0, none⟩), .pointer (some ⟨w.heap.size + 1, 0, none⟩), .pointer (some ⟨w.heap.size + 1 + 1, 0, none⟩), .pointer (some ⟨w.heap.size + 1 + 1 + 1, 0, none⟩), .int .i64 ((k : Int) % W2), .int .i64 ((k : Int) / W2), .agg #[.int .i64 W2, .int .i64 H2, .slice a2 n2 c2], .func (.func 51) #[] #[.pointer (some ⟨w.heap.size + 1 + 1 + 1 + 1, 0, none⟩)], .int .i64 ((k : Int) % W2), .int .i64 ((k : Int) / W2), undef, undef, undef, undef, undef, undef, undef, undef, undef, undef, undef, undef, undef, undef, undef, undef, undef, undef, undef, undef, undef], defers := [] }) ?assign ?body ?done
  case assign =>
    intro l k V K hK
    simp only [dargs]
    gi_wp2
    exact hK
  case body =>
    intro l k V hI hk hf
    have II := Lib.hid (IN.out (dX x W2 k) (dY y W2 k))
    have NX : Hid (∀ (b j : Nat) (V : World), ta = some ⟨b, 0, none⟩ → DI w W H ta n c W2 H2 a2 n2 c2 f2 x y g k V → ins W H (dX x W2 k) (dY y W2 k) = true → dY y W2 k * W + dX x W2 k = (j : Int) → j < n → DI w W H ta n c W2 H2 a2 n2 c2 f2 x y g (k + 1) (V.setCell ⟨b, j, none⟩ (.bool true))) := Lib.hid (fun b j V e h hp hj hjn => by
      subst e
      exact di_next h (by rw [hf, hp]; rfl) hj hjn (HO.out b rfl (by omega)) (fun q e => HE.out (nd_pos hk) _ _ rfl e))
    have NS : Hid (∀ V, DI w W H ta n c W2 H2 a2 n2 c2 f2 x y g k V → ins W H (dX x W2 k) (dY y W2 k) = false → DI w W H ta n c W2 H2 a2 n2 c2 f2 x y g (k + 1) V) := Lib.hid (fun V h hp => di_skip h (by rw [hf, hp]; rfl))
    obtain ⟨h1, ⟨h20, h21, h22⟩, h3, h4, h5, h7⟩ := id hI
    rcases hin : ins W H (dX x W2 k) (dY y W2 k) with _ | _
    · rw [hin] at II
      unfold dX dY at II
      generalize (k : Int) % W2 = kx at *
      generalize (k : Int) / W2 = ky at *
      gi_wp2_with (refine ⟨trivial, ?_⟩; gi_at_call 43; refine (CallsIn.inRound l (callsIn_wide.2 (II.out _))).mono ?_; rintro e w3 ⟨rfl, hB3⟩)
      exact ⟨ko_below hB3, NS.out _ (di_below hI hB3) hin⟩
    · rw [hin] at II
      obtain ⟨q1, q2, q3, q4⟩ := (ins_iff _ _ _ _).1 hin
      have hp := pos_in ⟨q1, q2⟩ ⟨q3, q4⟩
      obtain ⟨j, hj⟩ : ∃ j : Nat, dY y W2 k * W + dX x W2 k = j := ⟨(dY y W2 k * W + dX x W2 k).toNat, by omega⟩
      have hjn : j < n := by have := HN.out; omega
      have hwp := wrap_pos (W := W) (H := H) (x := x) (y := y) (i := (k : Int) % W2) (j := (k : Int) / W2) rfl rfl ⟨q1, q2⟩ ⟨q3, q4⟩ hW.2 hH.2 hj
      unfold dX dY at II
      obtain ⟨b, rfl, h10, h11⟩ := h1 j hjn
      clear q1 q2 q3 q4 hp
      generalize (k : Int) % W2 = kx at *
      generalize (k : Int) / W2 = ky at *
      gi_wp2_with (refine ⟨trivial, ?_⟩; gi_at_call 43; refine (CallsIn.inRound l (callsIn_wide.2 (II.out _))).mono ?_; rintro e w3 ⟨rfl, hB3⟩; obtain ⟨g1, ⟨g20, g21, g22⟩, g3, g4, g5, g7⟩ := id (di_below hI hB3); obtain ⟨bb, ebb, g10, g11⟩ := g1 j hjn; cases ebb)
      exact ⟨(ko_below hB3).trans (KeepsOthers.setCell _ _ _), NX.out _ _ _ rfl (di_below hI hB3) hin hj hjn⟩
  case done =>
    rintro D V ⟨h1, h2, h3, h4, h5, h6⟩ hD hK
    have hle : w.heap.size ≤ D := by omega
    gi_wp2
    refine ⟨by simp, .inl ⟨_, _, rfl, run_takeDeferred hK, ?_⟩⟩
    exact ⟨_, results_none rfl _ _ _, rfl, oo_put _ hK rfl h1, h6.put hle _⟩
end Go.Proofs.Ytfkpodhkbcocmaa.Bm
