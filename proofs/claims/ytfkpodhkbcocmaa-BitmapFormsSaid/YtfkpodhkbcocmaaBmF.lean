/-
  Layer 4 (bitmap): countIf, Count, Only.
-/
import Derived.Test.YtfkpodhkbcocmaaBmE
namespace Go.Proofs.Ytfkpodhkbcocmaa.Bm
open Go.RowKit Go.Shelf
attribute [local go_sem] Oper.semAt_some
/-- Whether a dot of a counts in Only. -/
def alone (W H : Int) (n : Nat) (f : Nat → Bool) (dx dy fr ti x y : Int) : Bool := (decide (x < fr) || decide (ti ≤ x)) && !has W H n f (RowKit.wrap64 (x - dx)) (RowKit.wrap64 (y - dy))
def OBoxes (V : World) (Bx By Bf Bt Bb : Nat) (W H : Int) (a : Option Addr) (n c : Nat) (dx dy fr ti : Int) : Prop :=
  V.cell? ⟨Bf, 0, none⟩ = some (.int .i64 fr) ∧ V.cell? ⟨Bt, 0, none⟩ = some (.int .i64 ti) ∧ BoxAt V Bb W H a n c ∧ V.cell? ⟨Bx, 0, none⟩ = some (.int .i64 dx) ∧ V.cell? ⟨By, 0, none⟩ = some (.int .i64 dy)
theorem oboxes_below {V V' : World} {Bx By Bf Bt Bb : Nat} {W H : Int} {a : Option Addr} {n c : Nat} {dx dy fr ti : Int} {S : Nat} (h : OBoxes V Bx By Bf Bt Bb W H a n c dx dy fr ti) (hS : V.heap.size ≤ S) (hB : Below S V V') : OBoxes V' Bx By Bf Bt Bb W H a n c dx dy fr ti := by
  have hB' : Below V.heap.size V V' := hB.mono hS
  obtain ⟨h1, h2, h3, h4, h5⟩ := h
  exact ⟨kc hB' (block_lt_of_cell h1) h1, kc hB' (block_lt_of_cell h2) h2, boxat_below h3 hB', kc hB' (block_lt_of_cell h4) h4, kc hB' (block_lt_of_cell h5) h5⟩
set_option maxHeartbeats 2000000 in
theorem Only1_any (Bx By Bf Bt Bb : Nat) (W H : Int) (a : Option Addr) (n c : Nat) (f : Nat → Bool) (dx dy fr ti x y : Int) (w : World) (hb : OBoxes w Bx By Bf Bt Bb W H a n c dx dy fr ti) (hD : DA w a n f) :
    Calls Try.prog 46 #[.int .i64 x, .int .i64 y, .pointer (some ⟨Bf, 0, none⟩), .pointer (some ⟨Bt, 0, none⟩), .pointer (some ⟨Bb, 0, none⟩), .pointer (some ⟨Bx, 0, none⟩), .pointer (some ⟨By, 0, none⟩)] w fun e w' => e = .returned (.bool (alone W H n f dx dy fr ti x y)) ∧ Below w.heap.size w w' := by
  obtain ⟨hf, ht, ⟨c0, c1, c2⟩, hx, hy⟩ := hb
  have G := Lib.hid (Get_any W H a n c f (RowKit.wrap64 (x - dx)) (RowKit.wrap64 (y - dy)) w hD)
  unfold alone
  unfold bv at G
  generalize has W H n f (RowKit.wrap64 (x - dx)) (RowKit.wrap64 (y - dy)) = g at *
  by_cases h1 : x < fr
  · simp only [h1, decide_true, Bool.true_or, Bool.true_and]
    go_enter Try.func46, Try.ntmps46
    go_wp2_with fail
    refine G.out.mono ?_
    rintro e w1 ⟨rfl, hB⟩
    go_wp2
    go_ret
    exact ⟨rfl, hB⟩
  by_cases h2 : ti ≤ x
  · simp only [h1, h2, decide_true, decide_false, Bool.false_or, Bool.true_and]
    go_enter Try.func46, Try.ntmps46
    go_wp2_with fail
    refine G.out.mono ?_
    rintro e w1 ⟨rfl, hB⟩
    go_wp2
    go_ret
    exact ⟨rfl, hB⟩
  · simp only [h1, h2, decide_false, Bool.false_or, Bool.false_and]
    go_enter Try.func46, Try.ntmps46
    go_wp2
    go_ret
    exact ⟨rfl, Below.refl _ _⟩
theorem Count1_any (x y : Int) (w : World) :
    Calls Try.prog 38 #[.int .i64 x, .int .i64 y] w fun e w' => e = .returned (.bool true) ∧ Below w.heap.size w w' := by
  go_enter Try.func38, Try.ntmps38
  go_wp2
  go_ret
  exact ⟨rfl, Below.refl _ _⟩
/-- How many numbers below n fulfil p. -/
def cn (p : Nat → Bool) : Nat → Nat
  | 0 => 0
  | k + 1 => cn p k + (if p k then 1 else 0)
theorem cn_le (p : Nat → Bool) : ∀ k, cn p k ≤ k
  | 0 => Nat.le_refl _
  | k + 1 => by have := cn_le p k; unfold cn; split <;> omega
theorem cn_yes {p : Nat → Bool} {k : Nat} (h : p k = true) : cn p (k + 1) = cn p k + 1 := by rw [cn, if_pos h]
theorem cn_no {p : Nat → Bool} {k : Nat} (h : p k = false) : cn p (k + 1) = cn p k := by rw [cn, if_neg (by rw [h]; exact Bool.false_ne_true)]; rfl
/-- What countIf holds while it counts. -/
def CI (w : World) (fv : Value) (W H : Int) (a : Option Addr) (m c : Nat) (f q : Nat → Bool) (k : Nat) (V : World) : Prop :=
  V.cell? ⟨w.heap.size + 1 + 1, 0, none⟩ = some (.int .i64 (cn q k : Nat)) ∧ V.frozen? ⟨w.heap.size + 1 + 1, 0, none⟩ = false ∧
  V.cell? ⟨w.heap.size + 1, 0, none⟩ = some fv ∧ DMem (w.heap.size + 1 + 1 + 1) W H a m c f V ∧ Below w.heap.size w V
theorem ci_below {w : World} {fv : Value} {W H : Int} {a : Option Addr} {m c : Nat} {f q : Nat → Bool} {k : Nat} {V V' : World} (h : CI w fv W H a m c f q k V) (hB : Below V.heap.size V V') : CI w fv W H a m c f q k V' := by
  obtain ⟨h1, h2, h3, ⟨h4, h5⟩, h6⟩ := h
  exact ⟨kc hB (block_lt_of_cell h1) h1, kf hB (block_lt_of_cell h1) h2, kc hB (block_lt_of_cell h3) h3, ⟨boxat_below h4 hB, da_below h5 hB⟩, bt h6 hB⟩
theorem ko_below {V V' : World} (h : Below V.heap.size V V') : KeepsOthers V V' := ⟨h.size, fun k o hk _ => (h.block k (Array.getElem?_eq_some_iff.1 hk).1).trans hk⟩
theorem put_cell {W : World} {r : Nat} {o : Obj} (o' : Obj) {p : Addr} {v : Value} (ho : W.heap[r]? = some o) (hc : o.isCells = false) (h : W.cell? p = some v) : (W.putObj r o').cell? p = some v ∧ (W.putObj r o').frozen? p = W.frozen? p := by
  have hne : p.block ≠ r := by
    rintro rfl
    unfold World.cell? at h
    rw [ho] at h
    cases o <;> simp_all [Obj.isCells]
  have e : (W.putObj r o').heap[p.block]? = W.heap[p.block]? := World.putObj_heap_other hne
  exact ⟨by simpa only [World.cell?, e] using h, by simp only [World.frozen?, e]⟩
theorem put_da {W : World} {r : Nat} {o : Obj} (o' : Obj) {a : Option Addr} {n : Nat} {f : Nat → Bool} (ho : W.heap[r]? = some o) (hc : o.isCells = false) (h : DA W a n f) : DA (W.putObj r o') a n f := fun i hi => by
  obtain ⟨b, o, e, hcl⟩ := h i hi
  exact ⟨b, o, e, (put_cell o' ho hc hcl).1⟩
theorem put_box {W : World} {r : Nat} {o : Obj} (o' : Obj) {B : Nat} {x y : Int} {a : Option Addr} {n c : Nat} (ho : W.heap[r]? = some o) (hc : o.isCells = false) (h : BoxAt W B x y a n c) : BoxAt (W.putObj r o') B x y a n c :=
  ⟨(put_cell o' ho hc h.1).1, (put_cell o' ho hc h.2.1).1, (put_cell o' ho hc h.2.2).1⟩
theorem below_put {w W : World} (h : Below w.heap.size w W) {r : Nat} (hr : w.heap.size ≤ r) (o : Obj) : Below w.heap.size w (W.putObj r o) :=
  h.grown (grownBy_putObj' W r o) h.size (fun k hk => by cases hk; exact hr)
theorem ci_put {w : World} {fv : Value} {W H : Int} {a : Option Addr} {m c : Nat} {f q : Nat → Bool} {k : Nat} {V : World} {r : Nat} {o : Obj} (o' : Obj) (hr : w.heap.size ≤ r) (h : CI w fv W H a m c f q k V) (ho : V.heap[r]? = some o) (hc : o.isCells = false) : CI w fv W H a m c f q k (V.putObj r o') := by
  obtain ⟨h1, h2, h3, ⟨h4, h5⟩, h6⟩ := h
  exact ⟨(put_cell o' ho hc h1).1, (put_cell o' ho hc h1).2.trans h2, (put_cell o' ho hc h3).1, ⟨put_box o' ho hc h4, put_da o' ho hc h5⟩, below_put h6 hr o'⟩
theorem ci_next {w : World} {fv : Value} {W H : Int} {a : Option Addr} {m c : Nat} {f q : Nat → Bool} {k : Nat} {V V0 : World} (h : CI w fv W H a m c f q k V) (hw : Below w.heap.size w V0) (hb : ∀ i, i < m → ∃ b o, a = some ⟨b, o, none⟩ ∧ b < w.heap.size) (hp : q k = true) :
    CI w fv W H a m c f q (k + 1) (V.setCell ⟨w.heap.size + 1 + 1, 0, none⟩ (.int .i64 ((cn q k : Nat) + 1 : Int))) := by
  obtain ⟨h1, h2, h3, ⟨⟨h40, h41, h42⟩, h5⟩, h6⟩ := h
  refine ⟨?_, by go_cell, by go_cell, ⟨⟨by go_cell, by go_cell, by go_cell⟩, ?_⟩, bs h6 (by simp; omega) _⟩
  · rw [cn_yes hp]
    have : ((cn q k + 1 : Nat) : Int) = (cn q k : Nat) + 1 := by omega
    rw [this]
    go_cell
  · intro i hi
    obtain ⟨b, o, e, hc⟩ := h5 i hi
    obtain ⟨b', o', e', hlt⟩ := hb i hi
    rw [e] at e'
    cases e'
    have hne : ¬ w.heap.size + 1 + 1 = b := by omega
    exact ⟨b, o, e, by go_cell⟩
theorem ci_skip {w : World} {fv : Value} {W H : Int} {a : Option Addr} {m c : Nat} {f q : Nat → Bool} {k : Nat} {V : World} (h : CI w fv W H a m c f q k V) (hp : q k = false) : CI w fv W H a m c f q (k + 1) V := by
  obtain ⟨h1, h2, h3, h4, h6⟩ := h
  exact ⟨by rw [cn_no hp]; exact h1, h2, h3, h4, h6⟩
theorem addr_old {w : World} {a : Option Addr} {m : Nat} {f : Nat → Bool} (h : DA w a m f) : ∀ i, i < m → ∃ b o, a = some ⟨b, o, none⟩ ∧ b < w.heap.size := fun i hi => by
  obtain ⟨b, o, e, hc⟩ := h i hi
  exact ⟨b, o, e, block_lt_of_cell hc⟩
set_option maxRecDepth 100000 in
set_option maxHeartbeats 4000000 in
theorem countIf_all (W H : Int) (a : Option Addr) (m c : Nat) (f q : Nat → Bool) (hq0 : ∀ k, f k = false → q k = false) (hq1 : ∀ k, f k = true → q k = true) (w : World) (hD : DA w a m f) :
    Calls Try.prog 37 #[bv W H a m c, (.func (.func 38) #[] #[])] w fun e w' => e = .returned (.int .i64 (cn q (nd W H m) : Nat)) ∧ Below w.heap.size w w' := by
  refine (callsIn_wide (n := 5)).1 ?_
  have LV := Lib.hid (dots_any W H a m c)
  have hm9 : nd W H m ≤ 9216 := by
    unfold nd
    split
    · rename_i h
      obtain ⟨h1, h2, h3⟩ := (gd_iff W H m).1 h
      have := mul_side h1 h2
      omega
    · omega
  unfold bv at *
  refine callsIn_of_wp_marks Try.func37 rfl trivial ?_ rfl
  simp only [Try.ntmps37, List.size_toArray, List.length_cons, List.length_nil, Nat.reduceAdd, Nat.reduceSub, Array.replicate_succ, Array.replicate_zero, List.push_toArray, List.append_toArray, List.nil_append, List.cons_append]
  gi_wp2_with (refine ⟨trivial, ?_⟩; gi_at_call 48; refine (callsIn_wide.2 (LV.out _)).mono ?_; rintro e w1 ⟨rfl, rfl⟩)
  obtain ⟨W0, hW0⟩ : ∃ W0, ((((w.alloc (.cells #[.int .i64 W, .int .i64 H, .slice a m c] 28)).alloc (.cells #[(.func (.func 38) #[] #[])] 64)).alloc (.cells #[.int .i64 0] 3)).alloc (.cells #[.int .i64 W, .int .i64 H, .slice a m c] 28)) = W0 := ⟨_, rfl⟩
  have hB0 : Below w.heap.size w W0 := by rw [← hW0]; exact ba (ba (ba (ba (Below.refl _ _) _) _) _) _
  have h0 : CI w (.func (.func 38) #[] #[]) W H a m c f q 0 W0 := by
    have hDD := da_below hD hB0
    subst hW0
    exact ⟨by show World.cell? _ _ = some (Value.int IntKind.i64 0); go_cell, by go_cell, by go_cell, ⟨⟨by go_cell, by go_cell, by go_cell⟩, hDD⟩, hB0⟩
  have hs0 : W0.heap.size = w.heap.size + 1 + 1 + 1 + 1 := by rw [← hW0]; simp
  rw [hW0]
  clear hW0
  have hAl := addr_old hD
  have HDD := Lib.hid hD
  clear hD
  refine range_dots (n := 5) (gf := 51) (lb := #[.pointer (some ⟨w.heap.size + 1 + 1 + 1, 0, none⟩)]) (by omega) rfl (enters_of Try.func51 (by kernel_rfl) rfl) (fun k => rfl)
    (dots_gives 4 (by omega) W H a m c f (w.heap.size + 1 + 1 + 1)) (fun k V => CI w (.func (.func 38) #[] #[]) W H a m c f q k V) (fun h hB => ci_below h hB)
    (fun o' hr h ho hc => ci_put o' (by omega) h ho hc) (fun h => h.2.2.2.1) (fun h hk hf => ci_skip h (hq0 _ hf)) h0
    (fun k => { tmps := #[.agg #[.int .i64 W, .int .i64 H, .slice a m c], (.func (.func 38) #[] #[]), .pointer (some ⟨w.heap.size, 0, none⟩), .pointer (some ⟨w.heap.size + 1, 0, none⟩), .int .i64 0, .pointer (some ⟨w.heap.size + 1 + 1, 0, none⟩), .int .i64 ((k : Int) % W), .int .i64 ((k : Int) / W), .agg #[.int .i64 W, .int .i64 H, .slice a m c], .func (.func 51) #[] #[.pointer (some ⟨w.heap.size + 1 + 1 + 1, 0, none⟩)], .int .i64 ((k : Int) % W), .int .i64 ((k : Int) / W), undef, undef, undef, undef, undef, undef, undef], defers := [] }) ?assign ?body ?done
  case assign =>
    intro l k V K hK
    simp only [dargs]
    gi_wp2
    exact hK
  case body =>
    intro l k V hI hk hf
    obtain ⟨h1, h2, h3, h4, h5⟩ := id hI
    have hkm : k < 9216 := by omega
    have hcn := cn_le q k
    have NX := Lib.hid (fun hp => ci_next hI h5 hAl hp)
    have NS := Lib.hid (fun hp => ci_skip hI hp)
    have M := Lib.hid (Count1_any ((k : Int) % W) ((k : Int) / W) V)
    rw [show true = q k by rw [hq1 k hf]] at M
    generalize (k : Int) % W = kx at *
    generalize (k : Int) / W = ky at *
    rcases hqk : q k with _ | _
    · rw [hqk] at M
      gi_wp2_with (refine ⟨trivial, ?_⟩; gi_at_call 38; refine (CallsIn.inRound l (callsIn_wide.2 M.out)).mono ?_; rintro e w3 ⟨rfl, hB3⟩; obtain ⟨g1, g2, g3, g4, g5⟩ := id (ci_below hI hB3); replace NX := Lib.hid (fun hp => ci_next (ci_below hI hB3) h5 hAl hp); replace NS := Lib.hid (fun hp => ci_skip (ci_below hI hB3) hp))
      exact ⟨ko_below hB3, NS.out hqk⟩
    · rw [hqk] at M
      gi_wp2_with (refine ⟨trivial, ?_⟩; gi_at_call 38; refine (CallsIn.inRound l (callsIn_wide.2 M.out)).mono ?_; rintro e w3 ⟨rfl, hB3⟩; obtain ⟨g1, g2, g3, g4, g5⟩ := id (ci_below hI hB3); replace NX := Lib.hid (fun hp => ci_next (ci_below hI hB3) h5 hAl hp); replace NS := Lib.hid (fun hp => ci_skip (ci_below hI hB3) hp))
      exact ⟨(ko_below hB3).trans (KeepsOthers.setCell _ _ _), NX.out hqk⟩

  case done =>
    rintro D V ⟨h1, h2, h3, h4, h5⟩ hD hK
    have hle : w.heap.size ≤ D := by omega
    gi_wp2
    refine ⟨by simp, .inl ⟨_, _, rfl, run_takeDeferred hK, ?_⟩⟩
    exact ⟨_, results_tmp rfl _ _ _, rfl, below_put h5 hle _⟩
set_option maxRecDepth 100000 in
set_option maxHeartbeats 4000000 in
theorem countIf_only (W H : Int) (a : Option Addr) (m c : Nat) (f q : Nat → Bool) (Bx By Bf Bt Bb : Nat) (W2 H2 : Int) (a2 : Option Addr) (n2 c2 : Nat) (f2 : Nat → Bool) (dx dy fr ti : Int) (hq0 : ∀ k, f k = false → q k = false) (hq1 : ∀ k, f k = true → q k = alone W2 H2 n2 f2 dx dy fr ti ((k : Int) % W) ((k : Int) / W)) (w : World) (hD : DA w a m f) (ho : OBoxes w Bx By Bf Bt Bb W2 H2 a2 n2 c2 dx dy fr ti) (hD2 : DA w a2 n2 f2) :
    Calls Try.prog 37 #[bv W H a m c, (.func (.func 46) #[] #[.pointer (some ⟨Bf, 0, none⟩), .pointer (some ⟨Bt, 0, none⟩), .pointer (some ⟨Bb, 0, none⟩), .pointer (some ⟨Bx, 0, none⟩), .pointer (some ⟨By, 0, none⟩)])] w fun e w' => e = .returned (.int .i64 (cn q (nd W H m) : Nat)) ∧ Below w.heap.size w w' := by
  refine (callsIn_wide (n := 5)).1 ?_
  have LV := Lib.hid (dots_any W H a m c)
  have HO := Lib.hid ho
  have HD2 := Lib.hid hD2
  clear ho hD2
  have hm9 : nd W H m ≤ 9216 := by
    unfold nd
    split
    · rename_i h
      obtain ⟨h1, h2, h3⟩ := (gd_iff W H m).1 h
      have := mul_side h1 h2
      omega
    · omega
  unfold bv at *
  refine callsIn_of_wp_marks Try.func37 rfl trivial ?_ rfl
  simp only [Try.ntmps37, List.size_toArray, List.length_cons, List.length_nil, Nat.reduceAdd, Nat.reduceSub, Array.replicate_succ, Array.replicate_zero, List.push_toArray, List.append_toArray, List.nil_append, List.cons_append]
  gi_wp2_with (refine ⟨trivial, ?_⟩; gi_at_call 48; refine (callsIn_wide.2 (LV.out _)).mono ?_; rintro e w1 ⟨rfl, rfl⟩)
  obtain ⟨W0, hW0⟩ : ∃ W0, ((((w.alloc (.cells #[.int .i64 W, .int .i64 H, .slice a m c] 28)).alloc (.cells #[(.func (.func 46) #[] #[.pointer (some ⟨Bf, 0, none⟩), .pointer (some ⟨Bt, 0, none⟩), .pointer (some ⟨Bb, 0, none⟩), .pointer (some ⟨Bx, 0, none⟩), .pointer (some ⟨By, 0, none⟩)])] 64)).alloc (.cells #[.int .i64 0] 3)).alloc (.cells #[.int .i64 W, .int .i64 H, .slice a m c] 28)) = W0 := ⟨_, rfl⟩
  have hB0 : Below w.heap.size w W0 := by rw [← hW0]; exact ba (ba (ba (ba (Below.refl _ _) _) _) _) _
  have h0 : CI w (.func (.func 46) #[] #[.pointer (some ⟨Bf, 0, none⟩), .pointer (some ⟨Bt, 0, none⟩), .pointer (some ⟨Bb, 0, none⟩), .pointer (some ⟨Bx, 0, none⟩), .pointer (some ⟨By, 0, none⟩)]) W H a m c f q 0 W0 := by
    have hDD := da_below hD hB0
    subst hW0
    exact ⟨by show World.cell? _ _ = some (Value.int IntKind.i64 0); go_cell, by go_cell, by go_cell, ⟨⟨by go_cell, by go_cell, by go_cell⟩, hDD⟩, hB0⟩
  have hs0 : W0.heap.size = w.heap.size + 1 + 1 + 1 + 1 := by rw [← hW0]; simp
  rw [hW0]
  clear hW0
  have hAl := addr_old hD
  have HDD := Lib.hid hD
  clear hD
  refine range_dots (n := 5) (gf := 51) (lb := #[.pointer (some ⟨w.heap.size + 1 + 1 + 1, 0, none⟩)]) (by omega) rfl (enters_of Try.func51 (by kernel_rfl) rfl) (fun k => rfl)
    (dots_gives 4 (by omega) W H a m c f (w.heap.size + 1 + 1 + 1)) (fun k V => CI w (.func (.func 46) #[] #[.pointer (some ⟨Bf, 0, none⟩), .pointer (some ⟨Bt, 0, none⟩), .pointer (some ⟨Bb, 0, none⟩), .pointer (some ⟨Bx, 0, none⟩), .pointer (some ⟨By, 0, none⟩)]) W H a m c f q k V) (fun h hB => ci_below h hB)
    (fun o' hr h ho hc => ci_put o' (by omega) h ho hc) (fun h => h.2.2.2.1) (fun h hk hf => ci_skip h (hq0 _ hf)) h0
    (fun k => { tmps := #[.agg #[.int .i64 W, .int .i64 H, .slice a m c], (.func (.func 46) #[] #[.pointer (some ⟨Bf, 0, none⟩), .pointer (some ⟨Bt, 0, none⟩), .pointer (some ⟨Bb, 0, none⟩), .pointer (some ⟨Bx, 0, none⟩), .pointer (some ⟨By, 0, none⟩)]), .pointer (some ⟨w.heap.size, 0, none⟩), .pointer (some ⟨w.heap.size + 1, 0, none⟩), .int .i64 0, .pointer (some ⟨w.heap.size + 1 + 1, 0, none⟩), .int .i64 ((k : Int) % W), .int .i64 ((k : Int) / W), .agg #[.int .i64 W, .int .i64 H, .slice a m c], .func (.func 51) #[] #[.pointer (some ⟨w.heap.size + 1 + 1 + 1, 0, none⟩)], .int .i64 ((k : Int) % W), .int .i64 ((k : Int) / W), undef, undef, undef, undef, undef, undef, undef], defers := [] }) ?assign ?body ?done
  case assign =>
    intro l k V K hK
    simp only [dargs]
    gi_wp2
    exact hK
  case body =>
    intro l k V hI hk hf
    obtain ⟨h1, h2, h3, h4, h5⟩ := id hI
    have hkm : k < 9216 := by omega
    have hcn := cn_le q k
    have NX := Lib.hid (fun hp => ci_next hI h5 hAl hp)
    have NS := Lib.hid (fun hp => ci_skip hI hp)
    have M := Lib.hid (Only1_any Bx By Bf Bt Bb W2 H2 a2 n2 c2 f2 dx dy fr ti ((k : Int) % W) ((k : Int) / W) V (oboxes_below HO.out (Nat.le_refl _) h5) (da_below HD2.out h5))
    rw [show alone W2 H2 n2 f2 dx dy fr ti ((k : Int) % W) ((k : Int) / W) = q k by rw [hq1 k hf]] at M
    generalize (k : Int) % W = kx at *
    generalize (k : Int) / W = ky at *
    rcases hqk : q k with _ | _
    · rw [hqk] at M
      gi_wp2_with (refine ⟨trivial, ?_⟩; gi_at_call 46; refine (CallsIn.inRound l (callsIn_wide.2 M.out)).mono ?_; rintro e w3 ⟨rfl, hB3⟩; obtain ⟨g1, g2, g3, g4, g5⟩ := id (ci_below hI hB3); replace NX := Lib.hid (fun hp => ci_next (ci_below hI hB3) h5 hAl hp); replace NS := Lib.hid (fun hp => ci_skip (ci_below hI hB3) hp))
      exact ⟨ko_below hB3, NS.out hqk⟩
    · rw [hqk] at M
      gi_wp2_with (refine ⟨trivial, ?_⟩; gi_at_call 46; refine (CallsIn.inRound l (callsIn_wide.2 M.out)).mono ?_; rintro e w3 ⟨rfl, hB3⟩; obtain ⟨g1, g2, g3, g4, g5⟩ := id (ci_below hI hB3); replace NX := Lib.hid (fun hp => ci_next (ci_below hI hB3) h5 hAl hp); replace NS := Lib.hid (fun hp => ci_skip (ci_below hI hB3) hp))
      exact ⟨(ko_below hB3).trans (KeepsOthers.setCell _ _ _), NX.out hqk⟩

  case done =>
    rintro D V ⟨h1, h2, h3, h4, h5⟩ hD hK
    have hle : w.heap.size ≤ D := by omega
    gi_wp2
    refine ⟨by simp, .inl ⟨_, _, rfl, run_takeDeferred hK, ?_⟩⟩
    exact ⟨_, results_tmp rfl _ _ _, rfl, below_put h5 hle _⟩
/-- How many dots a bitmap has. -/
def count (W H : Int) (m : Nat) (f : Nat → Bool) : Nat := cn f (nd W H m)
def onlyQ (W H : Int) (f : Nat → Bool) (W2 H2 : Int) (n2 : Nat) (f2 : Nat → Bool) (dx dy fr ti : Int) (k : Nat) : Bool := f k && alone W2 H2 n2 f2 dx dy fr ti ((k : Int) % W) ((k : Int) / W)
def only (W H : Int) (m : Nat) (f : Nat → Bool) (W2 H2 : Int) (n2 : Nat) (f2 : Nat → Bool) (dx dy fr ti : Int) : Nat := cn (onlyQ W H f W2 H2 n2 f2 dx dy fr ti) (nd W H m)
set_option maxHeartbeats 2000000 in
theorem Count_any (W H : Int) (a : Option Addr) (m c : Nat) (f : Nat → Bool) (w : World) (hD : DA w a m f) :
    Calls Try.prog 12 #[bv W H a m c] w fun e w' => e = .returned (.int .i64 (count W H m f : Nat)) ∧ Below w.heap.size w w' := by
  have C := Lib.hid (countIf_all W H a m c f f (fun _ h => h) (fun _ h => h))
  unfold count
  generalize cn f (nd W H m) = z at *
  have HDD := Lib.hid hD
  clear hD
  unfold bv at *
  go_enter Try.func12, Try.ntmps12
  go_wp2_with fail
  refine (C.out _ (da_below HDD.out (ba (Below.refl _ _) _))).mono ?_
  rintro e w1 ⟨rfl, hB⟩
  go_wp2
  go_ret
  exact ⟨rfl, bt (ba (Below.refl _ _) _) hB⟩
set_option maxHeartbeats 2000000 in
theorem Only_any (W H : Int) (a : Option Addr) (m c : Nat) (f : Nat → Bool) (W2 H2 : Int) (a2 : Option Addr) (n2 c2 : Nat) (f2 : Nat → Bool) (dx dy fr ti : Int) (w : World) (hD : DA w a m f) (hD2 : DA w a2 n2 f2) :
    Calls Try.prog 30 #[bv W H a m c, bv W2 H2 a2 n2 c2, .int .i64 dx, .int .i64 dy, .int .i64 fr, .int .i64 ti] w fun e w' => e = .returned (.int .i64 (only W H m f W2 H2 n2 f2 dx dy fr ti : Nat)) ∧ Below w.heap.size w w' := by
  have C := Lib.hid (countIf_only W H a m c f (onlyQ W H f W2 H2 n2 f2 dx dy fr ti) (w.heap.size + 1 + 1) (w.heap.size + 1 + 1 + 1) (w.heap.size + 1 + 1 + 1 + 1) (w.heap.size + 1 + 1 + 1 + 1 + 1) (w.heap.size + 1) W2 H2 a2 n2 c2 f2 dx dy fr ti (fun k h => by unfold onlyQ; rw [h]; rfl) (fun k h => by unfold onlyQ; rw [h]; rfl))
  unfold only
  generalize cn (onlyQ W H f W2 H2 n2 f2 dx dy fr ti) (nd W H m) = z at *
  have HDD := Lib.hid hD
  have HD2 := Lib.hid hD2
  clear hD hD2
  unfold bv at *
  go_enter Try.func30, Try.ntmps30
  go_wp2_with fail
  refine (C.out _ (da_below HDD.out (ba (ba (ba (ba (ba (ba (Below.refl _ _) _) _) _) _) _) _)) ⟨by go_cell, by go_cell, ⟨by go_cell, by go_cell, by go_cell⟩, by go_cell, by go_cell⟩ (da_below HD2.out (ba (ba (ba (ba (ba (ba (Below.refl _ _) _) _) _) _) _) _))).mono ?_
  rintro e w1 ⟨rfl, hB⟩
  go_wp2
  go_ret
  exact ⟨rfl, bt (ba (ba (ba (ba (ba (ba (Below.refl _ _) _) _) _) _) _) _) hB⟩
end Go.Proofs.Ytfkpodhkbcocmaa.Bm
