/-
  Layer 4 (bitmap): Odd of the document's own.
-/
import Derived.Test.YtfkpodhkbcocmaaBmR
import Derived.Deep.AppendLies
import Derived.Deep.RegionHeldLaw
namespace Go.Proofs.Ytfkpodhkbcocmaa.Bm
open Go.RowKit
def bl (f : Nat → Bool) (n : Nat) : List Value := (List.range n).map (fun i => Value.bool (f i))
theorem bl_len (f : Nat → Bool) (n : Nat) : (bl f n).length = n := by unfold bl; simp
theorem bl_at (f : Nat → Bool) (n i : Nat) (h : i < n) : (bl f n)[i]? = some (.bool (f i)) := by unfold bl; simp [h]
theorem bl_get {f : Nat → Bool} {n j : Nat} {u : Value} (h : (bl f n)[j]? = some u) : j < n ∧ u = .bool (f j) := by
  have hj : j < n := by
    have := (List.getElem?_eq_some_iff.1 h).1
    rwa [bl_len] at this
  rw [bl_at f n j hj] at h
  exact ⟨hj, by simpa using h.symm⟩
/-- A slice of the call's own. -/
def OwnB (w : World) (S : Nat) (v : Value) (n : Nat) (f : Nat → Bool) : Prop := ∃ g cap, v = .slice (some ⟨g, 0, none⟩) n cap ∧ n ≤ cap ∧ S ≤ g ∧ g < w.heap.size ∧ w.ownsRow S 4 1 v n (bl f n)
theorem ownb_of {w : World} {S : Nat} {v : Value} {n : Nat} {f : Nat → Bool} (h : w.ownsRow S 4 1 v n (bl f n)) (hv : v ≠ .slice none 0 0) : OwnB w S v n f := by
  have h' := h
  obtain ⟨_, h2⟩ := h
  rcases h2 with ⟨h2, _⟩ | ⟨g, cap, cur, h2, hS, hh, hc, _⟩
  · exact absurd h2 hv
  · exact ⟨g, cap, h2, hc, hS, (Array.getElem?_eq_some_iff.1 hh).1, h'⟩
theorem ownb_da {w : World} {S g n cap : Nat} {f : Nat → Bool} (h : w.ownsRow S 4 1 (.slice (some ⟨g, 0, none⟩) n cap) n (bl f n)) : DA w (some ⟨g, 0, none⟩) n f := fun i hi =>
  ⟨g, 0, rfl, by rw [Nat.zero_add, h.cellAt i (by omega)]; exact bl_at f n i hi⟩
/-- append of dots to a slice of the call's own. -/
theorem run_app_bools (W : World) (S : Nat) (g0 c0 n m : Nat) (f h : Nat → Bool) (hv : W.ownsRow S 4 1 (.slice (some ⟨g0, 0, none⟩) n c0) n (bl f n)) (b c : Nat) (hD : DA W (some ⟨b, 0, none⟩) m h) (hn : n ≤ 100000) (hm : m ≤ 100000) (hS : S ≤ W.heap.size) (T : TypeId) :
    ∃ v' W', (Builtin.append_ #[26, 26] T #[.slice (some ⟨g0, 0, none⟩) n c0, .slice (some ⟨b, 0, none⟩) m c]).run Try.prog W = .ok v' W' ∧ OwnB W' S v' (n + m) (fun i => if i < n then f i else h (i - n)) ∧ FR W W' (some ⟨g0, 0, none⟩) ∧ (v'.ownBlock = some g0 ∨ v'.ownBlock = some W.heap.size) := by
  obtain ⟨i0, hi, hz0, hz1, hz2⟩ := info_parts infoB
  obtain ⟨v', W', hr, h2, h3, h4, h5'⟩ := run_append_own_at (P := Try.prog) W S 26 T 4 i0 _ 1 1 Try.underlying26 hi hz0 hz1 hz2 rfl (by decide) _ n _ hv ⟨b, 0, none⟩ m c (bl h m) (by rw [bl_len, Nat.mul_one])
    (fun j u hj => by
      obtain ⟨hjm, rfl⟩ := bl_get hj
      obtain ⟨b', o, e, hc⟩ := hD j hjm
      cases e
      rw [Nat.zero_add] at hc
      unfold Addr.add
      split
      · rename_i h0
        have h0' : j = 0 := by simpa using h0
        subst h0'
        exact hc
      · simpa using hc)
    (fun u hu => by
      unfold bl at hu
      rw [List.mem_map] at hu
      obtain ⟨i, _, rfl⟩ := hu
      rfl) (by unfold maxLen; omega) (by omega) hS
  have e : bl f n ++ bl h m = bl (fun i => if i < n then f i else h (i - n)) (n + m) := by
    apply List.ext_getElem?
    intro i
    rcases Nat.lt_or_ge i n with h1 | h1
    · rw [List.getElem?_append_left (by rw [bl_len]; exact h1), bl_at _ _ _ h1, bl_at _ _ _ (by omega), if_pos h1]
    · rw [List.getElem?_append_right (by rw [bl_len]; exact h1), bl_len]
      rcases Nat.lt_or_ge i (n + m) with h5 | h5
      · rw [bl_at _ _ _ (by omega), bl_at _ _ _ h5, if_neg (by omega)]
      · rw [List.getElem?_eq_none (by rw [bl_len]; omega), List.getElem?_eq_none (by rw [bl_len]; omega)]
  rw [e] at h2
  refine ⟨v', W', hr, ownb_of h2 (fun hc => by cases (h4.1 hc).1), ?_, h5'⟩
  exact ⟨h3.os, h3.tape, h3.output, h3.size, fun k hk hn => h3.block k hk (fun hb => hn _ rfl (by simpa [Value.ownBlock] using hb))⟩
/-- The empty slice that the call makes. -/
theorem own_empty (X : World) (S g0 : Nat) (f : Nat → Bool) (hS : S ≤ X.heap.size) (hg : g0 = X.heap.size) : (X.alloc (.cells #[] 4)).ownsRow S 4 1 (.slice (some ⟨g0, 0, none⟩) 0 0) 0 (bl f 0) := by
  subst hg
  exact World.ownsRow_lit X #[] 0 hS (Nat.zero_le _) rfl
theorem own_drew {w : World} {S n : Nat} {v : Value} {xs : List Value} (h : w.ownsRow S 4 1 v n xs) : w.drew.ownsRow S 4 1 v n xs := h
theorem alloc_le (V : World) (o : Obj) : V.heap.size ≤ (V.alloc o).heap.size := by simp
theorem step_odd {ops : Array Oper} {o : Oper} {a : Act} {V W : World} {K : Act → World → Prop} {Q : Exit → Act → World → Prop} {E : Prop} (g0 b n : Nat) (f : Nat → Bool) (hn : n ≤ 100000) (hBW : Below V.heap.size V W) (hg0 : V.heap.size ≤ g0)
    (hv : W.ownsRow V.heap.size 4 1 (.slice (some ⟨g0, 0, none⟩) 0 0) 0 (bl (fun _ => false) 0)) (HDV : DA V (some ⟨b, 0, none⟩) n f)
    (hgd : o.guard = none) (s x : Operand)
    (ho : o.op = .call { callee := .builtin .append, args := #[s, x], argTypes := #[26, 26] })
    (hs : a.eval s = .slice (some ⟨g0, 0, none⟩) 0 0) (hx : a.eval x = .slice (some ⟨b, 0, none⟩) n n)
    (hk : ∀ g cap W', n ≤ cap → V.heap.size ≤ g → g < W'.heap.size → W'.ownsRow V.heap.size 4 1 (.slice (some ⟨g, 0, none⟩) n cap) n (bl f n) → FR W W' (some ⟨g0, 0, none⟩) → Below V.heap.size V W' → (g = g0 ∨ g = W.heap.size) → K (a.put o.dst (.slice (some ⟨g, 0, none⟩) n cap)) W') :
    if Region.wanted o (yielded ops a.tmps) = true then Oper.wp Try.prog o a W K Q else E := by
  have hw : Region.wanted o (yielded ops a.tmps) = true := by simp [Region.wanted, hgd]
  rw [if_pos hw]
  obtain ⟨v', W', hr, ⟨g, cap, rfl, hcap, hSg, hlt, hown⟩, h3, h5'⟩ := run_app_bools W V.heap.size g0 0 0 n (fun _ => false) f hv b n (da_below HDV hBW) (by omega) hn hBW.size o.type
  unfold Oper.wp execOp
  simp only [ho, resolve, invoke, builtin, Sem.run_bind, Sem.run_pure, Result.andThen_ok, List.map_toArray, List.map_cons, List.map_nil, hs, hx, hr]
  have e : (fun i => if i < 0 then false else f (i - 0)) = f := by funext i; simp
  rw [Nat.zero_add] at hown hcap ⊢
  rw [e] at hown
  exact hk g cap W' hcap hSg hlt hown h3 (hBW.trans (h3.to_below hBW.size (fun q e => by cases e; exact hg0))) (by simpa [Value.ownBlock] using h5')
theorem one_true (V : World) (T : TypeId) : DA (V.alloc (.cells #[.bool true] T)) (some ⟨V.heap.size, 0, none⟩) 1 (fun _ => true) := fun i hi => ⟨_, 0, rfl, by
  obtain rfl : i = 0 := by omega
  go_cell⟩
/-- append of one dot, in a plain region. -/
theorem wpList_one {ops : Array Oper} {rest : List Oper} {o : Oper} {a : Act} {W : World} {Q : Exit → Act → World → Prop} (S g b n cap : Nat) (f : Nat → Bool) (hgd : o.guard = none) (s x : Operand)
    (ho : o.op = .call { callee := .builtin .append, args := #[s, x], argTypes := #[26, 26] })
    (hs : a.eval s = .slice (some ⟨g, 0, none⟩) n cap) (hx : a.eval x = .slice (some ⟨b, 0, none⟩) 1 1)
    (hv : W.ownsRow S 4 1 (.slice (some ⟨g, 0, none⟩) n cap) n (bl f n)) (hD : DA W (some ⟨b, 0, none⟩) 1 (fun _ => true)) (hn : n ≤ 100000) (hS : S ≤ W.heap.size)
    (hk : ∀ g' cap' W', n + 1 ≤ cap' → S ≤ g' → g' < W'.heap.size → W'.ownsRow S 4 1 (.slice (some ⟨g', 0, none⟩) (n + 1) cap') (n + 1) (bl (fun i => if i < n then f i else true) (n + 1)) → FR W W' (some ⟨g, 0, none⟩) → (g' = g ∨ g' = W.heap.size) →
      wpList Try.prog ops Q rest (a.put o.dst (.slice (some ⟨g', 0, none⟩) (n + 1) cap')) W') : wpList Try.prog ops Q (o :: rest) a W := by
  refine wpList_plain hgd fun _ hK => ?_
  obtain ⟨v', W', hr, ⟨g', cap', rfl, hcap, hSg, hlt, hown⟩, h3, h5'⟩ := run_app_bools W S g cap n 1 f (fun _ => true) hv b 1 hD hn (by omega) hS o.type
  unfold Oper.wp execOp
  simp only [ho, resolve, invoke, builtin, Sem.run_bind, Sem.run_pure, Result.andThen_ok, List.map_toArray, List.map_cons, List.map_nil, hs, hx, hr]
  exact hK _ _ (hk g' cap' W' hcap hSg hlt hown h3 (by simpa [Value.ownBlock] using h5'))
/-- The place of out, where it is made ahead of the append. -/
theorem out_first {V W W' : World} {z : Obj} {g0 Bo : Nat} (hF : FR W W' (some ⟨g0, 0, none⟩)) (hz : RZ W Bo) (hne : Bo ≠ g0) : RZ W' Bo := rz_fr hz hF (fun q e => by cases e; exact hne)
theorem rz_new (X : World) (T : TypeId) : RZ (X.alloc (.cells #[.int .i64 0, .int .i64 0, .slice none 0 0] T)) X.heap.size := ⟨⟨by go_cell, by go_cell, by go_cell⟩, by go_cell, by go_cell, by go_cell⟩
theorem rz_new2 (X : World) (T : TypeId) (o : Obj) : RZ ((X.alloc (.cells #[.int .i64 0, .int .i64 0, .slice none 0 0] T)).alloc o).drew X.heap.size := rz_below (rz_new X T) (bd1 (ba (Below.refl _ _) _))
theorem rz_new3 (X : World) (T : TypeId) (o : Obj) : RZ ((X.alloc o).alloc (.cells #[.int .i64 0, .int .i64 0, .slice none 0 0] T)).drew (X.heap.size + 1) := by
  have := rz_new (X.alloc o) T
  rw [World.size_alloc] at this
  exact this
theorem outB {V W' : World} {T : TypeId} {o : Obj} {g : Nat} (hF : FR ((V.alloc o).alloc (.cells #[.int .i64 0, .int .i64 0, .slice none 0 0] T)).drew W' (some ⟨V.heap.size, 0, none⟩)) (hg : g = V.heap.size ∨ g = ((V.alloc o).alloc (.cells #[.int .i64 0, .int .i64 0, .slice none 0 0] T)).drew.heap.size) : RZ W' (V.heap.size + 1) ∧ g ≠ V.heap.size + 1 := by
  refine ⟨out_first (V := V) (z := o) hF (rz_new3 V T o) (by omega), ?_⟩
  have : ((V.alloc o).alloc (.cells #[.int .i64 0, .int .i64 0, .slice none 0 0] T)).drew.heap.size = V.heap.size + 1 + 1 := by simp
  omega
theorem outC {V W' : World} {T : TypeId} {o : Obj} {g : Nat} (hF : FR ((V.alloc (.cells #[.int .i64 0, .int .i64 0, .slice none 0 0] T)).alloc o).drew W' (some ⟨V.heap.size + 1, 0, none⟩)) (hg : g = V.heap.size + 1 ∨ g = ((V.alloc (.cells #[.int .i64 0, .int .i64 0, .slice none 0 0] T)).alloc o).drew.heap.size) : RZ W' V.heap.size ∧ g ≠ V.heap.size := by
  refine ⟨out_first (V := V) (z := o) hF (rz_new2 V T o) (by omega), ?_⟩
  have : ((V.alloc (.cells #[.int .i64 0, .int .i64 0, .slice none 0 0] T)).alloc o).drew.heap.size = V.heap.size + 1 + 1 := by simp
  omega
theorem own_set {w : World} {S g n cap b k : Nat} {f : Nat → Bool} {v : Value} (h : w.ownsRow S 4 1 (.slice (some ⟨g, 0, none⟩) n cap) n (bl f n)) (hne : b ≠ g) : (w.setCell ⟨b, k, none⟩ v).ownsRow S 4 1 (.slice (some ⟨g, 0, none⟩) n cap) n (bl f n) := by
  obtain ⟨h1, h2⟩ := h
  refine ⟨h1, ?_⟩
  rcases h2 with ⟨h2, _⟩ | ⟨g', cap', cur, h2, hS, hh, hr⟩
  · cases h2
  · refine .inr ⟨g', cap', cur, h2, hS, ?_, hr⟩
    cases h2
    rw [← hh]
    exact Below.heap_setCell w ⟨b, k, none⟩ v g (fun e => hne e.symm)
/-- What stands behind the first statement of Odd. -/
def OCut (w : World) (W H : Int) (n : Nat) (f : Nat → Bool) (s5 : Value) (V : World) : Prop :=
  ∃ Bo g cap, s5 = .pointer (some ⟨Bo, 0, none⟩) ∧ n ≤ cap ∧ w.heap.size ≤ g ∧ g ≠ Bo ∧ w.heap.size + 1 < Bo ∧ w.heap.size + 1 < g ∧
    (V.cell? ⟨Bo, 0, none⟩ = some (.int .i64 W) ∧ V.cell? ⟨Bo, 1, none⟩ = some (.int .i64 H) ∧ V.cell? ⟨Bo, 2, none⟩ = some (.slice (some ⟨g, 0, none⟩) n cap)) ∧
    (V.frozen? ⟨Bo, 0, none⟩ = false ∧ V.frozen? ⟨Bo, 1, none⟩ = false ∧ V.frozen? ⟨Bo, 2, none⟩ = false) ∧
    V.ownsRow w.heap.size 4 1 (.slice (some ⟨g, 0, none⟩) n cap) n (bl f n) ∧ RZ V (w.heap.size + 1) ∧ Below w.heap.size w V
theorem own_mono {w : World} {S S' n : Nat} {v : Value} {xs : List Value} (h : w.ownsRow S 4 1 v n xs) (hS : S' ≤ S) : w.ownsRow S' 4 1 v n xs := by
  obtain ⟨h1, h2⟩ := h
  refine ⟨h1, ?_⟩
  rcases h2 with h2 | ⟨g, cap, cur, h2, hg, hr⟩
  · exact .inl h2
  · exact .inr ⟨g, cap, cur, h2, by omega, hr⟩
theorem ocut_alloc {w V W' : World} {W H : Int} {n g cap : Nat} {f : Nat → Bool} (hBV : Below w.heap.size w V) (hVs : w.heap.size + 1 < V.heap.size) (hz : RZ V (w.heap.size + 1)) (hcap : n ≤ cap) (hSg : V.heap.size ≤ g) (hglt : g < W'.heap.size)
    (hown : W'.ownsRow V.heap.size 4 1 (.slice (some ⟨g, 0, none⟩) n cap) n (bl f n)) (hBW : Below V.heap.size V W') (T : TypeId) :
    OCut w W H n f (.pointer (some ⟨W'.heap.size, 0, none⟩)) (W'.alloc (.cells #[.int .i64 W, .int .i64 H, .slice (some ⟨g, 0, none⟩) n cap] T)) :=
  ⟨W'.heap.size, g, cap, rfl, hcap, by omega, by omega, by omega, by omega, ⟨by go_cell, by go_cell, by go_cell⟩, ⟨by go_cell, by go_cell, by go_cell⟩, (own_mono hown (by omega)).alloc _, rz_below hz (ba hBW _), ba (bt hBV hBW) _⟩
theorem ocut_set {w V W' : World} {W H : Int} {n g cap Bo : Nat} {f : Nat → Bool} (hBV : Below w.heap.size w V) (hVs : w.heap.size + 1 < V.heap.size) (hz : RZ V (w.heap.size + 1)) (hcap : n ≤ cap) (hSg : V.heap.size ≤ g)
    (hown : W'.ownsRow V.heap.size 4 1 (.slice (some ⟨g, 0, none⟩) n cap) n (bl f n)) (hBW : Below V.heap.size V W') (hBo : V.heap.size ≤ Bo) (hne : g ≠ Bo) (hRZ : RZ W' Bo) :
    OCut w W H n f (.pointer (some ⟨Bo, 0, none⟩)) (((W'.setCell ⟨Bo, 0, none⟩ (.int .i64 W)).setCell ⟨Bo, 1, none⟩ (.int .i64 H)).setCell ⟨Bo, 2, none⟩ (.slice (some ⟨g, 0, none⟩) n cap)) := by
  obtain ⟨⟨o0, o1, o2⟩, oz0, oz1, oz2⟩ := hRZ
  exact ⟨Bo, g, cap, rfl, hcap, by omega, hne, by omega, by omega, ⟨by go_cell, by go_cell, by go_cell⟩, ⟨by go_cell, by go_cell, by go_cell⟩, own_set (own_set (own_set (own_mono hown (by omega)) (Ne.symm hne)) (Ne.symm hne)) (Ne.symm hne),
    rz_below hz (bs (bs (bs hBW hBo _) hBo _) hBo _), bs (bs (bs (bt hBV hBW) (by simp only; omega) _) (by simp only; omega) _) (by simp only; omega) _⟩
def OddPost (w : World) (e : Ending) (w' : World) : Prop :=
  ∃ (W H : Int) (g n c : Nat) (f : Nat → Bool), e = .returned (bv W H (some ⟨g, 0, none⟩) n c) ∧ R64 W ∧ R64 H ∧ n ≤ 1000 ∧ n ≤ c ∧ w.heap.size ≤ g ∧ DA w' (some ⟨g, 0, none⟩) n f ∧ Below w.heap.size w w'
theorem odd_done {w V : World} {X Y : Int} {g n c m cap : Nat} {f : Nat → Bool} (hX : R64 X) (hY : R64 Y) (hm : m ≤ n) (hn : n ≤ 1000) (hc : m ≤ c) (hg : w.heap.size ≤ g) (hown : V.ownsRow w.heap.size 4 1 (.slice (some ⟨g, 0, none⟩) n cap) n (bl f n)) (hB : Below w.heap.size w V) :
    OddPost w (.returned (.agg #[.int .i64 X, .int .i64 Y, .slice (some ⟨g, 0, none⟩) m c])) V :=
  ⟨X, Y, g, m, c, f, rfl, hX, hY, by omega, hc, hg, fun i hi => ownb_da hown i (by omega), hB⟩
theorem ew_odd (w : World) (W H : Int) (b n : Nat) : (((w.alloc (.cells #[.int .i64 W, .int .i64 H, .slice (some ⟨b, 0, none⟩) n n] 28)).alloc (.cells #[.int .i64 0, .int .i64 0, .slice none 0 0] 28)).cell? ⟨w.heap.size, 0, none⟩ = some (.int .i64 W) ∧
    ((w.alloc (.cells #[.int .i64 W, .int .i64 H, .slice (some ⟨b, 0, none⟩) n n] 28)).alloc (.cells #[.int .i64 0, .int .i64 0, .slice none 0 0] 28)).cell? ⟨w.heap.size, 1, none⟩ = some (.int .i64 H) ∧
    ((w.alloc (.cells #[.int .i64 W, .int .i64 H, .slice (some ⟨b, 0, none⟩) n n] 28)).alloc (.cells #[.int .i64 0, .int .i64 0, .slice none 0 0] 28)).cell? ⟨w.heap.size, 2, none⟩ = some (.slice (some ⟨b, 0, none⟩) n n)) ∧
    RZ ((w.alloc (.cells #[.int .i64 W, .int .i64 H, .slice (some ⟨b, 0, none⟩) n n] 28)).alloc (.cells #[.int .i64 0, .int .i64 0, .slice none 0 0] 28)) (w.heap.size + 1) ∧
    w.heap.size + 1 < ((w.alloc (.cells #[.int .i64 W, .int .i64 H, .slice (some ⟨b, 0, none⟩) n n] 28)).alloc (.cells #[.int .i64 0, .int .i64 0, .slice none 0 0] 28)).heap.size :=
  ⟨⟨by go_cell, by go_cell, by go_cell⟩, ⟨⟨by go_cell, by go_cell, by go_cell⟩, by go_cell, by go_cell, by go_cell⟩, by simp⟩
set_option maxRecDepth 100000 in
set_option maxHeartbeats 4000000 in
theorem Odd_any (W H : Nat) (b n : Nat) (f : Nat → Bool) (hW : W ≤ 16) (hH : H ≤ 12) (hn : n ≤ 192) (q : Int) (hq : R64 q) (w : World) (hD : DA w (some ⟨b, 0, none⟩) n f) :
    Calls Try.prog 34 #[bv W H (some ⟨b, 0, none⟩) n n, .int .i64 q] w (OddPost w) := by
  have HD := Lib.hid hD
  have MD := Lib.hid (mod_any q 6 hq (by omega))
  obtain ⟨r, hr, hr6⟩ : ∃ r : Nat, q % 6 = r ∧ r < 6 := ⟨(q % 6).toNat, by omega, by omega⟩
  rw [hr] at MD
  clear hD hr
  unfold bv
  go_enter Try.func34, Try.ntmps34
  go_wp2_with fail
  have HS := ew_odd w W H b n
  have hBV : Below w.heap.size w ((w.alloc (.cells #[.int .i64 W, .int .i64 H, .slice (some ⟨b, 0, none⟩) n n] 28)).alloc (.cells #[.int .i64 0, .int .i64 0, .slice none 0 0] 28)) := ba (ba (Below.refl _ _) _) _
  generalize ((w.alloc (.cells #[.int .i64 W, .int .i64 H, .slice (some ⟨b, 0, none⟩) n n] 28)).alloc (.cells #[.int .i64 0, .int .i64 0, .slice none 0 0] 28)) = V at *
  obtain ⟨⟨x0, x1, x2⟩, hz, hVs⟩ := HS
  have HDV := Lib.hid (da_below HD.out hBV)
  go_upto_region 2 with (fail)
  go_cut [5] (fun s5 V => OCut w W H n f s5 V)
  case first =>
    have a0 : ∀ w', Below V.heap.size V w' → w'.cell? ⟨w.heap.size, 0, none⟩ = some (.int .i64 W) := fun _ h => kc h (by omega) x0
    have a1 : ∀ w', Below V.heap.size V w' → w'.cell? ⟨w.heap.size, 1, none⟩ = some (.int .i64 H) := fun _ h => kc h (by omega) x1
    have a2 : ∀ w', Below V.heap.size V w' → w'.cell? ⟨w.heap.size, 2, none⟩ = some (.slice (some ⟨b, 0, none⟩) n n) := fun _ h => kc h (by omega) x2
    clear x0 x1 x2
    go_region_held_law (fun w' => Below V.heap.size V w') (first
      | (with_reducible exact bd1 (Below.refl _ _))
      | (with_reducible exact bd1 (ba (Below.refl _ _) _))
      | (with_reducible exact bd1 (ba (ba (Below.refl _ _) _) _))
      | (with_reducible assumption)
      | (with_reducible exact ba (by assumption) _)
      | (with_reducible exact bs (bs (bs (by assumption) (Nat.le_refl _) _) (Nat.le_refl _) _) (Nat.le_refl _) _)
      | (with_reducible exact bs (bs (bs (by assumption) (Nat.le_succ _) _) (Nat.le_succ _) _) (Nat.le_succ _) _)
      | (with_reducible exact bs (bs (bs (ba (by assumption) _) (Below.size (by assumption)) _) (Below.size (by assumption)) _) (Below.size (by assumption)) _))
      (first
      | (refine step_odd _ b n f (by omega) (bd1 (ba (Below.refl _ V) _)) (Nat.le_refl _) (own_drew (own_empty V _ _ _ (Nat.le_refl _) rfl)) HDV.out (by rfl) _ _ (by rfl) (by rfl) (by rfl) ?_; intro g cap W' hcap hSg hglt hown hF hBW hgg)
      | (refine step_odd _ b n f (by omega) (bd1 (ba (ba (Below.refl _ V) _) _)) (Nat.le_refl _) (own_drew ((own_empty V _ _ _ (Nat.le_refl _) rfl).alloc _)) HDV.out (by rfl) _ _ (by rfl) (by rfl) (by rfl) ?_; intro g cap W' hcap hSg hglt hown hF hBW hgg; obtain ⟨hRZ, hne⟩ := outB hF hgg; obtain ⟨⟨o0, o1, o2⟩, oz0, oz1, oz2⟩ := id hRZ)
      | (refine step_odd _ b n f (by omega) (bd1 (ba (ba (Below.refl _ V) _) _)) (Nat.le_succ _) (own_drew (own_empty (V.alloc _) _ _ _ (alloc_le V _) (World.size_alloc _ _).symm)) HDV.out (by rfl) _ _ (by rfl) (by rfl) (by rfl) ?_; intro g cap W' hcap hSg hglt hown hF hBW hgg; obtain ⟨hRZ, hne⟩ := outC hF hgg; obtain ⟨⟨o0, o1, o2⟩, oz0, oz1, oz2⟩ := id hRZ)
      )
    all_goals (go_wp2_with fail; go_meet)
    · exact ocut_alloc hBV hVs hz hcap hSg hglt hown hBW _
    · exact ocut_set hBV hVs hz hcap hSg hown hBW (Nat.le_succ _) hne hRZ
    · exact ocut_set hBV hVs hz hcap hSg hown hBW (Nat.le_refl _) hne hRZ
  case rest =>
    clear hBV x0 x1 x2 hz hVs HDV
    obtain ⟨Bo, g, cap, rfl, hcap, hSg, hgB, hlB, hlg, ⟨y0, y1, y2⟩, ⟨yz0, yz1, yz2⟩, hown, hz, hB⟩ := hcut
    rename World => V1
    obtain ⟨⟨r0, r1, r2⟩, rz0, rz1, rz2⟩ := id hz
    have e1 : ¬ Bo = w.heap.size + 1 := by omega
    have e2 : ¬ Bo = g := fun h => hgB h.symm
    have e3 : ¬ w.heap.size + 1 = g := by omega
    go_wp2_with fail
    refine (MD.out _).mono ?_
    rintro e w2 ⟨rfl, rfl⟩
    clear HD MD
    obtain rfl | rfl | rfl | rfl | rfl | rfl : r = 0 ∨ r = 1 ∨ r = 2 ∨ r = 3 ∨ r = 4 ∨ r = 5 := by omega
    · go_wp2
      refine bodyPost_ret (v := .agg #[.int .i64 ((W : Int) + 1), .int .i64 H, .slice (some ⟨g, 0, none⟩) n cap]) (by simp [results, Try.results34, go_sem, r0, r1, r2]) rfl ?_
      refine odd_done (n := n) (cap := cap) (f := f) ?_ ?_ (by omega) (by omega) (by omega) hSg ?_ ?_
      · first | exact hq | exact ⟨by omega, by omega⟩
      · first | exact hq | exact ⟨by omega, by omega⟩
      · (repeat (refine own_set ?_ (by omega)))
        exact hown
      · (repeat (refine bs ?_ (by simp only; omega) _))
        exact hB
    · go_wp2
      refine bodyPost_ret (v := .agg #[.int .i64 W, .int .i64 q, .slice (some ⟨g, 0, none⟩) n cap]) (by simp [results, Try.results34, go_sem, r0, r1, r2]) rfl ?_
      refine odd_done (n := n) (cap := cap) (f := f) ?_ ?_ (by omega) (by omega) (by omega) hSg ?_ ?_
      · first | exact hq | exact ⟨by omega, by omega⟩
      · first | exact hq | exact ⟨by omega, by omega⟩
      · (repeat (refine own_set ?_ (by omega)))
        exact hown
      · (repeat (refine bs ?_ (by simp only; omega) _))
        exact hB
    · have hDO := one_true w2 4
      have hlt : w.heap.size ≤ w2.heap.size := hB.size
      have hBv := block_lt_of_cell y0
      have hBr := block_lt_of_cell r0
      go_wp2_with (at_builtin; refine wpList_one w.heap.size g w2.heap.size n cap f rfl _ _ rfl rfl rfl (hown.alloc _) hDO (by omega) (by simp only [World.size_alloc]; omega) ?_; intro g' cap' W' hcap' hSg' hglt' hown' hF hgg'; obtain ⟨y0', y0z'⟩ := hF.cell (b := Bo) (o := 0) (v := .int .i64 W) (by go_cell) (fun q e => by cases e; exact e2); obtain ⟨y1', y1z'⟩ := hF.cell (b := Bo) (o := 1) (v := .int .i64 H) (by go_cell) (fun q e => by cases e; exact e2); obtain ⟨y2', y2z'⟩ := hF.cell (b := Bo) (o := 2) (v := .slice (some ⟨g, 0, none⟩) n cap) (by go_cell) (fun q e => by cases e; exact e2); obtain ⟨r0', r0z'⟩ := hF.cell (b := (w.heap.size + 1)) (o := 0) (v := .int .i64 0) (by go_cell) (fun q e => by cases e; exact e3); obtain ⟨r1', r1z'⟩ := hF.cell (b := (w.heap.size + 1)) (o := 1) (v := .int .i64 0) (by go_cell) (fun q e => by cases e; exact e3); obtain ⟨r2', r2z'⟩ := hF.cell (b := (w.heap.size + 1)) (o := 2) (v := .slice none 0 0) (by go_cell) (fun q e => by cases e; exact e3); replace y0z' := y0z'.trans (by go_cell : _ = false); replace y1z' := y1z'.trans (by go_cell : _ = false); replace y2z' := y2z'.trans (by go_cell : _ = false); replace r0z' := r0z'.trans (by go_cell : _ = false); replace r1z' := r1z'.trans (by go_cell : _ = false); replace r2z' := r2z'.trans (by go_cell : _ = false); have hBW : Below w.heap.size w W' := (ba hB _).trans (hF.to_below (by simp only [World.size_alloc]; omega) (fun q e => by cases e; exact hSg)); have hne' : ¬ g' = Bo := (by rcases hgg' with h | h; exact fun e => e2 (e.symm.trans h); exact fun e => by rw [h, World.size_alloc] at e; omega); have hne2' : ¬ g' = w.heap.size + 1 := (by rcases hgg' with h | h; exact fun e => e3 (e.symm.trans h); exact fun e => by rw [h, World.size_alloc] at e; omega); clear hgg' hF hDO y0 y1 y2 r0 r1 r2 hB)
      refine bodyPost_ret (v := .agg #[.int .i64 W, .int .i64 H, .slice (some ⟨g', 0, none⟩) (n + 1) cap']) (by simp [results, Try.results34, go_sem, r0', r1', r2']) rfl ?_
      refine odd_done (n := n + 1) (cap := cap') (f := fun i => if i < n then f i else true) ?_ ?_ (by omega) (by omega) (by omega) hSg' ?_ ?_
      · exact ⟨by omega, by omega⟩
      · exact ⟨by omega, by omega⟩
      · (repeat (refine own_set ?_ (by omega)))
        exact hown'
      · (repeat (refine bs ?_ (by simp only; omega) _))
        exact hBW
    · obtain ⟨m, hm⟩ : ∃ m, n / 2 = m := ⟨_, rfl⟩
      have m1 : (n : Int) / 2 = m := by omega
      have m2 : (n : Int).tdiv 2 = m := by rw [Int.tdiv_eq_ediv_of_nonneg (by omega)]; exact m1
      have m3 : (m : Int) ≤ n := by omega
      have m4 : (m : Int) ≤ cap := by omega
      clear hm
      go_wp2_with fail
      refine bodyPost_ret (v := .agg #[.int .i64 W, .int .i64 H, .slice (some ⟨g, 0, none⟩) m cap]) (by simp [results, Try.results34, go_sem, r0, r1, r2]) rfl ?_
      refine odd_done (n := n) (cap := cap) (f := f) ?_ ?_ (by omega) (by omega) (by omega) hSg ?_ ?_
      · first | exact hq | exact ⟨by omega, by omega⟩
      · first | exact hq | exact ⟨by omega, by omega⟩
      · (repeat (refine own_set ?_ (by omega)))
        exact hown
      · (repeat (refine bs ?_ (by simp only; omega) _))
        exact hB
    · go_wp2
      refine bodyPost_ret (v := .agg #[.int .i64 (-(W : Int)), .int .i64 (-(H : Int)), .slice (some ⟨g, 0, none⟩) n cap]) (by simp [results, Try.results34, go_sem, r0, r1, r2]) rfl ?_
      refine odd_done (n := n) (cap := cap) (f := f) ?_ ?_ (by omega) (by omega) (by omega) hSg ?_ ?_
      · first | exact hq | exact ⟨by omega, by omega⟩
      · first | exact hq | exact ⟨by omega, by omega⟩
      · (repeat (refine own_set ?_ (by omega)))
        exact hown
      · (repeat (refine bs ?_ (by simp only; omega) _))
        exact hB
    · go_wp2
      refine bodyPost_ret (v := .agg #[.int .i64 W, .int .i64 H, .slice (some ⟨g, 0, none⟩) n cap]) (by simp [results, Try.results34, go_sem, r0, r1, r2]) rfl ?_
      refine odd_done (n := n) (cap := cap) (f := f) ?_ ?_ (by omega) (by omega) (by omega) hSg ?_ ?_
      · first | exact hq | exact ⟨by omega, by omega⟩
      · first | exact hq | exact ⟨by omega, by omega⟩
      · (repeat (refine own_set ?_ (by omega)))
        exact hown
      · (repeat (refine bs ?_ (by simp only; omega) _))
        exact hB
end Go.Proofs.Ytfkpodhkbcocmaa.Bm
