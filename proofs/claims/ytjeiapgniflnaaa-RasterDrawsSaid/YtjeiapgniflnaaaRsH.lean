/-
  Layer 7 (raster): turns of the program.
-/
import Derived.Test.YtjeiapgniflnaaaRsG
import Derived.Test.YtjeiapgniflnaaaOtTwo
import Derived.Test.YtjeiapgniflnaaaRsR
import Derived.Test.YtjeiapgniflnaaaRsC
namespace Go.Proofs.Ytjeiapgniflnaaa.Rs
open Go.RowKit Go.Shelf
open Go.Proofs.Ytjeiapgniflnaaa.Ot
attribute [local go_sem] Oper.semAt_some
/-- Integers in a block of their own, which may be written. -/
def OI (w : World) (b n : Nat) (f : Nat → Int) : Prop := ∀ i, i < n → w.cell? ⟨b, i, none⟩ = some (.int .i64 (f i)) ∧ w.frozen? ⟨b, i, none⟩ = false
theorem oi_below {w W : World} {b n : Nat} {f : Nat → Int} (h : OI w b n f) (hB : Below w.heap.size w W) : OI W b n f := fun i hi =>
  ⟨kc hB (h i hi).1, kf hB (h i hi).1 (h i hi).2⟩
theorem oi_congr {w : World} {b n : Nat} {f g : Nat → Int} (h : OI w b n f) (e : ∀ i, i < n → f i = g i) : OI w b n g := fun i hi => by rw [← e i hi]; exact h i hi
theorem oi_set {w : World} {b n k : Nat} {f g : Nat → Int} {v : Int} (h : OI w b n f) (hk : k < n) (e : ∀ i, g i = if i = k then v else f i) : OI (w.setCell ⟨b, k, none⟩ (.int .i64 v)) b n g := fun i hi => by
  obtain ⟨h1, h2⟩ := h i hi
  obtain ⟨h3, h4⟩ := h k hk
  rw [e]
  by_cases hik : i = k
  · subst hik
    rw [if_pos rfl]
    exact ⟨by go_cell, by go_cell⟩
  · rw [if_neg hik]
    have n1 : ¬ k = i := fun e => hik e.symm
    exact ⟨by go_cell, by go_cell⟩
theorem oi_other {w : World} {b b' n k : Nat} {f : Nat → Int} {v : Value} (h : OI w b n f) (hne : b ≠ b') : OI (w.setCell ⟨b', k, none⟩ v) b n f := fun i hi => by
  obtain ⟨h1, h2⟩ := h i hi
  have hne2 : ¬ b' = b := fun h => hne h.symm
  exact ⟨by go_cell, by go_cell⟩
theorem oi_put {W : World} {r : Nat} {o : Obj} (o' : Obj) {b n : Nat} {f : Nat → Int} (ho : W.heap[r]? = some o) (hc : o.isCells = false) (h : OI W b n f) : OI (W.putObj r o') b n f := fun i hi =>
  ⟨(put_cell o' ho hc (h i hi).1).1, (put_cell o' ho hc (h i hi).1).2.trans (h i hi).2⟩
theorem infoI : (Try.prog.info? 3).map (fun i => (i.zero, i.size, i.bytes)) = some (some (.int .i64 0), 1, 8) := by kernel_rfl
theorem oi_made {W : World} {n₀ b m : Nat} (h : W.ownsRow n₀ 3 1 (.slice (some ⟨b, 0, none⟩) m m) m (madeCells #[.int .i64 0] (m * 1)).toList) : OI W b m (fun _ => 0) := by
  intro i hi
  have hlt : i < m * 1 := by omega
  refine ⟨?_, h.frozenAt _⟩
  rw [h.cellAt _ hlt]
  simp only [madeCells, Array.toList_map, Array.toList_range, List.getElem?_map, List.getElem?_range hlt, Option.map_some, List.size_toArray, List.length_cons, List.length_nil, Nat.zero_add, Nat.mod_one]
  rfl
theorem make_ints (W : World) (n : Nat) (h : n ≤ 100000) : ∃ W', (Instr.makeSlice 33 (.int .i64 (n : Int)) (.int .i64 (n : Int))).run Try.prog W = .ok (.slice (some ⟨W.heap.size, 0, none⟩) n n) W' ∧ OI W' W.heap.size n (fun _ => 0) ∧ Below W.heap.size W W' ∧ W.heap.size < W'.heap.size := by
  obtain ⟨i0, hi, hz0, hz1, hz2⟩ := info_parts infoI
  obtain ⟨w1, hmk, hown, hgr⟩ := run_make_full (P := Try.prog) W W.heap.size 33 3 i0 _ 1 Try.underlying33 hi hz0 hz1 .i64 .i64 n (by rw [hz2]; omega) (by unfold maxLen; omega) (Nat.le_refl _)
  exact ⟨w1, hmk, oi_made hown, below_none hgr, row_lt hown⟩
/-- A picture. -/
def pv (Le Lo : Int) (W H : Nat) (d : Option Addr) (n c : Nat) : Value := .agg #[.int .i64 Le, .int .i64 Lo, .int .i64 (W : Int), .int .i64 (H : Int), .slice d n c]
theorem columns_any (Le Lo : Int) (W H : Nat) (d : Option Addr) (n c : Nat) (hW : W ≤ 96) (w : World) :
    Calls Try.prog 50 #[pv Le Lo W H d n c] w fun e w' => e = .returned (.int .i64 (2 * (W : Int) + 1)) ∧ Below w.heap.size w w' := by
  unfold pv
  have e1 : wrap64 (2 * (W : Int)) = 2 * (W : Int) := w_id (by omega)
  have e2 : wrap64 (2 * (W : Int) + 1) = 2 * (W : Int) + 1 := w_id (by omega)
  go_enter Try.func50, Try.ntmps50
  go_wp2_with fail
  go_ret
  exact ⟨by first | rfl | (rw [e2]; rfl), ba (Below.refl _ _) _⟩
set_option maxHeartbeats 2000000 in
theorem firstBeyond_any (n u : Int) (hu : isU u = true) (hn : -4000000000 ≤ n ∧ n ≤ 4000000000) (w : World) :
    Calls Try.prog 58 #[.int .i64 n, .int .i64 u] w fun e w' => e = .returned (.int .i64 (fb n u)) ∧ Below w.heap.size w w' := by
  obtain ⟨u1, u2, u3⟩ := (isU_iff u).1 hu
  obtain ⟨d1, d2, d3, d4, d5, d6⟩ := rs_div (u := u) ⟨u1, u2⟩
  have F := Lib.hid (fun w => floor_any (n + u / 4) (u / 2) (by omega) (by omega) w)
  have e1 : wrap64 (n + u / 4) = n + u / 4 := w_id (by omega)
  unfold fb
  clear hu u1 u2 u3 hn
  go_enter Try.func58, Try.ntmps58
  go_wp2_with ((with_reducible refine (F.out _).mono ?_); rintro e w1 ⟨rfl, rfl⟩)
  go_ret
  exact ⟨rfl, Below.refl _ _⟩
theorem new1 (V : World) (v : Value) (T : TypeId) : (V.alloc (.cells #[v] T)).cell? ⟨V.heap.size, 0, none⟩ = some v ∧ (V.alloc (.cells #[v] T)).frozen? ⟨V.heap.size, 0, none⟩ = false := ⟨by go_cell, by go_cell⟩
theorem new1d (V : World) (v : Value) (T : TypeId) : (V.alloc (.cells #[v] T)).drew.cell? ⟨V.heap.size, 0, none⟩ = some v ∧ (V.alloc (.cells #[v] T)).drew.frozen? ⟨V.heap.size, 0, none⟩ = false := ⟨by go_cell, by go_cell⟩
/-- What turns has laid before its loop. -/
def TuS (w : World) (bs b7 M : Nat) (u Le Lo : Int) (W H : Nat) (d : Option Addr) (dn dc : Nat) (V : World) : Prop :=
  (V.cell? ⟨b7, 0, none⟩ = some (.slice (some ⟨bs, 0, none⟩) M M) ∧ V.cell? ⟨w.heap.size, 0, none⟩ = some (.int .i64 u) ∧
   (V.cell? ⟨w.heap.size + 1, 0, none⟩ = some (.int .i64 Le) ∧ V.cell? ⟨w.heap.size + 1, 1, none⟩ = some (.int .i64 Lo) ∧ V.cell? ⟨w.heap.size + 1, 2, none⟩ = some (.int .i64 (W : Int)) ∧ V.cell? ⟨w.heap.size + 1, 3, none⟩ = some (.int .i64 (H : Int)) ∧ V.cell? ⟨w.heap.size + 1, 4, none⟩ = some (.slice d dn dc))) ∧
  Below w.heap.size w V
theorem fb_in {u : Int} (h : isU u = true) {n : Int} (hn : -4000000000 ≤ n ∧ n ≤ 4000000000) : -4300000000 ≤ fb n u ∧ fb n u ≤ 4300000000 := by
  obtain ⟨v, rfl, h1, h2, h3, h4⟩ := unit4 h
  unfold fb
  rw [h3, h4]
  constructor
  · rw [Int.le_ediv_iff_mul_le (by omega)]
    have : -4300000000 * (2 * v) ≤ -8600000000 := by omega
    omega
  · apply Int.ediv_le_of_le_mul (by omega)
    omega
theorem eN_le {u Le Lo : Int} {W H : Nat} (G : Geo u Le Lo W H) {e : Ed} (hl : inG u Le Lo W H e.l) (hh : inG u Le Lo W H e.h) (hw : e.l.y ≤ e.h.y) : eN u e ≤ 2 * H := by
  rcases Nat.eq_zero_or_pos (eN u e) with h | h
  · omega
  · have p1 := row_in G hl hh ((pas_rows G.u hw (eF u e)).2 (by omega))
    have p2 := row_in G hl hh ((pas_rows G.u hw (eF u e + eN u e - 1)).2 (by omega))
    omega
theorem both {x y : Int} (e : x = y) (h : -9223372036854775808 ≤ y ∧ y ≤ 9223372036854775807) : wrap64 x = y ∧ IntKind.i64.wrap x = y := by
  subst e; exact ⟨w_id h, IntWalk.i64_in _ (by omega)⟩
theorem row_facts {u Le Lo : Int} {W H M : Nat} (G : Geo u Le Lo W H) (hM : M = 2 * H * (2 * W + 1)) {e : Ed} (he : okE e) (hl : inG u Le Lo W H e.l) (hh : inG u Le Lo W H e.h) (hw : e.l.y ≤ e.h.y) {k : Nat} (hk : k < eN u e) :
    ∃ y x i0 : Nat, x < 2 * W + 1 ∧ i0 = y * (2 * W + 1) + x ∧ i0 < M ∧ (y : Int) = eF u e + k - 2 * Lo ∧ (x : Int) = fb (atE e (smr u (eF u e + k))) u - 2 * Le ∧
      (e.l.y ≤ smr u (eF u e + k) ∧ smr u (eF u e + k) < e.h.y) ∧ (-4294967296 ≤ eF u e + k ∧ eF u e + k ≤ 4294967296) ∧ (-4000000000 ≤ atE e (smr u (eF u e + k)) ∧ atE e (smr u (eF u e + k)) ≤ 4000000000) ∧
      (wrap64 (eF u e + k) = eF u e + k ∧ IntKind.i64.wrap (eF u e + k) = eF u e + k) ∧ (wrap64 (2 * Lo) = 2 * Lo ∧ IntKind.i64.wrap (2 * Lo) = 2 * Lo) ∧ (wrap64 (eF u e + k - 2 * Lo) = (y : Int) ∧ IntKind.i64.wrap (eF u e + k - 2 * Lo) = (y : Int)) ∧
      (wrap64 (2 * Le) = 2 * Le ∧ IntKind.i64.wrap (2 * Le) = 2 * Le) ∧ (wrap64 (fb (atE e (smr u (eF u e + k))) u - 2 * Le) = (x : Int) ∧ IntKind.i64.wrap (fb (atE e (smr u (eF u e + k))) u - 2 * Le) = (x : Int)) ∧
      (wrap64 ((y : Int) * (2 * (W : Int) + 1)) = (y : Int) * (2 * (W : Int) + 1) ∧ IntKind.i64.wrap ((y : Int) * (2 * (W : Int) + 1)) = (y : Int) * (2 * (W : Int) + 1)) ∧ (wrap64 ((y : Int) * (2 * (W : Int) + 1) + x) = (i0 : Int) ∧ IntKind.i64.wrap ((y : Int) * (2 * (W : Int) + 1) + x) = (i0 : Int)) := by
  have hp := (pas_rows G.u hw (eF u e + k)).2 (by omega)
  have hr := row_in G hl hh hp
  have hc := col_in G hl hh hp
  obtain ⟨p1, p2⟩ := (pasE_iff _ _).1 hp
  obtain ⟨⟨a1, a2⟩, a3, a4⟩ := (okR_iff _).1 he.1
  obtain ⟨⟨b1, b2⟩, b3, b4⟩ := (okR_iff _).1 he.2
  have ha := atE_in (lo := -1073741824) (hi := 1073741824) p1 p2 ⟨a1, a2⟩ ⟨b1, b2⟩
  have gW := G.W
  have gH := G.H
  have gLe := G.Le
  have gLo := G.Lo
  obtain ⟨y, hy⟩ : ∃ y : Nat, (y : Int) = eF u e + k - 2 * Lo := ⟨(eF u e + k - 2 * Lo).toNat, by omega⟩
  obtain ⟨x, hx⟩ : ∃ x : Nat, (x : Int) = fb (atE e (smr u (eF u e + k))) u - 2 * Le := ⟨(fb (atE e (smr u (eF u e + k))) u - 2 * Le).toNat, by omega⟩
  have hy2 : y + 1 ≤ 2 * H := by omega
  have hx2 : x < 2 * W + 1 := by omega
  have hi : y * (2 * W + 1) + x < M := by
    have h1 : (y + 1) * (2 * W + 1) ≤ 2 * H * (2 * W + 1) := Nat.mul_le_mul_right _ hy2
    rw [Nat.add_mul] at h1
    omega
  have hMl : M ≤ 100000 := by
    have : 2 * H * (2 * W + 1) ≤ 192 * 193 := Nat.mul_le_mul (by omega) (by omega)
    omega
  have hcast : ((y * (2 * W + 1) : Nat) : Int) = (y : Int) * (2 * (W : Int) + 1) := by simp
  have hb : 0 ≤ (y : Int) * (2 * (W : Int) + 1) ∧ (y : Int) * (2 * (W : Int) + 1) ≤ 100000 := by rw [← hcast]; omega
  refine ⟨y, x, y * (2 * W + 1) + x, hx2, rfl, hi, hy, hx, ⟨p1, p2⟩, ⟨by omega, by omega⟩, ⟨by omega, by omega⟩, both rfl (by omega), both rfl (by omega), both hy.symm (by omega), both rfl (by omega), both hx.symm (by omega), both rfl (by omega), both ?_ (by omega)⟩
  rw [Int.natCast_add, hcast]
theorem eJ_in {N : Nat} {ns : Nat → Nat} {g : Nat → Nat → Pt} {P : Pt → Prop} (h : ∀ k, k < N → ∀ i, i < ns k → P (g k i)) {j : Nat} (hj : j < pre ns N) : P (eJ N ns g j).l ∧ P (eJ N ns g j).h := by
  obtain ⟨l1, l2, l3⟩ := loc_in ns hj
  unfold eJ mkE
  have h1 := h _ l1 _ l2
  have h2 := h _ l1 _ (Nat.mod_lt ((loc ns N j).2 + 1) (show 0 < ns (loc ns N j).1 by omega))
  split <;> exact ⟨by assumption, by assumption⟩
theorem tv_in {u Le Lo : Int} {W : Nat} {E : Nat → Ed} (hE : ∀ j, (E j).w = 1 ∨ (E j).w = -1) {i j k J : Nat} (hj : j < J) (hJ : J ≤ 1000000) : wrap64 (tP u Le Lo W E j k i + (E j).w) = tP u Le Lo W E j k i + (E j).w ∧ IntKind.i64.wrap (tP u Le Lo W E j k i + (E j).w) = tP u Le Lo W E j k i + (E j).w := by
  have h1 := tP_le (u := u) (Le := Le) (Lo := Lo) (W := W) hE i j k
  exact both rfl (by rcases hE j with h | h <;> omega)
theorem ends_in {u : Int} (hu : isU u = true) {e : Ed} (he : okE e) (hw : e.l.y ≤ e.h.y) (hn : eN u e ≤ 192) :
    (wrap64 (e.l.y - 1) = e.l.y - 1 ∧ IntKind.i64.wrap (e.l.y - 1) = e.l.y - 1) ∧ (wrap64 (e.h.y - 1) = e.h.y - 1 ∧ IntKind.i64.wrap (e.h.y - 1) = e.h.y - 1) ∧ (-4000000000 ≤ e.l.y - 1 ∧ e.l.y - 1 ≤ 4000000000) ∧ (-4000000000 ≤ e.h.y - 1 ∧ e.h.y - 1 ≤ 4000000000) ∧ wrap64 (fb (e.h.y - 1) u - fb (e.l.y - 1) u) = ((eN u e : Nat) : Int) := by
  obtain ⟨⟨a1, a2⟩, a3, a4⟩ := (okR_iff _).1 he.1
  obtain ⟨⟨b1, b2⟩, b3, b4⟩ := (okR_iff _).1 he.2
  have := eN_eq hu hw
  exact ⟨both rfl (by omega), both rfl (by omega), ⟨by omega, by omega⟩, ⟨by omega, by omega⟩, (both this.symm (by omega)).1⟩
theorem eJ_le (N : Nat) (ns : Nat → Nat) (g : Nat → Nat → Pt) (j : Nat) : (eJ N ns g j).l.y ≤ (eJ N ns g j).h.y := mkE_le _ _
/-- What turns holds between two edges, and between two rows of one. -/
def TI (w : World) (bs b7 M bX : Nat) (u Le Lo : Int) (W H : Nat) (d : Option Addr) (dn dc : Nat) (a : Option Addr) (N c : Nat) (ns B O : Nat → Nat) (g : Nat → Nat → Pt) (f : Nat → Int) (V : World) : Prop :=
  OI V bs M f ∧ TuS w bs b7 M u Le Lo W H d dn dc V ∧ EMem bX a N c ns B O g V
theorem tus_below {w : World} {bs b7 M : Nat} {u Le Lo : Int} {W H : Nat} {d : Option Addr} {dn dc : Nat} {V V' : World} (h : TuS w bs b7 M u Le Lo W H d dn dc V) (hB : Below V.heap.size V V') : TuS w bs b7 M u Le Lo W H d dn dc V' := by
  obtain ⟨⟨h1, h2, h3, h4, h5, h6, h7⟩, h8⟩ := h
  exact ⟨⟨kc hB h1, kc hB h2, kc hB h3, kc hB h4, kc hB h5, kc hB h6, kc hB h7⟩, bt h8 hB⟩
theorem tus_put {w : World} {bs b7 M : Nat} {u Le Lo : Int} {W H : Nat} {d : Option Addr} {dn dc : Nat} {V : World} {r : Nat} {o : Obj} (o' : Obj) (hr : w.heap.size ≤ r) (h : TuS w bs b7 M u Le Lo W H d dn dc V) (ho : V.heap[r]? = some o) (hc : o.isCells = false) : TuS w bs b7 M u Le Lo W H d dn dc (V.putObj r o') := by
  obtain ⟨⟨h1, h2, h3, h4, h5, h6, h7⟩, h8⟩ := h
  exact ⟨⟨(put_cell o' ho hc h1).1, (put_cell o' ho hc h2).1, (put_cell o' ho hc h3).1, (put_cell o' ho hc h4).1, (put_cell o' ho hc h5).1, (put_cell o' ho hc h6).1, (put_cell o' ho hc h7).1⟩, below_put h8 hr o'⟩
theorem tus_set {w : World} {bs b7 M : Nat} {u Le Lo : Int} {W H : Nat} {d : Option Addr} {dn dc : Nat} {V : World} (h1 : w.heap.size + 1 < bs) (h2 : bs ≠ b7) (h : TuS w bs b7 M u Le Lo W H d dn dc V) (i : Nat) (v : Value) : TuS w bs b7 M u Le Lo W H d dn dc (V.setCell ⟨bs, i, none⟩ v) := by
  obtain ⟨⟨k1, k2, k3, k4, k5, k6, k7⟩, k8⟩ := h
  have n1 : ¬ bs = w.heap.size := by omega
  have n2 : ¬ bs = w.heap.size + 1 := by omega
  exact ⟨⟨by go_cell, by go_cell, by go_cell, by go_cell, by go_cell, by go_cell, by go_cell⟩, Ot.bs k8 (by show w.heap.size ≤ bs; omega) _⟩
theorem ti_below {w : World} {bs b7 M bX : Nat} {u Le Lo : Int} {W H : Nat} {d : Option Addr} {dn dc : Nat} {a : Option Addr} {N c : Nat} {ns B O : Nat → Nat} {g : Nat → Nat → Pt} {f : Nat → Int} {V V' : World} (h : TI w bs b7 M bX u Le Lo W H d dn dc a N c ns B O g f V) (hB : Below V.heap.size V V') : TI w bs b7 M bX u Le Lo W H d dn dc a N c ns B O g f V' :=
  ⟨oi_below h.1 hB, tus_below h.2.1 hB, em_below h.2.2 hB⟩
theorem ti_put {w : World} {bs b7 M bX : Nat} {u Le Lo : Int} {W H : Nat} {d : Option Addr} {dn dc : Nat} {a : Option Addr} {N c : Nat} {ns B O : Nat → Nat} {g : Nat → Nat → Pt} {f : Nat → Int} {V : World} {r : Nat} {o : Obj} (o' : Obj) (hr : w.heap.size ≤ r) (h : TI w bs b7 M bX u Le Lo W H d dn dc a N c ns B O g f V) (ho : V.heap[r]? = some o) (hc : o.isCells = false) : TI w bs b7 M bX u Le Lo W H d dn dc a N c ns B O g f (V.putObj r o') :=
  ⟨oi_put o' ho hc h.1, tus_put o' hr h.2.1 ho hc, em_put o' ho hc h.2.2⟩
theorem ti_congr {w : World} {bs b7 M bX : Nat} {u Le Lo : Int} {W H : Nat} {d : Option Addr} {dn dc : Nat} {a : Option Addr} {N c : Nat} {ns B O : Nat → Nat} {g : Nat → Nat → Pt} {f f' : Nat → Int} {V : World} (h : TI w bs b7 M bX u Le Lo W H d dn dc a N c ns B O g f V) (e : ∀ i, f i = f' i) : TI w bs b7 M bX u Le Lo W H d dn dc a N c ns B O g f' V :=
  ⟨oi_congr h.1 (fun i _ => e i), h.2⟩
theorem ti_set {w : World} {bs b7 M bX : Nat} {u Le Lo : Int} {W H : Nat} {d : Option Addr} {dn dc : Nat} {a : Option Addr} {N c : Nat} {ns B O : Nat → Nat} {g : Nat → Nat → Pt} {f f' : Nat → Int} {V : World} (h1 : w.heap.size + 1 < bs) (h2 : bs ≠ b7) (h3 : bX ≠ bs) (hO : OX w a N ns B O) (hP : ∀ k, k < N → ∀ i, i < ns k → PtAt w (B k) (O k + i * 3) (g k i)) (h : TI w bs b7 M bX u Le Lo W H d dn dc a N c ns B O g f V) {i0 : Nat} (hi : i0 < M) {v : Int} (e : ∀ i, f' i = if i = i0 then v else f i) : TI w bs b7 M bX u Le Lo W H d dn dc a N c ns B O g f' (V.setCell ⟨bs, i0, none⟩ (.int .i64 v)) := by
  have hs := tus_set h1 h2 h.2.1 i0 (.int .i64 v)
  have n1 : ¬ bs = bX := fun e => h3 e.symm
  have hx := h.2.2.1
  exact ⟨oi_set h.1 hi e, hs, by go_cell, ox_below hO hs.2, fun k hk i hi => ptat_below (hP k hk i hi) hs.2⟩
theorem edat_set {V : World} {b bs i : Nat} {e : Ed} (hn : b ≠ bs) (h : EdAt V b e) (v : Value) : EdAt (V.setCell ⟨bs, i, none⟩ v) b e := by
  obtain ⟨h0, h1, h2, h3, h4, h5, h6⟩ := h
  have n1 : ¬ bs = b := fun e => hn e.symm
  exact ⟨by go_cell, by go_cell, by go_cell, by go_cell, by go_cell, by go_cell, by go_cell⟩
set_option maxRecDepth 100000 in
set_option maxHeartbeats 16000000 in
theorem turns_any (a : Option Addr) (N c : Nat) (ns : Nat → Nat) (g : Nat → Nat → Pt) (u Le Lo : Int) (W H : Nat) (d : Option Addr) (dn dc M : Nat) (hM : M = 2 * H * (2 * W + 1)) (hG : Geo u Le Lo W H) (hr : allO ns g N = true) (hin : ∀ k, k < N → ∀ i, i < ns k → inG u Le Lo W H (g k i)) (hN : N ≤ 1000000) (hs : pre ns N ≤ 1000000) (w : World) (hA : OT w a N ns g) :
    Calls Try.prog 49 #[.slice a N c, .int .i64 u, pv Le Lo W H d dn dc] w fun e w' => ∃ b, e = .returned (.slice (some ⟨b, 0, none⟩) M M) ∧ OI w' b M (tF u Le Lo W (eJ N ns g) (pre ns N)) ∧ w.heap.size ≤ b ∧ Below w.heap.size w w' := by
  refine (callsIn_wide (n := 5)).1 ?_
  obtain ⟨B, O, hX, hP⟩ := ot_ox hA
  have ED := Lib.hid (edges_any a N c)
  have CO := Lib.hid (columns_any Le Lo W H d dn dc hG.W.2)
  have HR := Lib.hid hr
  have HX := Lib.hid hX
  have HP := Lib.hid hP
  have HI := Lib.hid hin
  have HG := Lib.hid hG
  have HE := Lib.hid (eJ_w N ns g)
  have hW := hG.W
  have hH := hG.H
  clear hr hA hX hP hin hG
  have hmix := mixedF
  have hM1 : M ≤ 100000 := by
    have : 2 * H * (2 * W + 1) ≤ 192 * 193 := Nat.mul_le_mul (by omega) (by omega)
    omega
  have e1 : IntKind.i64.wrap (2 * (H : Int)) = 2 * (H : Int) := IntWalk.i64_in _ (by omega)
  have e2 : IntKind.i64.wrap (2 * (H : Int) * (2 * (W : Int) + 1)) = (M : Int) := by
    have : (M : Int) = 2 * (H : Int) * (2 * (W : Int) + 1) := by rw [hM]; simp
    rw [← this]
    exact IntWalk.i64_in _ (by omega)
  have HM := Lib.hid hM
  clear hM
  unfold pv at *
  refine callsIn_of_wp_marks Try.func49 rfl trivial ?_ rfl
  simp only [Try.ntmps49, List.size_toArray, List.length_cons, List.length_nil, Nat.reduceAdd, Nat.reduceSub, Array.replicate_succ, Array.replicate_zero, List.push_toArray, List.append_toArray, List.nil_append, List.cons_append]
  gi_wp2
  rename_i Qx Kx hKx
  have hW0 : Below w.heap.size w ((w.alloc (.cells #[.int .i64 u] 3)).alloc (.cells #[.int .i64 Le, .int .i64 Lo, .int .i64 (W : Int), .int .i64 (H : Int), .slice d dn dc] 40)) := ba (ba (Below.refl _ _) _) _
  have c4 : ((w.alloc (.cells #[.int .i64 u] 3)).alloc (.cells #[.int .i64 Le, .int .i64 Lo, .int .i64 (W : Int), .int .i64 (H : Int), .slice d dn dc] 40)).cell? ⟨w.heap.size, 0, none⟩ = some (.int .i64 u) := by go_cell
  have c50 : ((w.alloc (.cells #[.int .i64 u] 3)).alloc (.cells #[.int .i64 Le, .int .i64 Lo, .int .i64 (W : Int), .int .i64 (H : Int), .slice d dn dc] 40)).cell? ⟨w.heap.size + 1, 0, none⟩ = some (.int .i64 Le) := by go_cell
  have c51 : ((w.alloc (.cells #[.int .i64 u] 3)).alloc (.cells #[.int .i64 Le, .int .i64 Lo, .int .i64 (W : Int), .int .i64 (H : Int), .slice d dn dc] 40)).cell? ⟨w.heap.size + 1, 1, none⟩ = some (.int .i64 Lo) := by go_cell
  have c52 : ((w.alloc (.cells #[.int .i64 u] 3)).alloc (.cells #[.int .i64 Le, .int .i64 Lo, .int .i64 (W : Int), .int .i64 (H : Int), .slice d dn dc] 40)).cell? ⟨w.heap.size + 1, 2, none⟩ = some (.int .i64 (W : Int)) := by go_cell
  have c53 : ((w.alloc (.cells #[.int .i64 u] 3)).alloc (.cells #[.int .i64 Le, .int .i64 Lo, .int .i64 (W : Int), .int .i64 (H : Int), .slice d dn dc] 40)).cell? ⟨w.heap.size + 1, 3, none⟩ = some (.int .i64 (H : Int)) := by go_cell
  have c54 : ((w.alloc (.cells #[.int .i64 u] 3)).alloc (.cells #[.int .i64 Le, .int .i64 Lo, .int .i64 (W : Int), .int .i64 (H : Int), .slice d dn dc] 40)).cell? ⟨w.heap.size + 1, 4, none⟩ = some (.slice d dn dc) := by go_cell
  have hs0 : Hid (((w.alloc (.cells #[.int .i64 u] 3)).alloc (.cells #[.int .i64 Le, .int .i64 Lo, .int .i64 (W : Int), .int .i64 (H : Int), .slice d dn dc] 40)).heap.size = w.heap.size + 1 + 1) := Lib.hid (by simp)
  have HC : Hid (∀ bs b7 V, TuS w bs b7 M u Le Lo W H d dn dc V → OI V bs M (fun _ => 0) → V.frozen? ⟨b7, 0, none⟩ = false → w.heap.size + 1 < bs → w.heap.size + 1 < b7 → bs ≠ b7 → bs < V.heap.size → Kx { tmps := #[.slice a N c, .int .i64 u, .agg #[.int .i64 Le, .int .i64 Lo, .int .i64 (W : Int), .int .i64 (H : Int), .slice d dn dc], undef, .pointer (some ⟨w.heap.size, 0, none⟩), .pointer (some ⟨w.heap.size + 1, 0, none⟩), .slice none 0 0, .pointer (some ⟨b7, 0, none⟩), undef, undef, undef, undef, undef, undef, .pointer (some ⟨w.heap.size + 1, 2, none⟩), .pointer (some ⟨w.heap.size + 1, 3, none⟩), .int .i64 (H : Int), .int .i64 (2 * (H : Int)), .agg #[.int .i64 Le, .int .i64 Lo, .int .i64 (W : Int), .int .i64 (H : Int), .slice d dn dc], .int .i64 (2 * (W : Int) + 1), .int .i64 (M : Int), .slice (some ⟨bs, 0, none⟩) M M, undef, undef, undef, undef, undef, undef, undef, undef, undef, undef, undef, undef, undef, undef, undef, undef, undef, undef, undef, undef, undef, undef, undef, undef, undef, undef, undef, undef, undef, undef, undef, undef, undef, undef, undef, undef, undef, undef, undef, undef, undef, undef, undef, undef, undef, undef, undef, undef, undef, undef, undef, undef, undef, undef, undef, undef], defers := [] } V) := by
    refine Lib.hid ?_
    intro bs b7 V0 hT hO hf hb1 hb2 hne hbV
    refine hKx _ _ ?_
    have hB0 := hT.2
    gi_wp2_with (refine ⟨trivial, ?_⟩; gi_at_call 28; refine (callsIn_wide.2 (ED.out _)).mono ?_; rintro e w2 ⟨rfl, rfl⟩)
    have hA1 : Below V0.heap.size V0 (V0.alloc (.cells #[.slice a N c] 23)) := ba (Below.refl _ _) _
    have h0 : TI w bs b7 M V0.heap.size u Le Lo W H d dn dc a N c ns B O g (tF u Le Lo W (eJ N ns g) 0) (V0.alloc (.cells #[.slice a N c] 23)) := by
      have hB1 := bt hB0 hA1
      exact ⟨oi_congr (oi_below hO hA1) (fun i _ => rfl), tus_below hT hA1, by go_cell, ox_below HX.out hB1, fun k hk i hi => ptat_below (HP.out k hk i hi) hB1⟩
    have hsV := hB0.size
    have hsz : (V0.alloc (.cells #[.slice a N c] 23)).heap.size = V0.heap.size + 1 := by simp
    generalize (V0.alloc (.cells #[.slice a N c] 23)) = V1 at *
    refine range_edges (n := 5) (gf := 44) (lb := #[.pointer (some ⟨V0.heap.size, 0, none⟩)]) (by omega) rfl (enters_of Try.func44 (by kernel_rfl) rfl) (fun k => rfl)
      (edges_gives 4 (by omega) a N c ns B O g V0.heap.size hN hs) (fun j V => TI w bs b7 M V0.heap.size u Le Lo W H d dn dc a N c ns B O g (tF u Le Lo W (eJ N ns g) j) V) (fun h hB => ti_below h hB)
      (fun o' hr h ho hc => ti_put o' (by omega) h ho hc) (fun h => h.2.2) (fun h hk hf => by cases hf) h0
      (fun j W' => { tmps := #[.slice a N c, .int .i64 u, .agg #[.int .i64 Le, .int .i64 Lo, .int .i64 (W : Int), .int .i64 (H : Int), .slice d dn dc], undef, .pointer (some ⟨w.heap.size, 0, none⟩), .pointer (some ⟨w.heap.size + 1, 0, none⟩), .slice none 0 0, .pointer (some ⟨b7, 0, none⟩), .pointer (some ⟨W'.heap.size, 0, none⟩), undef, undef, undef, undef, undef, .pointer (some ⟨w.heap.size + 1, 2, none⟩), .pointer (some ⟨w.heap.size + 1, 3, none⟩), .int .i64 (H : Int), .int .i64 (2 * (H : Int)), .agg #[.int .i64 Le, .int .i64 Lo, .int .i64 (W : Int), .int .i64 (H : Int), .slice d dn dc], .int .i64 (2 * (W : Int) + 1), .int .i64 (M : Int), .slice (some ⟨bs, 0, none⟩) M M, .slice a N c, .func (.func 44) #[] #[.pointer (some ⟨V0.heap.size, 0, none⟩)], edV (eJ N ns g j), undef, undef, undef, undef, undef, undef, undef, undef, undef, undef, undef, undef, undef, undef, undef, undef, undef, undef, undef, undef, undef, undef, undef, undef, undef, undef, undef, undef, undef, undef, undef, undef, undef, undef, undef, undef, undef, undef, undef, undef, undef, undef, undef, undef, undef, undef, undef, undef, undef, undef, undef, undef, undef], defers := [] }) (fun j W => mkW (eJ N ns g) j W) (fun j W V => EdAt V W.heap.size (eJ N ns g j)) (fun j W => mkW_below _ j W) (fun j W => mkW_at _ j W) (fun o' h ho hc => edat_put o' h ho hc) ?assign ?body ?done
    case assign =>
      intro l k V K hK
      simp only [eargs]
      unfold edV mkW edO at *
      gi_wp2
      exact hK
    case body =>
      intro l j WB V hI hEd hWs hj hf
      have hG := HG.out
      have hok := eJ_ok HR.out hj
      have hle := eJ_le N ns g j
      obtain ⟨gl, gh⟩ := eJ_in HI.out hj
      have hen := eN_le hG gl gh hle
      obtain ⟨⟨q1, q2⟩, ⟨q3, q4⟩, r1, r2, q5⟩ := ends_in hG.u hok hle (by omega)
      have FL := Lib.hid (fun w => firstBeyond_any ((eJ N ns g j).l.y - 1) u hG.u r1 w)
      have FH := Lib.hid (fun w => firstBeyond_any ((eJ N ns g j).h.y - 1) u hG.u r2 w)
      have RF := Lib.hid (fun k hk => row_facts hG HM.out hok gl gh hle (k := k) hk)
      have HT0 := Lib.hid (ti_congr hI (fun i => (tP_zero hG.u hle i).symm))
      have HTA := Lib.hid (tP_all (u := u) (Le := Le) (Lo := Lo) (W := W) (E := eJ N ns g) (j := j) hG.u hle)
      have HTN := Lib.hid (fun k y x h1 h2 h3 h4 => tP_next (u := u) (Le := Le) (Lo := Lo) (W := W) (E := eJ N ns g) (j := j) (k := k) (y := y) (x := x) hG.u hle h1 h2 h3 h4)
      have HTV := Lib.hid (fun k i => tv_in (u := u) (Le := Le) (Lo := Lo) (W := W) HE.out (i := i) (k := k) hj hs)
      have HAT := Lib.hid (fun y h1 h2 w => at_any _ hok y h1 h2 w)
      have hu4 := (isU_iff u).1 hG.u
      have SA := Lib.hid (fun k h w => sample_any u k ⟨hu4.1, hu4.2.1⟩ h w)
      have FX := Lib.hid (fun n h w => firstBeyond_any n u hG.u h w)
      have hEd0 := Lib.hid hEd
      obtain ⟨d0, d1, d2, d3, d4, d5, d6⟩ := hEd
      obtain ⟨_, ⟨⟨_, t1, t2, t3, t4, t5, t6⟩, _⟩, _⟩ := hI
      have hen3 : eN u (eJ N ns g j) ≤ 1000000 := by omega
      clear hok gl gh hle hen hu4 r1 r2 h0
      have hfl : fb ((eJ N ns g j).l.y - 1) u = eF u (eJ N ns g j) := rfl
      rw [hfl] at FL q5
      clear hfl
      unfold edV at *
      gi_wp2
      have P0 : ∀ w', Below V.heap.size V w' → w'.cell? ⟨WB.heap.size, 1, none⟩ = some (.int .i64 (eJ N ns g j).l.y) := fun _ h => kc h d1
      have P1 : ∀ w', Below V.heap.size V w' → w'.cell? ⟨WB.heap.size, 4, none⟩ = some (.int .i64 (eJ N ns g j).h.y) := fun _ h => kc h d4
      have P2 : ∀ w', Below V.heap.size V w' → w'.cell? ⟨w.heap.size, 0, none⟩ = some (.int .i64 u) := fun _ h => kc h t1
      refine region_held_round (S := fun w' => Below V.heap.size V w') (by rintro ⟨_, _, h⟩; exact h) (by kernel_rfl) mixedF (bd1 (Below.refl _ _)) (fun hHeld => ?_)
      refine wpAnyH_take (i := 0) (v := ?_) rfl (by kernel_rfl) (by kernel_rfl) (by kernel_rfl) (fun _ _ _ h => h) (Or.inl ⟨by rfl, ?_⟩) (by assumption) ?_
      rotate_left
      · intro w hSw; (try dsimp only at hSw); go_simp; try with_reducible rfl
      try simp only [Act.put, List.setIfInBounds_toArray]
      refine wpAnyH_take (i := 1) (v := ?_) rfl (by kernel_rfl) (by kernel_rfl) (by kernel_rfl) (fun _ _ _ h => h) (Or.inl ⟨by rfl, ?_⟩) (by assumption) ?_
      rotate_left
      · intro w hSw; (try dsimp only at hSw); go_simp; try with_reducible rfl
      try simp only [Act.put]
      refine wpAnyH_take (i := 2) (v := ?_) rfl (by kernel_rfl) (by kernel_rfl) (by kernel_rfl) (fun _ _ _ h => h) (Or.inl ⟨by rfl, ?_⟩) (by assumption) ?_
      rotate_left
      · intro w hSw; (try dsimp only at hSw); go_simp; try with_reducible rfl
      try simp only [Act.put]
      refine wpAnyH_take (i := 3) (v := ?_) rfl (by kernel_rfl) (by kernel_rfl) (by kernel_rfl) (fun _ _ _ h => h) (Or.inl ⟨by rfl, ?_⟩) (by assumption) ?_
      rotate_left
      · intro w hSw; (try dsimp only at hSw); go_simp; try with_reducible rfl
      try simp only [Act.put]
      refine wpAnyH_take (i := 4) (v := ?_) rfl (by kernel_rfl) (by kernel_rfl) (by kernel_rfl) (fun _ _ _ h => h) (Or.inl ⟨by rfl, ?_⟩) (by assumption) ?_
      rotate_left
      · intro w hSw; (try dsimp only at hSw); go_simp; try with_reducible rfl
      try simp only [Act.put]
      refine wpAnyH_take (i := 6) (v := ?_) rfl (by kernel_rfl) (by kernel_rfl) (by kernel_rfl) (fun _ _ _ h => h) (Or.inl ⟨by rfl, ?_⟩) (by assumption) ?_
      rotate_left
      · intro w hSw; (try dsimp only at hSw); go_simp; try with_reducible rfl
      try simp only [Act.put]
      refine wpAnyH_take (i := 7) (v := ?_) rfl (by kernel_rfl) (by kernel_rfl) (by kernel_rfl) (fun _ _ _ h => h) (Or.inl ⟨by rfl, ?_⟩) (by assumption) ?_
      rotate_left
      · intro w hSw; (try dsimp only at hSw); go_simp; try with_reducible rfl
      try simp only [Act.put]
      refine wpAnyH_take (i := 8) (v := ?_) rfl (by kernel_rfl) (by kernel_rfl) (by kernel_rfl) (fun _ _ _ h => h) (Or.inl ⟨by rfl, ?_⟩) (by assumption) ?_
      rotate_left
      · intro w hSw; (try dsimp only at hSw); go_simp; try with_reducible rfl
      try simp only [Act.put]
      refine wpAnyH_take (i := 9) (v := ?_) rfl (by kernel_rfl) (by kernel_rfl) (by kernel_rfl) (fun _ _ _ h => h) (Or.inl ⟨by rfl, ?_⟩) (by assumption) ?_
      rotate_left
      · intro w hSw; (try dsimp only at hSw); go_simp; try with_reducible rfl
      try simp only [Act.put]
      refine wpAnyH_take (i := 10) (v := ?_) rfl (by kernel_rfl) (by kernel_rfl) (by kernel_rfl) (fun _ _ _ h => h) (Or.inl ⟨by rfl, ?_⟩) (by assumption) ?_
      rotate_left
      · intro w hSw; (try dsimp only at hSw); go_simp; try with_reducible rfl
      try simp only [Act.put]
      refine wpAnyH_ready (rs := [5]) (by kernel_rfl) (by simp) ?_
      refine AllReadyH.cons rfl (fun K hK => ?_) AllReadyH.nil
      go_simp
      (with_reducible refine (FL.out _).mono ?_)
      rintro en wa ⟨rfl, hba⟩
      try dsimp only
      refine hK.out _ _ (bt (by assumption) hba) (fun hHeld => ?_)
      clear hK K
      try simp only [Act.put, List.setIfInBounds_toArray, List.set_cons_zero, List.set_cons_succ]
      refine wpAnyH_ready (rs := [11]) (by kernel_rfl) (by simp) ?_
      refine AllReadyH.cons rfl (fun K hK => ?_) AllReadyH.nil
      go_simp
      (with_reducible refine (FH.out _).mono ?_)
      rintro en wb ⟨rfl, hbb⟩
      try dsimp only
      refine hK.out _ _ (bt (by assumption) hbb) (fun hHeld => ?_)
      clear hK K
      try simp only [Act.put, List.setIfInBounds_toArray, List.set_cons_zero, List.set_cons_succ]
      refine wpAnyH_take (i := 12) (v := ?_) rfl (by kernel_rfl) (by kernel_rfl) (by kernel_rfl) (fun _ _ _ h => h) (Or.inl ⟨by rfl, ?_⟩) (by assumption) ?_
      rotate_left
      · intro w hSw; (try dsimp only at hSw); go_simp; try with_reducible rfl
      try simp only [Act.put, List.setIfInBounds_toArray]
      refine wpAnyH_take (i := 13) (v := ?_) rfl (by kernel_rfl) (by kernel_rfl) (by kernel_rfl) (fun _ _ _ h => h) (Or.inl ⟨by rfl, ?_⟩) (by assumption) ?_
      rotate_left
      · intro w hSw; (try dsimp only at hSw); go_simp; try with_reducible rfl
      try simp only [Act.put]
      refine wpAnyH_done (by kernel_rfl) ?_ _
      have hVb := hHeld
      clear P0 P1 P2 hba hbb FL FH hHeld
      gi_wp2
      rw [q5]
      have hT1 := Lib.hid (ti_below HT0.out hVb)
      have hE1 := Lib.hid (edat_below hEd0.out hVb)
      have hK1 := Lib.hid (ko_below hVb)
      clear HT0 hEd0 d0 d1 d2 d3 d4 d5 d6 t1 t2 t3 t4 t5 t6 q1 q2 q3 q4 q5
      gi_loopw [40] (fun s40 wr => ∃ k : Nat, s40 = .int .i64 (k : Nat) ∧ k ≤ eN u (eJ N ns g j) ∧ TI w bs b7 M V0.heap.size u Le Lo W H d dn dc a N c ns B O g (tP u Le Lo W (eJ N ns g) j k) wr ∧ EdAt wr WB.heap.size (eJ N ns g j) ∧ KeepsOthers V wr) (fun s40 _ => eN u (eJ N ns g j) - (intOf s40).toNat)
      case atStart => exact ⟨0, rfl, by omega, hT1.out, hE1.out, hK1.out⟩
      case round =>
        clear hVb hT1 hE1 hK1
        obtain ⟨k, rfl, hk, hT, hEdV, hKo⟩ := hrel
        rcases Nat.lt_or_ge k (eN u (eJ N ns g j)) with hkn | hkn
        · obtain ⟨y, x, i0, hxW, hi0e, hi0, hy, hx, ⟨p1, p2⟩, r1, r2, w1, w2, w3, w4, w5, w6, w7⟩ := RF.out k hkn
          have AT := Lib.hid (HAT.out _ p1 p2)
          have SP := Lib.hid (SA.out _ r1)
          have FF := Lib.hid (FX.out _ r2)
          have hnx := HTN.out k y x hkn hy hx hxW
          rw [← hi0e] at hnx
          obtain ⟨w8, w9⟩ := HTV.out k i0
          have hwk := wrap_n hkn (by have := RF; exact hen3)
          have hk2 := nat_c k
          have hk3 := lt_c hkn
          have hi2 := nat_c i0
          have hi3 := lt_c hi0
          obtain ⟨w10, w11⟩ := w1
          have hkn := Lib.hid hkn
          obtain ⟨e0, e1', e2', e3, e4, e5, e6⟩ := id hEdV
          obtain ⟨_, ⟨⟨s7, s1, s2, s3, s4, s5, s6⟩, _⟩, _⟩ := id hT
          obtain ⟨Y, hY⟩ : ∃ Y, smr u (eF u (eJ N ns g j) + k) = Y := ⟨_, rfl⟩
          have hSm : u / 4 * (2 * (eF u (eJ N ns g j) + k) + 1) = Y := hY
          rw [hSm] at SP
          rw [hY] at AT FF hx w5 p1 p2 r2
          obtain ⟨v21, v22⟩ := w2
          obtain ⟨v31, v32⟩ := w3
          obtain ⟨v41, v42⟩ := w4
          obtain ⟨v51, v52⟩ := w5
          obtain ⟨v61, v62⟩ := w6
          obtain ⟨v71, v72⟩ := w7
          clear HAT SA FX HTN HTV RF HTA hY hSm p1 p2 r1 r2 hx hy hxW hi0e
          generalize atE (eJ N ns g j) Y = AX at *
          generalize fb AX u = FB at *
          gi_wp2
          have P0 : ∀ w', Below wr.heap.size wr w' → w'.cell? ⟨WB.heap.size, 0, none⟩ = some (.int .i64 (eJ N ns g j).l.x) := fun _ h => kc h e0
          have P1 : ∀ w', Below wr.heap.size wr w' → w'.cell? ⟨WB.heap.size, 1, none⟩ = some (.int .i64 (eJ N ns g j).l.y) := fun _ h => kc h e1'
          have P2 : ∀ w', Below wr.heap.size wr w' → w'.cell? ⟨WB.heap.size, 2, none⟩ = some (.bool (eJ N ns g j).l.o) := fun _ h => kc h e2'
          have P3 : ∀ w', Below wr.heap.size wr w' → w'.cell? ⟨WB.heap.size, 3, none⟩ = some (.int .i64 (eJ N ns g j).h.x) := fun _ h => kc h e3
          have P4 : ∀ w', Below wr.heap.size wr w' → w'.cell? ⟨WB.heap.size, 4, none⟩ = some (.int .i64 (eJ N ns g j).h.y) := fun _ h => kc h e4
          have P5 : ∀ w', Below wr.heap.size wr w' → w'.cell? ⟨WB.heap.size, 5, none⟩ = some (.bool (eJ N ns g j).h.o) := fun _ h => kc h e5
          have P6 : ∀ w', Below wr.heap.size wr w' → w'.cell? ⟨WB.heap.size, 6, none⟩ = some (.int .i64 (eJ N ns g j).w) := fun _ h => kc h e6
          have P7 : ∀ w', Below wr.heap.size wr w' → w'.cell? ⟨w.heap.size, 0, none⟩ = some (.int .i64 u) := fun _ h => kc h s1
          have P8 : ∀ w', Below wr.heap.size wr w' → w'.cell? ⟨w.heap.size + 1, 0, none⟩ = some (.int .i64 Le) := fun _ h => kc h s2
          clear e0 e1' e2' e3 e4 e5 e6 s1 s2 s3 s4 s5 s6 s7
          refine region_held_round (S := fun w' => Below wr.heap.size wr w') (by rintro ⟨_, _, h⟩; exact h) (by kernel_rfl) mixedF (bd1 (Below.refl _ _)) (fun hHeld => ?_)
          refine wpAnyH_take (i := 0) (v := ?_) rfl (by kernel_rfl) (by kernel_rfl) (by kernel_rfl) (fun _ _ _ h => h) (Or.inl ⟨by rfl, ?_⟩) (by assumption) ?_
          rotate_left
          · intro w hSw; (try dsimp only at hSw); go_simp; try with_reducible rfl
          try simp only [Act.put, List.setIfInBounds_toArray]
          refine wpAnyH_take (i := 1) (v := ?_) rfl (by kernel_rfl) (by kernel_rfl) (by kernel_rfl) (fun _ _ _ h => h) (Or.inl ⟨by rfl, ?_⟩) (by assumption) ?_
          rotate_left
          · intro w hSw; (try dsimp only at hSw); go_simp; try with_reducible rfl
          try simp only [Act.put]
          refine wpAnyH_take (i := 2) (v := ?_) rfl (by kernel_rfl) (by kernel_rfl) (by kernel_rfl) (fun _ _ _ h => h) (Or.inl ⟨by rfl, ?_⟩) (by assumption) ?_
          rotate_left
          · intro w hSw; (try dsimp only at hSw); go_simp; try with_reducible rfl
          try simp only [Act.put]
          refine wpAnyH_take (i := 3) (v := ?_) rfl (by kernel_rfl) (by kernel_rfl) (by kernel_rfl) (fun _ _ _ h => h) (Or.inl ⟨by rfl, ?_⟩) (by assumption) ?_
          rotate_left
          · intro w hSw; (try dsimp only at hSw); go_simp; try with_reducible rfl
          try simp only [Act.put]
          refine wpAnyH_take (i := 4) (v := ?_) rfl (by kernel_rfl) (by kernel_rfl) (by kernel_rfl) (fun _ _ _ h => h) (Or.inl ⟨by rfl, ?_⟩) (by assumption) ?_
          rotate_left
          · intro w hSw; (try dsimp only at hSw); go_simp; try with_reducible rfl
          try simp only [Act.put]
          refine wpAnyH_take (i := 7) (v := ?_) rfl (by kernel_rfl) (by kernel_rfl) (by kernel_rfl) (fun _ _ _ h => h) (Or.inl ⟨by rfl, ?_⟩) (by assumption) ?_
          rotate_left
          · intro w hSw; (try dsimp only at hSw); go_simp; try with_reducible rfl
          try simp only [Act.put]
          refine wpAnyH_take (i := 9) (v := ?_) rfl (by kernel_rfl) (by kernel_rfl) (by kernel_rfl) (fun _ _ _ h => h) (Or.inl ⟨by rfl, ?_⟩) (by assumption) ?_
          rotate_left
          · intro w hSw; (try dsimp only at hSw); go_simp; try with_reducible rfl
          try simp only [Act.put]
          refine wpAnyH_take (i := 10) (v := ?_) rfl (by kernel_rfl) (by kernel_rfl) (by kernel_rfl) (fun _ _ _ h => h) (Or.inl ⟨by rfl, ?_⟩) (by assumption) ?_
          rotate_left
          · intro w hSw; (try dsimp only at hSw); go_simp; try with_reducible rfl
          try simp only [Act.put]
          refine wpAnyH_take (i := 11) (v := ?_) rfl (by kernel_rfl) (by kernel_rfl) (by kernel_rfl) (fun _ _ _ h => h) (Or.inl ⟨by rfl, ?_⟩) (by assumption) ?_
          rotate_left
          · intro w hSw; (try dsimp only at hSw); go_simp; try with_reducible rfl
          try simp only [Act.put]
          refine wpAnyH_ready (rs := [5]) (by kernel_rfl) (by simp) ?_
          refine AllReadyH.cons rfl (fun K hK => ?_) AllReadyH.nil
          go_simp
          (with_reducible refine (SP.out _).mono ?_)
          rintro en wa ⟨rfl, rfl⟩
          try dsimp only
          refine hK.out _ _ (by assumption) (fun hHeld => ?_)
          clear hK K
          try simp only [Act.put, List.setIfInBounds_toArray, List.set_cons_zero, List.set_cons_succ]
          refine wpAnyH_ready (rs := [6]) (by kernel_rfl) (by simp) ?_
          refine AllReadyH.cons rfl (fun K hK => ?_) AllReadyH.nil
          go_simp
          (with_reducible refine (AT.out _).mono ?_)
          rintro en wb ⟨rfl, hbb⟩
          try dsimp only
          refine hK.out _ _ (bt (by assumption) hbb) (fun hHeld => ?_)
          clear hK K
          try simp only [Act.put, List.setIfInBounds_toArray, List.set_cons_zero, List.set_cons_succ]
          refine wpAnyH_ready (rs := [8]) (by kernel_rfl) (by simp) ?_
          refine AllReadyH.cons rfl (fun K hK => ?_) AllReadyH.nil
          go_simp
          (with_reducible refine (FF.out _).mono ?_)
          rintro en wc ⟨rfl, hbc⟩
          try dsimp only
          refine hK.out _ _ (bt (by assumption) hbc) (fun hHeld => ?_)
          clear hK K
          try simp only [Act.put, List.setIfInBounds_toArray, List.set_cons_zero, List.set_cons_succ]
          refine wpAnyH_take (i := 12) (v := ?_) rfl (by kernel_rfl) (by kernel_rfl) (by kernel_rfl) (fun _ _ _ h => h) (Or.inl ⟨by rfl, ?_⟩) (by assumption) ?_
          rotate_left
          · intro w hSw; (try dsimp only at hSw); go_simp; try with_reducible rfl
          try simp only [Act.put, List.setIfInBounds_toArray]
          refine wpAnyH_take (i := 13) (v := ?_) rfl (by kernel_rfl) (by kernel_rfl) (by kernel_rfl) (fun _ _ _ h => h) (Or.inl ⟨by rfl, ?_⟩) (by assumption) ?_
          rotate_left
          · intro w hSw; (try dsimp only at hSw); go_simp; try with_reducible rfl
          try simp only [Act.put]
          refine wpAnyH_done (by kernel_rfl) ?_ _
          have hb8 := hHeld
          clear P0 P1 P2 P3 P4 P5 P6 P7 P8 hHeld
          obtain ⟨_, ⟨⟨_, _, _, z3, _⟩, _⟩, _⟩ := ti_below hT hb8
          gi_wp2
          clear z3
          (try rw [w1.1])
          (try rw [w3.1])
          have hTc := ti_below hT hb8
          have hEc := edat_below hEdV hb8
          have hKc := hKo.trans (ko_below hb8)
          have RN : Hid (∀ Wd, Below wc.heap.size wc Wd → ∃ k' : Nat, (Value.int .i64 ((k : Int) + 1)) = .int .i64 (k' : Nat) ∧ k' ≤ eN u (eJ N ns g j) ∧ TI w bs b7 M V0.heap.size u Le Lo W H d dn dc a N c ns B O g (tP u Le Lo W (eJ N ns g) j k') (Wd.setCell ⟨bs, i0, none⟩ (.int .i64 (tP u Le Lo W (eJ N ns g) j k i0 + (eJ N ns g j).w))) ∧ EdAt (Wd.setCell ⟨bs, i0, none⟩ (.int .i64 (tP u Le Lo W (eJ N ns g) j k i0 + (eJ N ns g j).w))) WB.heap.size (eJ N ns g j) ∧ KeepsOthers V (Wd.setCell ⟨bs, i0, none⟩ (.int .i64 (tP u Le Lo W (eJ N ns g) j k i0 + (eJ N ns g j).w)))) := Lib.hid (fun Wd hd => ⟨k + 1, rfl, hkn.out, ti_set hb1 hne (by omega) HX.out HP.out (ti_below hTc hd) hi0 (fun i => by rw [hnx i]; by_cases e : i = i0 <;> simp [e]), edat_set (by omega) (edat_below hEc hd) _, (hKc.trans (ko_below hd)).trans (KeepsOthers.setCell _ _ _)⟩)
          obtain ⟨e0, e1', e2', e3, e4, e5, e6⟩ := id hEc
          obtain ⟨o1, ⟨⟨s7, s1, s2, s3, s4, s5, s6⟩, _⟩, _⟩ := id hTc
          obtain ⟨oc, of⟩ := o1 i0 hi0
          have CK := Lib.hid (fun Wd (hd : Below wc.heap.size wc Wd) => And.intro (kc hd oc) (kf hd oc of))
          clear hTc hEc hKc hT hEdV hKo hb8 o1
          have P0 : ∀ w', wc.grownBy w' (some bs) → w'.cell? ⟨b7, 0, none⟩ = some (.slice (some ⟨bs, 0, none⟩) M M) := fun _ h => gc h s7 (by omega)
          have P1 : ∀ w', wc.grownBy w' (some bs) → w'.cell? ⟨w.heap.size + 1, 0, none⟩ = some (.int .i64 Le) := fun _ h => gc h s2 (by omega)
          have P2 : ∀ w', wc.grownBy w' (some bs) → w'.cell? ⟨w.heap.size + 1, 1, none⟩ = some (.int .i64 Lo) := fun _ h => gc h s3 (by omega)
          have P3 : ∀ w', wc.grownBy w' (some bs) → w'.cell? ⟨w.heap.size + 1, 2, none⟩ = some (.int .i64 (W : Int)) := fun _ h => gc h s4 (by omega)
          have P4 : ∀ w', wc.grownBy w' (some bs) → w'.cell? ⟨w.heap.size + 1, 3, none⟩ = some (.int .i64 (H : Int)) := fun _ h => gc h s5 (by omega)
          have P5 : ∀ w', wc.grownBy w' (some bs) → w'.cell? ⟨w.heap.size + 1, 4, none⟩ = some (.slice d dn dc) := fun _ h => gc h s6 (by omega)
          have P6 : ∀ w', wc.grownBy w' (some bs) → w'.cell? ⟨WB.heap.size, 6, none⟩ = some (.int .i64 (eJ N ns g j).w) := fun _ h => gc h e6 (by omega)
          clear s1 s2 s3 s4 s5 s6 s7 e0 e1' e2' e3 e4 e5 e6
          have hbc : bs < wc.heap.size := block_lt_of_cell oc
          refine region_held_round (S := fun w' => wc.grownBy w' (some bs)) (by rintro ⟨_, _, h⟩; exact h) (by kernel_rfl) mixedF (gd1 (gr _ _)) (fun hHeld => ?_)
          refine wpAnyH_take (i := 0) (v := ?_) rfl (by kernel_rfl) (by kernel_rfl) (by kernel_rfl) (fun _ _ _ h => h) (Or.inl ⟨by rfl, ?_⟩) (by assumption) ?_
          rotate_left
          · intro w hSw; (try dsimp only at hSw); go_simp; try with_reducible rfl
          try simp only [Act.put, List.setIfInBounds_toArray]
          refine wpAnyH_take (i := 1) (v := ?_) rfl (by kernel_rfl) (by kernel_rfl) (by kernel_rfl) (fun _ _ _ h => h) (Or.inl ⟨by rfl, ?_⟩) (by assumption) ?_
          rotate_left
          · intro w hSw; (try dsimp only at hSw); go_simp; try with_reducible rfl
          try simp only [Act.put]
          refine wpAnyH_take (i := 2) (v := ?_) rfl (by kernel_rfl) (by kernel_rfl) (by kernel_rfl) (fun _ _ _ h => h) (Or.inl ⟨by rfl, ?_⟩) (by assumption) ?_
          rotate_left
          · intro w hSw; (try dsimp only at hSw); go_simp; try with_reducible rfl
          try simp only [Act.put]
          refine wpAnyH_take (i := 5) (v := ?_) rfl (by kernel_rfl) (by kernel_rfl) (by kernel_rfl) (fun _ _ _ h => h) (Or.inl ⟨by rfl, ?_⟩) (by assumption) ?_
          rotate_left
          · intro w hSw; (try dsimp only at hSw); go_simp; try with_reducible rfl
          try simp only [Act.put]
          refine wpAnyH_take (i := 9) (v := ?_) rfl (by kernel_rfl) (by kernel_rfl) (by kernel_rfl) (fun _ _ _ h => h) (Or.inl ⟨by rfl, ?_⟩) (by assumption) ?_
          rotate_left
          · intro w hSw; (try dsimp only at hSw); go_simp; try with_reducible rfl
          try simp only [Act.put]
          refine wpAnyH_take (i := 10) (v := ?_) rfl (by kernel_rfl) (by kernel_rfl) (by kernel_rfl) (fun _ _ _ h => h) (Or.inl ⟨by rfl, ?_⟩) (by assumption) ?_
          rotate_left
          · intro w hSw; (try dsimp only at hSw); go_simp; try with_reducible rfl
          try simp only [Act.put]
          refine wpAnyH_ready (rs := [3]) (by kernel_rfl) (by simp) ?_
          refine AllReadyH.cons rfl (fun K hK => ?_) AllReadyH.nil
          go_simp
          (with_reducible refine (CO.out _).mono ?_)
          rintro en wz ⟨rfl, hbz⟩
          replace hbz := ud2 hbz
          obtain ⟨zc, zf⟩ := CK.out _ hbz
          replace RN := Lib.hid (RN.out _ hbz)
          try dsimp only
          refine hK.out _ _ (gt (gr _ _) hbz) (fun hHeld => ?_)
          clear hK K
          try simp only [Act.put, List.setIfInBounds_toArray, List.set_cons_zero, List.set_cons_succ]
          refine wpAnyH_take (i := 4) (v := ?_) rfl (by kernel_rfl) (by kernel_rfl) (by kernel_rfl) (fun _ _ _ h => h) (Or.inl ⟨by rfl, ?_⟩) (by assumption) ?_
          rotate_left
          · intro w hSw; (try dsimp only at hSw); go_simp; try with_reducible rfl
          try simp only [Act.put, List.setIfInBounds_toArray]
          refine wpAnyH_take (i := 6) (v := ?_) rfl (by kernel_rfl) (by kernel_rfl) (by kernel_rfl) (fun _ _ _ h => h) (Or.inl ⟨by rfl, ?_⟩) (by assumption) ?_
          rotate_left
          · intro w hSw; (try dsimp only at hSw); go_simp; try with_reducible rfl
          try simp only [Act.put]
          refine wpAnyH_take (i := 7) (v := ?_) rfl (by kernel_rfl) (by kernel_rfl) (by kernel_rfl) (fun _ _ _ h => h) (Or.inl ⟨by rfl, ?_⟩) (by assumption) ?_
          rotate_left
          · intro w hSw; (try dsimp only at hSw); go_simp; try with_reducible rfl
          try simp only [Act.put]
          refine wpAnyH_ready (rs := [8]) (by kernel_rfl) (by simp) ?_
          refine AllReadyH.cons rfl (fun K hK => ?_) AllReadyH.nil
          go_simp
          try dsimp only
          refine hK.out _ _ (by assumption) (fun hHeld => ?_)
          clear hK K
          try simp only [Act.put, List.setIfInBounds_toArray, List.set_cons_zero, List.set_cons_succ]
          refine wpAnyH_take (i := 11) (v := ?_) rfl (by kernel_rfl) (by kernel_rfl) (by kernel_rfl) (fun _ _ _ h => h) (Or.inl ⟨by rfl, ?_⟩) (by assumption) ?_
          rotate_left
          · intro w hSw; (try dsimp only at hSw); go_simp; try with_reducible rfl
          try simp only [Act.put, List.setIfInBounds_toArray]
          refine wpAnyH_take (i := 12) (v := ?_) rfl (by kernel_rfl) (by kernel_rfl) (by kernel_rfl) (fun _ _ _ h => h) (Or.inl ⟨by rfl, ?_⟩) (by assumption) ?_
          rotate_left
          · intro w hSw; (try dsimp only at hSw); go_simp; try with_reducible rfl
          try simp only [Act.put]
          refine wpAnyH_ready (rs := [13]) (by kernel_rfl) (by simp) ?_
          refine AllReadyH.cons rfl (fun K hK => ?_) AllReadyH.nil
          go_simp
          try dsimp only
          refine hK.out _ _ (gs (by assumption) _) (fun hHeld => ?_)
          clear hK K
          try simp only [Act.put, List.setIfInBounds_toArray, List.set_cons_zero, List.set_cons_succ]
          refine wpAnyH_done (by kernel_rfl) ?_ _
          have hV10 := hHeld
          clear hHeld
          (try clear P0 P1 P2 P3 P4 P5 P6 P7)
          gi_wp2
          exact ⟨RN.out, ltn hkn.out⟩
        · obtain rfl : k = eN u (eJ N ns g j) := by omega
          have hR := Lib.hid (And.intro hKo (ti_congr hT HTA.out))
          gi_wp2
          exact hR.out
    case done =>
      rintro D V h hD hK
      have hle : w.heap.size ≤ D := by omega
      obtain ⟨h1, ⟨⟨h2, _⟩, h3⟩, _⟩ := h
      gi_wp2
      refine ⟨by simp, .inl ⟨_, _, rfl, run_takeDeferred hK, ?_⟩⟩
      exact ⟨_, results_tmp rfl _ _ _, bs, rfl, oi_put _ hK rfl h1, by omega, below_put h3 hle _⟩
  generalize ((w.alloc (.cells #[.int .i64 u] 3)).alloc (.cells #[.int .i64 Le, .int .i64 Lo, .int .i64 (W : Int), .int .i64 (H : Int), .slice d dn dc] 40)) = W0 at *
  have P0 : ∀ w', Below W0.heap.size W0 w' → w'.cell? ⟨w.heap.size + 1, 0, none⟩ = some (.int .i64 Le) := fun _ h => kc h c50
  have P1 : ∀ w', Below W0.heap.size W0 w' → w'.cell? ⟨w.heap.size + 1, 1, none⟩ = some (.int .i64 Lo) := fun _ h => kc h c51
  have P2 : ∀ w', Below W0.heap.size W0 w' → w'.cell? ⟨w.heap.size + 1, 2, none⟩ = some (.int .i64 (W : Int)) := fun _ h => kc h c52
  have P3 : ∀ w', Below W0.heap.size W0 w' → w'.cell? ⟨w.heap.size + 1, 3, none⟩ = some (.int .i64 (H : Int)) := fun _ h => kc h c53
  have P4 : ∀ w', Below W0.heap.size W0 w' → w'.cell? ⟨w.heap.size + 1, 4, none⟩ = some (.slice d dn dc) := fun _ h => kc h c54
  refine wpIn_mono (Q := NoPanic (Exit.then Kx Qx)) ?_ NoPanic.imp
  refine region_held_wide (S := fun w' => Below W0.heap.size W0 w') (by rintro ⟨_, _, h⟩; obtain ⟨_, h1, _⟩ := h; cases h1) (by kernel_rfl) mixedF (bd1 (Below.refl _ _)) (fun hHeld => ?_)
  refine wpAnyH_take (i := 0) (v := ?_) rfl (by kernel_rfl) (by kernel_rfl) (by kernel_rfl) (fun _ _ _ h => h) (Or.inl ⟨by rfl, ?_⟩) (by assumption) ?_
  rotate_left
  · intro w hSw; (try dsimp only at hSw); go_simp; try with_reducible rfl
  try simp only [Act.put, List.setIfInBounds_toArray]
  refine wpAnyH_take (i := 1) (v := ?_) rfl (by kernel_rfl) (by kernel_rfl) (by kernel_rfl) (fun _ _ _ h => h) (Or.inl ⟨by rfl, ?_⟩) (by assumption) ?_
  rotate_left
  · intro w hSw; (try dsimp only at hSw); go_simp; try with_reducible rfl
  try simp only [Act.put]
  refine wpAnyH_take (i := 2) (v := ?_) rfl (by kernel_rfl) (by kernel_rfl) (by kernel_rfl) (fun _ _ _ h => h) (Or.inl ⟨by rfl, ?_⟩) (by assumption) ?_
  rotate_left
  · intro w hSw; (try dsimp only at hSw); go_simp; try with_reducible rfl
  try simp only [Act.put]
  refine wpAnyH_take (i := 3) (v := ?_) rfl (by kernel_rfl) (by kernel_rfl) (by kernel_rfl) (fun _ _ _ h => h) (Or.inl ⟨by rfl, ?_⟩) (by assumption) ?_
  rotate_left
  · intro w hSw; (try dsimp only at hSw); go_simp; try with_reducible rfl
  try simp only [Act.put]
  refine wpAnyH_take (i := 4) (v := ?_) rfl (by kernel_rfl) (by kernel_rfl) (by kernel_rfl) (fun _ _ _ h => h) (Or.inl ⟨by rfl, ?_⟩) (by assumption) ?_
  rotate_left
  · intro w hSw; (try dsimp only at hSw); go_simp; try with_reducible rfl
  try simp only [Act.put]
  refine wpAnyH_ready (rs := [5, 8]) (by kernel_rfl) (by simp) ?_
  refine AllReadyH.cons rfl (fun K hK => ?_) (AllReadyH.cons rfl (fun K hK => ?_) AllReadyH.nil)
  · go_simp
    (with_reducible refine (CO.out _).mono ?_)
    rintro en wa ⟨rfl, hba⟩
    obtain ⟨wm, hmk, hO, hBm, hltm⟩ := make_ints wa M hM1
    obtain ⟨wn, hnk, hP, hBn, hltn⟩ := make_ints (wa.alloc (.cells #[.slice none 0 0] 33)) M hM1
    have fB1 := kc hBn (new1 wa _ _).1
    have fB0 := kf hBn (new1 wa _ _).1 (new1 wa _ _).2
    try have fA1 := kc hba (new1d W0 _ _).1
    try have fA0 := kf hba (new1d W0 _ _).1 (new1d W0 _ _).2
    try have fA2 := kc hBm fA1
    try have fA3 := kf hBm fA1 fA0
    try dsimp only
    refine hK.out _ _ (bt (by assumption) hba) (fun hHeld => ?_)
    clear hK K
    try simp only [Act.put, List.setIfInBounds_toArray, List.set_cons_zero, List.set_cons_succ]
    refine wpAnyH_take (i := 6) (v := ?_) rfl (by kernel_rfl) (by kernel_rfl) (by kernel_rfl) (fun _ _ _ h => h) (Or.inl ⟨by rfl, ?_⟩) (by assumption) ?_
    rotate_left
    · intro w hSw; (try dsimp only at hSw); go_simp; try with_reducible rfl
    try simp only [Act.put, List.setIfInBounds_toArray]
    refine wpAnyH_ready (rs := [7, 8]) (by kernel_rfl) (by simp) ?_
    refine AllReadyH.cons rfl (fun K hK => ?_) (AllReadyH.cons rfl (fun K hK => ?_) AllReadyH.nil)
    · go_simp
      try dsimp only
      refine hK.out _ _ (by first | exact bt (by assumption) hBm | exact bt (by assumption) hBn) (fun hHeld => ?_)
      clear hK K
      try simp only [Act.put, List.setIfInBounds_toArray, List.set_cons_zero, List.set_cons_succ]
      refine wpAnyH_ready (rs := [8]) (by kernel_rfl) (by simp) ?_
      refine AllReadyH.cons rfl (fun K hK => ?_) AllReadyH.nil
      go_simp
      try dsimp only
      refine hK.out _ _ (ba (by assumption) _) (fun hHeld => ?_)
      clear hK K
      try simp only [Act.put, List.setIfInBounds_toArray, List.set_cons_zero, List.set_cons_succ]
      refine wpAnyH_ready (rs := [9]) (by kernel_rfl) (by simp) ?_
      refine AllReadyH.cons rfl (fun K hK => ?_) AllReadyH.nil
      go_simp
      try dsimp only
      refine hK.out _ _ ?_ ?_
      · first | (with_reducible exact ba (by assumption) _) | ((with_reducible refine bs (by assumption) ?_ _); first | exact Nat.le_refl _ | (have q1 := hba.size; have q2 := hBm.size; simp at q1 q2 ⊢; omega))
      intro hHeld
      clear hK K
      try simp only [Act.put, List.setIfInBounds_toArray, List.set_cons_zero, List.set_cons_succ]
      refine wpAnyH_done (by kernel_rfl) ?_ _
      have k1 : (wm.alloc (.cells #[.slice (some ⟨wa.heap.size, 0, none⟩) M M] 33)).cell? ⟨wm.heap.size, 0, none⟩ = some (.slice (some ⟨wa.heap.size, 0, none⟩) M M) := by go_cell
      have k2 : (wm.alloc (.cells #[.slice (some ⟨wa.heap.size, 0, none⟩) M M] 33)).frozen? ⟨wm.heap.size, 0, none⟩ = false := by go_cell
      have q0 := hba.size
      have q1 := hBm.size
      have q3 := hltn
      simp at q0 q3
      have q2 := hs0.out
      exact HC.out wa.heap.size wm.heap.size _ ⟨⟨k1, kc hHeld c4, ⟨kc hHeld c50, kc hHeld c51, kc hHeld c52, kc hHeld c53, kc hHeld c54⟩⟩, bt hW0 hHeld⟩ (oi_below hO (ba (Below.refl _ _) _)) k2 (by omega) (by omega) (by omega) (by simp; omega)
    · go_simp
      try dsimp only
      refine hK.out _ _ (ba (by assumption) _) (fun hHeld => ?_)
      clear hK K
      try simp only [Act.put, List.setIfInBounds_toArray, List.set_cons_zero, List.set_cons_succ]
      refine wpAnyH_ready (rs := [7]) (by kernel_rfl) (by simp) ?_
      refine AllReadyH.cons rfl (fun K hK => ?_) AllReadyH.nil
      go_simp
      try dsimp only
      refine hK.out _ _ (by first | exact bt (by assumption) hBm | exact bt (by assumption) hBn) (fun hHeld => ?_)
      clear hK K
      try simp only [Act.put, List.setIfInBounds_toArray, List.set_cons_zero, List.set_cons_succ]
      refine wpAnyH_ready (rs := [9]) (by kernel_rfl) (by simp) ?_
      refine AllReadyH.cons rfl (fun K hK => ?_) AllReadyH.nil
      go_simp
      try dsimp only
      refine hK.out _ _ ?_ ?_
      · first | (with_reducible exact ba (by assumption) _) | ((with_reducible refine bs (by assumption) ?_ _); first | exact Nat.le_refl _ | (have q1 := hba.size; have q2 := hBm.size; simp at q1 q2 ⊢; omega))
      intro hHeld
      clear hK K
      try simp only [Act.put, List.setIfInBounds_toArray, List.set_cons_zero, List.set_cons_succ]
      refine wpAnyH_done (by kernel_rfl) ?_ _
      have k1 : (wn.setCell ⟨wa.heap.size, 0, none⟩ (.slice (some ⟨wa.heap.size + 1, 0, none⟩) M M)).cell? ⟨wa.heap.size, 0, none⟩ = some (.slice (some ⟨(wa.heap.size + 1), 0, none⟩) M M) := by go_cell
      have k2 : (wn.setCell ⟨wa.heap.size, 0, none⟩ (.slice (some ⟨wa.heap.size + 1, 0, none⟩) M M)).frozen? ⟨wa.heap.size, 0, none⟩ = false := by go_cell
      have q0 := hba.size
      have q1 := hBm.size
      have q3 := hltn
      simp at q0 q3
      rw [World.size_alloc] at hP
      have q2 := hs0.out
      exact HC.out (wa.heap.size + 1) wa.heap.size _ ⟨⟨k1, kc hHeld c4, ⟨kc hHeld c50, kc hHeld c51, kc hHeld c52, kc hHeld c53, kc hHeld c54⟩⟩, bt hW0 hHeld⟩ (oi_other hP (by omega)) k2 (by omega) (by omega) (by omega) (by simp; omega)
  · go_simp
    try dsimp only
    refine hK.out _ _ (ba (by assumption) _) (fun hHeld => ?_)
    clear hK K
    try simp only [Act.put, List.setIfInBounds_toArray, List.set_cons_zero, List.set_cons_succ]
    refine wpAnyH_ready (rs := [5]) (by kernel_rfl) (by simp) ?_
    refine AllReadyH.cons rfl (fun K hK => ?_) AllReadyH.nil
    go_simp
    (with_reducible refine (CO.out _).mono ?_)
    rintro en wa ⟨rfl, hba⟩
    obtain ⟨wm, hmk, hO, hBm, hltm⟩ := make_ints wa M hM1
    obtain ⟨wn, hnk, hP, hBn, hltn⟩ := make_ints (wa.alloc (.cells #[.slice none 0 0] 33)) M hM1
    have fB1 := kc hBn (new1 wa _ _).1
    have fB0 := kf hBn (new1 wa _ _).1 (new1 wa _ _).2
    try have fA1 := kc hba (new1d W0 _ _).1
    try have fA0 := kf hba (new1d W0 _ _).1 (new1d W0 _ _).2
    try have fA2 := kc hBm fA1
    try have fA3 := kf hBm fA1 fA0
    try dsimp only
    refine hK.out _ _ (bt (by assumption) hba) (fun hHeld => ?_)
    clear hK K
    try simp only [Act.put, List.setIfInBounds_toArray, List.set_cons_zero, List.set_cons_succ]
    refine wpAnyH_take (i := 6) (v := ?_) rfl (by kernel_rfl) (by kernel_rfl) (by kernel_rfl) (fun _ _ _ h => h) (Or.inl ⟨by rfl, ?_⟩) (by assumption) ?_
    rotate_left
    · intro w hSw; (try dsimp only at hSw); go_simp; try with_reducible rfl
    try simp only [Act.put, List.setIfInBounds_toArray]
    refine wpAnyH_ready (rs := [7]) (by kernel_rfl) (by simp) ?_
    refine AllReadyH.cons rfl (fun K hK => ?_) AllReadyH.nil
    go_simp
    try dsimp only
    refine hK.out _ _ (by first | exact bt (by assumption) hBm | exact bt (by assumption) hBn) (fun hHeld => ?_)
    clear hK K
    try simp only [Act.put, List.setIfInBounds_toArray, List.set_cons_zero, List.set_cons_succ]
    refine wpAnyH_ready (rs := [9]) (by kernel_rfl) (by simp) ?_
    refine AllReadyH.cons rfl (fun K hK => ?_) AllReadyH.nil
    go_simp
    try dsimp only
    refine hK.out _ _ ?_ ?_
    · first | (with_reducible exact ba (by assumption) _) | ((with_reducible refine bs (by assumption) ?_ _); first | exact Nat.le_refl _ | (have q1 := hba.size; have q2 := hBm.size; simp at q1 q2 ⊢; omega))
    intro hHeld
    clear hK K
    try simp only [Act.put, List.setIfInBounds_toArray, List.set_cons_zero, List.set_cons_succ]
    refine wpAnyH_done (by kernel_rfl) ?_ _
    have k1 : (wm.setCell ⟨W0.heap.size, 0, none⟩ (.slice (some ⟨wa.heap.size, 0, none⟩) M M)).cell? ⟨W0.heap.size, 0, none⟩ = some (.slice (some ⟨wa.heap.size, 0, none⟩) M M) := by go_cell
    have k2 : (wm.setCell ⟨W0.heap.size, 0, none⟩ (.slice (some ⟨wa.heap.size, 0, none⟩) M M)).frozen? ⟨W0.heap.size, 0, none⟩ = false := by go_cell
    have q0 := hba.size
    have q1 := hBm.size
    have q3 := hltn
    simp at q0 q3
    have q2 := hs0.out
    exact HC.out wa.heap.size W0.heap.size _ ⟨⟨k1, kc hHeld c4, ⟨kc hHeld c50, kc hHeld c51, kc hHeld c52, kc hHeld c53, kc hHeld c54⟩⟩, bt hW0 hHeld⟩ (oi_other hO (by omega)) k2 (by omega) (by omega) (by omega) (by simp; omega)
end Go.Proofs.Ytjeiapgniflnaaa.Rs
