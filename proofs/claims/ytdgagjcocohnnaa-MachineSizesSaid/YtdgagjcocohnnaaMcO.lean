/-
  Layer 9 (machine): the law's own functions; runs over an outline of one contour with three points.
-/
import Derived.Test.YtdgagjcocohnnaaMcN
import Derived.Test.YtdgagjcocohnnaaMcS
import Derived.Test.YtdgagjcocohnnaaOtV
import Derived.Test.YtdgagjcocohnnaaOtB
namespace Go.Proofs.Ytdgagjcocohnnaa.Mc
open Go.RowKit
open Go.Proofs.Ytdgagjcocohnnaa.Ot (Pt PtAt PA PO OO OT pre pre_mono shP p0 EqO EqC rSame_any rCopy_any mo_oo oo_ot ot_below ot_congr)
theorem xlimited_any (x : Int) (w : World) : Calls Try.prog 20 #[.int .i64 x] w fun r w' => r = .returned (.int .i64 (lim x)) ∧ w' = w := by
  have e : lim x = max (-1073741824) (min 1073741824 x) := by
    unfold lim
    omega
  rw [e]
  go_enter Try.func20, Try.ntmps20
  go_wp2
  go_ret
  exact ⟨rfl, rfl⟩
theorem ot1 {V : World} {b n c : Nat} {a : Option Addr} {f : Nat → Pt} (hc : V.cell? ⟨b, 0, none⟩ = some (.slice a n c)) (h1 : n ≤ c) (h2 : c ≤ 9223372036854775807) (hp : PA V a n f) : OT V (some ⟨b, 0, none⟩) 1 (fun _ => n) (fun _ => f) := fun k hk => by
  obtain rfl : k = 0 := by omega
  exact ⟨b, 0, a, c, rfl, hc, h1, h2, hp⟩
def exF (i : Nat) : Pt := match i with | 0 => ⟨10, 0, true⟩ | 1 => ⟨100, 50, true⟩ | 2 => ⟨-31, 7, true⟩ | _ => p0
theorem pa_ex (V : World) (T : TypeId) : PA (V.alloc (.cells #[.int .i64 10, .int .i64 0, .bool true, .int .i64 100, .int .i64 50, .bool true, .int .i64 (-31), .int .i64 7, .bool true] T)) (some ⟨V.heap.size, 0, none⟩) 3 exF := by
  intro i hi
  have : i = 0 ∨ i = 1 ∨ i = 2 := by omega
  rcases this with rfl | rfl | rfl
  · exact ⟨_, _, rfl, by show World.cell? _ _ = some (Value.int IntKind.i64 10); go_cell, by show World.cell? _ _ = some (Value.int IntKind.i64 0); go_cell, by show World.cell? _ _ = some (Value.bool true); go_cell⟩
  · exact ⟨_, _, rfl, by show World.cell? _ _ = some (Value.int IntKind.i64 100); go_cell, by show World.cell? _ _ = some (Value.int IntKind.i64 50); go_cell, by show World.cell? _ _ = some (Value.bool true); go_cell⟩
  · exact ⟨_, _, rfl, by show World.cell? _ _ = some (Value.int IntKind.i64 (-31)); go_cell, by show World.cell? _ _ = some (Value.int IntKind.i64 7); go_cell, by show World.cell? _ _ = some (Value.bool true); go_cell⟩
set_option maxHeartbeats 2000000 in
theorem example_any (w : World) :
    Calls Try.prog 21 #[] w fun e w' => ∃ b, e = .returned (.slice (some ⟨b, 0, none⟩) 1 1) ∧ OT w' (some ⟨b, 0, none⟩) 1 (fun _ => 3) (fun _ => exF) ∧ Below w.heap.size w w' := by
  go_enter Try.func21, Try.ntmps21
  go_wp2
  go_ret
  exact ⟨_, rfl, ot1 (by go_cell) (Nat.le_refl _) (by omega) (Go.Proofs.Ytdgagjcocohnnaa.Ot.pa_below (pa_ex w _) (ba (Below.refl _ _) _)), ba (ba (Below.refl _ _) _) _⟩
/-- An outline in which a point is another one. -/
def wiF (f : Nat → Pt) (i : Nat) (x y : Int) (j : Nat) : Pt := if j = i then ⟨x, y, (f j).o⟩ else f j
set_option maxRecDepth 100000 in
set_option maxHeartbeats 4000000 in
theorem with_any (a : Option Addr) (c : Nat) (f : Nat → Pt) (i : Nat) (hi : i < 3) (x y : Int) (w : World) (hA : OT w a 1 (fun _ => 3) (fun _ => f)) :
    Calls Try.prog 22 #[.slice a 1 c, .int .i64 (i : Int), .int .i64 x, .int .i64 y] w fun e w' => ∃ a' c', e = .returned (.slice a' 1 c') ∧ OT w' a' 1 (fun _ => 3) (fun _ => wiF f i x y) ∧ Below w.heap.size w w' := by
  have CP := Lib.hid (rCopy_any a 1 c (fun _ => 3) (fun _ => f) (by omega) (fun _ _ => by omega) w hA)
  have i1 : (0 : Int) ≤ (i : Int) := by omega
  have i2 : (i : Int) < 3 := by omega
  clear hA
  go_enter Try.func22, Try.ntmps22
  go_upto_region 2 with ((with_reducible refine CP.out.mono ?_); rintro e V ⟨v, xs, B, rfl, hM⟩)
  have hbe := hM.be
  obtain ⟨a', c', S, rfl, hc1, hc2, ha', hO, hSL⟩ := mo_oo hM
  obtain rfl := ha' (by omega)
  obtain ⟨a2, c2, e1, h1, h2, h3⟩ := hO.cell 0 (by omega)
  obtain rfl := h3 (by omega)
  have hP := hO.pts 0 (by omega)
  have hfar := hO.far 0 (by omega) (by omega)
  obtain ⟨b0, hb0⟩ : ∃ b, B 0 = b := ⟨_, rfl⟩
  rw [hb0] at e1 hP hfar
  obtain ⟨⟨p1, p2, p3⟩, q1, q2, q3⟩ := hP i hi
  have n1 : ¬ b0 = S := hfar.2
  have P2 := Lib.hid (po_y (po_x hP hi x) hi y)
  have E2 : Hid (((V.setCell ⟨b0, i * 3, none⟩ (.int .i64 x)).setCell ⟨b0, i * 3 + 1, none⟩ (.int .i64 y)).cell? ⟨S, 0, none⟩ = some (.slice (some ⟨b0, 0, none⟩) 3 c2)) := Lib.hid (by go_cell)
  have B2 : Hid (Below w.heap.size w ((V.setCell ⟨b0, i * 3, none⟩ (.int .i64 x)).setCell ⟨b0, i * 3 + 1, none⟩ (.int .i64 y))) := Lib.hid ((hbe.setCell hfar.1 _).setCell hfar.1 _)
  have e2 : (V.setCell ⟨b0, i * 3, none⟩ (.int .i64 x)).cell? ⟨S, 0, none⟩ = some (.slice (some ⟨b0, 0, none⟩) 3 c2) := by go_cell
  have p2' : (V.setCell ⟨b0, i * 3, none⟩ (.int .i64 x)).cell? ⟨b0, i * 3 + 1, none⟩ = some (.int .i64 (f i).y) := far_cell p2 (.inr (by omega))
  have q2' : (V.setCell ⟨b0, i * 3, none⟩ (.int .i64 x)).frozen? ⟨b0, i * 3 + 1, none⟩ = false := fz_set q2
  clear hO hM hSL hP hfar ha' CP hbe
  go_wp2_with fail
  go_ret
  refine ⟨_, ⟨_, rfl⟩, ot1 E2.out h1 h2 (Go.Proofs.Ytdgagjcocohnnaa.Ot.pa_congr (Go.Proofs.Ytdgagjcocohnnaa.Ot.po_pa P2.out) (fun j hj => ?_)), B2.out⟩
  unfold wiF
  by_cases e : j = i
  · subst e; simp
  · simp [e]
/-- What a run answers, by parts. -/
def isOk : Res → Bool
  | .ok _ => true
  | .er _ => false
def okL : Res → List Int
  | .ok s => s.l
  | .er _ => []
def okSt : Res → Int
  | .ok s => s.st
  | .er _ => 0
def okF : Res → Nat → Pt
  | .ok s => s.f
  | .er _ => fun _ => p0
def erE : Res → Int
  | .ok _ => 0
  | .er e => e
theorem is_ok {r : Res} (h : isOk r = true) : r = .ok ⟨okL r, okSt r, okF r⟩ := by
  cases r with
  | ok s => rfl
  | er e => cases h
theorem is_er {r : Res} (h : isOk r = false) : r = .er (erE r) := by
  cases r with
  | ok s => cases h
  | er e => rfl
/-- A run over the example. -/
def xR (f : Nat → Pt) (l : List Opn) (sz : Int) : Res := runL 3 sz l 0 ⟨[], 0, fl (fun _ => 3) (fun _ i => shP 0 0 (f i)) 1⟩
theorem x_ok {a : Option Addr} {c : Nat} {f : Nat → Pt} {l : List Opn} {pa : Option Addr} {pc : Nat} (sz : Int) (hpc : l.length ≤ pc ∧ pc ≤ 9223372036854775807) (w : World) (hA : OT w a 1 (fun _ => 3) (fun _ => f)) (hp : PrA w.heap.size w pa l) (hr : isOk (xR f l sz) = true) :
    Calls Try.prog 12 #[.slice pa l.length pc, .slice a 1 c, .int .i64 sz] w fun e w' => ∃ S, e = .returned (.tuple #[.slice (some ⟨S, 0, none⟩) 1 1, .int .i64 (okSt (xR f l sz)), .int .i64 0]) ∧ OT w' (some ⟨S, 0, none⟩) 1 (fun _ => 3) (fun _ => okF (xR f l sz)) ∧ Below w.heap.size w w' := by
  refine (Run_any a 1 c (fun _ => 3) (fun _ => f) (by omega) (by decide) l pa pc hpc sz w hA hp).mono ?_
  rintro e w' ⟨h1, _⟩
  obtain ⟨S, Bk, h2, h3, h4⟩ := h1 _ (is_ok hr)
  refine ⟨S, h2, ot_congr (oo_ot h3) (fun _ _ => rfl) (fun k hk i hi => ?_), h4⟩
  obtain rfl : k = 0 := by omega
  show okF _ (pre (fun _ => 3) 0 + i) = _
  rw [show pre (fun _ => 3) 0 + i = i from Nat.zero_add i]
  rfl
theorem x_er {a : Option Addr} {c : Nat} {f : Nat → Pt} {l : List Opn} {pa : Option Addr} {pc : Nat} (sz : Int) (hpc : l.length ≤ pc ∧ pc ≤ 9223372036854775807) (w : World) (hA : OT w a 1 (fun _ => 3) (fun _ => f)) (hp : PrA w.heap.size w pa l) (hr : isOk (xR f l sz) = false) :
    Calls Try.prog 12 #[.slice pa l.length pc, .slice a 1 c, .int .i64 sz] w fun e w' => e = .returned (.tuple #[.slice none 0 0, .int .i64 0, .int .i64 (erE (xR f l sz))]) ∧ Below w.heap.size w w' := by
  refine (Run_any a 1 c (fun _ => 3) (fun _ => f) (by omega) (by decide) l pa pc hpc sz w hA hp).mono ?_
  rintro e w' ⟨_, h1⟩
  exact h1 _ (is_er hr)
theorem x_same {a a' : Option Addr} {c c' : Nat} {g g' : Nat → Pt} (w : World) (hA : OT w a 1 (fun _ => 3) (fun _ => g)) (hB : OT w a' 1 (fun _ => 3) (fun _ => g')) (h : ∀ i, i < 3 → g i = g' i) :
    Calls Try.prog 14 #[.slice a 1 c, .slice a' 1 c'] w fun e w' => e = .returned (.bool true) ∧ Below w.heap.size w w' :=
  rSame_any a a' 1 c 1 c' (fun _ => 3) (fun _ => 3) (fun _ => g) (fun _ => g') true (Lib.hid ⟨fun _ => ⟨rfl, fun _ _ => ⟨rfl, h⟩⟩, fun _ => rfl⟩) (by omega) (by omega) (fun _ _ => by omega) (fun _ _ => by omega) w hA hB
/-- A program that has just been laid. -/
def opCells : List Opn → List Value
  | [] => []
  | p :: r => .int .i64 p.c :: .int .i64 p.n :: .int .i64 p.m :: opCells r
theorem opCells_at : ∀ (l : List Opn) (i : Nat) (p : Opn), l[i]? = some p → (opCells l)[i * 3]? = some (.int .i64 p.c) ∧ (opCells l)[i * 3 + 1]? = some (.int .i64 p.n) ∧ (opCells l)[i * 3 + 2]? = some (.int .i64 p.m)
  | [], _, _, h => by cases h
  | q :: r, 0, p, h => by
    simp at h
    subst h
    exact ⟨rfl, rfl, rfl⟩
  | q :: r, i + 1, p, h => by
    have := opCells_at r i p (by simpa using h)
    rw [show (i + 1) * 3 = i * 3 + 1 + 1 + 1 by omega]
    exact this
theorem pra_new (W : World) (l : List Opn) (T : TypeId) : PrA (W.heap.size + 1) (W.alloc (.cells (opCells l).toArray T)) (some ⟨W.heap.size, 0, none⟩) l := fun i p hp => by
  obtain ⟨h1, h2, h3⟩ := opCells_at l i p hp
  have e : ∀ j, (W.alloc (.cells (opCells l).toArray T)).cell? ⟨W.heap.size, 0 + j, none⟩ = (opCells l)[j]? := fun j => by
    rw [Nat.zero_add]
    exact (cell_of_row _ _ j _ _ _ (heap_alloc_last W _)).trans (by simp)
  refine ⟨W.heap.size, 0, rfl, Nat.lt_succ_self _, (e _).trans h1, ?_, ?_⟩
  · rw [Nat.add_assoc]; exact (e _).trans h2
  · rw [Nat.add_assoc]; exact (e _).trans h3
theorem pra_up {W W' : World} {n : Nat} {a : Option Addr} {l : List Opn} (h : PrA n W a l) (hB : Below W.heap.size W W') : PrA W'.heap.size W' a l := fun i p hp => by
  obtain ⟨b, o, e, _, h1, h2, h3⟩ := h i p hp
  have := block_lt_of_cell h1
  simp only at this
  exact ⟨b, o, e, Nat.lt_of_lt_of_le this hB.size, kc hB h1, kc hB h2, kc hB h3⟩
theorem pra_lit (W : World) (l : List Opn) (T : TypeId) : PrA (W.alloc (.cells (opCells l).toArray T)).heap.size (W.alloc (.cells (opCells l).toArray T)) (some ⟨W.heap.size, 0, none⟩) l := pra_up (pra_new W l T) (Below.refl _ _)
end Go.Proofs.Ytdgagjcocohnnaa.Mc
