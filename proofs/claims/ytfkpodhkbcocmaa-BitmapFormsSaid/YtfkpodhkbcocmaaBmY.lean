/-
  Layer 4 (bitmap): the small numbers of a case.
-/
import Derived.Test.YtfkpodhkbcocmaaBmX
namespace Go.Proofs.Ytfkpodhkbcocmaa.Bm
open Go.RowKit
/-- Numbers of the call's own. -/
def OI (w : World) (b n : Nat) (f : Nat → Int) : Prop := ∀ i, i < n → w.cell? ⟨b, i, none⟩ = some (.int .i64 (f i)) ∧ w.frozen? ⟨b, i, none⟩ = false
theorem oi_below {w W : World} {b n : Nat} {f : Nat → Int} (h : OI w b n f) (hB : Below w.heap.size w W) : OI W b n f := fun i hi =>
  ⟨kc hB (block_lt_of_cell (h i hi).1) (h i hi).1, kf hB (block_lt_of_cell (h i hi).1) (h i hi).2⟩
theorem oi_set {w : World} {b n k : Nat} {f g : Nat → Int} {v : Int} (h : OI w b n f) (hk : k < n) (e : ∀ i, g i = if i = k then v else f i) : OI (w.setCell ⟨b, k, none⟩ (.int .i64 v)) b n g := fun i hi => by
  obtain ⟨h1, h2⟩ := h i hi
  obtain ⟨h3, h4⟩ := h k hk
  rw [e i]
  by_cases hik : i = k
  · subst hik
    rw [if_pos rfl]
    exact ⟨by go_cell, by go_cell⟩
  · rw [if_neg hik]
    have hne : ¬ k = i := fun h => hik h.symm
    exact ⟨by go_cell, by go_cell⟩
/-- What small makes of a number. -/
def sv (x : Int) : Int := x % 25 - 6
theorem sv_in (x : Int) : -6 ≤ sv x ∧ sv x ≤ 18 := by unfold sv; omega
def l4 (l0 l1 l2 l3 : Int) (i : Nat) : Int := [l0, l1, l2, l3].getD i 0
def ms (l : Nat → Int) (k i : Nat) : Int := if i < k then sv (l i) else l i
def SRel (w : World) (l : Nat → Int) (s7 : Value) (V : World) : Prop :=
  ∃ k : Nat, k ≤ 4 ∧ s7 = .int .i64 k ∧ OI V (w.heap.size + 1 + 1) 4 (ms l k) ∧ OI V (w.heap.size + 1) 4 (fun _ => 0) ∧ Below w.heap.size w V
theorem oi_far {w : World} {b b' n k : Nat} {f : Nat → Int} {v : Value} (h : OI w b n f) (hne : ¬ b' = b) : OI (w.setCell ⟨b', k, none⟩ v) b n f := fun i hi => by
  obtain ⟨h1, h2⟩ := h i hi
  exact ⟨by go_cell, by go_cell⟩
theorem srel_next {w V : World} {l : Nat → Int} {k : Nat} (hk : k < 4) (h1 : OI V (w.heap.size + 1 + 1) 4 (ms l k)) (h2 : OI V (w.heap.size + 1) 4 (fun _ => 0)) (hB : Below w.heap.size w V) {x : Int} (hx : x = sv (l k)) :
    SRel w l (.int .i64 ((k : Int) + 1)) (V.setCell ⟨w.heap.size + 1 + 1, k, none⟩ (.int .i64 x)) :=
  ⟨k + 1, by omega, by congr 1, oi_set h1 hk (fun i => by
    subst hx
    unfold ms
    by_cases h : i = k
    · subst h
      rw [if_pos (by omega), if_pos rfl]
    · rw [if_neg h]
      by_cases h3 : i < k
      · rw [if_pos (by omega), if_pos h3]
      · rw [if_neg (by omega), if_neg h3]), oi_far h2 (by omega), bs hB (by simp only; omega) _⟩
theorem oi_four (X : World) (a b c d : Int) (T : TypeId) : OI (X.alloc (.cells #[.int .i64 a, .int .i64 b, .int .i64 c, .int .i64 d] T)) X.heap.size 4 (l4 a b c d) := fun i hi => by
  have : i = 0 ∨ i = 1 ∨ i = 2 ∨ i = 3 := by omega
  rcases this with rfl | rfl | rfl | rfl
  · exact ⟨by simp [l4], by go_cell⟩
  · exact ⟨by simp [l4], by go_cell⟩
  · exact ⟨by simp [l4], by go_cell⟩
  · exact ⟨by simp [l4], by go_cell⟩
set_option maxRecDepth 100000 in
set_option maxHeartbeats 4000000 in
theorem small_any (aA : Option Addr) (nA cA : Nat) (aB : Option Addr) (nB cB : Nat) (q l0 l1 l2 l3 : Int) (h0 : R64 l0) (h1 : R64 l1) (h2 : R64 l2) (h3 : R64 l3) (w : World) :
    Calls Try.prog 18 #[caseV aA nA cA aB nB cB q l0 l1 l2 l3] w fun e w' => e = .returned (.agg #[.int .i64 (sv l0), .int .i64 (sv l1), .int .i64 (sv l2), .int .i64 (sv l3)]) ∧ Below w.heap.size w w' := by
  have MO := Lib.hid (fun k (hk : k < 4) => mod_any (l4 l0 l1 l2 l3 k) 25 (by
    have : k = 0 ∨ k = 1 ∨ k = 2 ∨ k = 3 := by omega
    rcases this with rfl | rfl | rfl | rfl
    · exact h0
    · exact h1
    · exact h2
    · exact h3) (by omega))
  clear h0 h1 h2 h3
  unfold caseV
  go_enter Try.func18, Try.ntmps18
  go_wp2_with fail
  have o1 := oi_four (w.alloc (.cells #[.slice aA nA cA, .slice aB nB cB, .int .i64 q, .int .i64 l0, .int .i64 l1, .int .i64 l2, .int .i64 l3] 25)) 0 0 0 0 23
  have o2 := oi_four ((w.alloc (.cells #[.slice aA nA cA, .slice aB nB cB, .int .i64 q, .int .i64 l0, .int .i64 l1, .int .i64 l2, .int .i64 l3] 25)).alloc (.cells #[.int .i64 0, .int .i64 0, .int .i64 0, .int .i64 0] 23)) l0 l1 l2 l3 23
  simp only [World.size_alloc] at o1 o2
  replace o1 := oi_below o1 (ba (Below.refl _ _) (.cells #[.int .i64 l0, .int .i64 l1, .int .i64 l2, .int .i64 l3] 23))
  go_loopw [7] (fun s7 V => SRel w (l4 l0 l1 l2 l3) s7 V) (fun s7 _ => 4 - (intOf s7).toNat)
  case atStart =>
    refine ⟨0, by omega, rfl, fun i hi => ?_, fun i hi => ?_, ba (ba (ba (Below.refl _ _) _) _) _⟩
    · have := o2 i hi
      unfold ms
      rw [if_neg (by omega)]
      exact this
    · have := o1 i hi
      have e : l4 0 0 0 0 i = 0 := by
        have : i = 0 ∨ i = 1 ∨ i = 2 ∨ i = 3 := by omega
        rcases this with rfl | rfl | rfl | rfl <;> rfl
      rw [e] at this
      exact this
  case round =>
    clear o1 o2
    obtain ⟨k, hk, rfl, o1, o2, hB⟩ := hrel
    rename World => V
    rcases Nat.lt_or_ge k 4 with hlt | hge
    · have MK := Lib.hid (MO.out k hlt)
      obtain ⟨c1, c2⟩ := o1 k hlt
      have e : ms (l4 l0 l1 l2 l3) k k = l4 l0 l1 l2 l3 k := by unfold ms; rw [if_neg (by omega)]
      rw [e] at c1
      obtain ⟨b1, b2⟩ := sv_in (l4 l0 l1 l2 l3 k)
      have R := Lib.hid (fun x hx => srel_next (x := x) hlt o1 o2 hB hx)
      have hsv : l4 l0 l1 l2 l3 k % 25 = sv (l4 l0 l1 l2 l3 k) + 6 := by unfold sv; omega
      rw [hsv] at MK
      clear hsv e o1 o2
      generalize hx : sv (l4 l0 l1 l2 l3 k) = x at *
      clear hx
      generalize l4 l0 l1 l2 l3 k = y at *
      go_wp2_with fail
      refine (MK.out _).mono ?_
      rintro e w2 ⟨rfl, rfl⟩
      go_wp2_with fail
      exact ⟨R.out x rfl, by simp [intOf]; omega⟩
    · obtain rfl : k = 4 := by omega
      have c0 : V.cell? ⟨w.heap.size + 1 + 1, 0, none⟩ = some (.int .i64 (sv l0)) := (o1 0 (by omega)).1
      have c1 : V.cell? ⟨w.heap.size + 1 + 1, 1, none⟩ = some (.int .i64 (sv l1)) := (o1 1 (by omega)).1
      have c2 : V.cell? ⟨w.heap.size + 1 + 1, 2, none⟩ = some (.int .i64 (sv l2)) := (o1 2 (by omega)).1
      have c3 : V.cell? ⟨w.heap.size + 1 + 1, 3, none⟩ = some (.int .i64 (sv l3)) := (o1 3 (by omega)).1
      obtain ⟨r0, f0⟩ := o2 0 (by omega)
      obtain ⟨r1, f1⟩ := o2 1 (by omega)
      obtain ⟨r2, f2⟩ := o2 2 (by omega)
      obtain ⟨r3, f3⟩ := o2 3 (by omega)
      clear o1 o2 MO
      go_wp2_with fail
      refine bodyPost_ret (v := .agg #[.int .i64 (sv l0), .int .i64 (sv l1), .int .i64 (sv l2), .int .i64 (sv l3)]) (by simp [results, Try.results18, go_sem, r0, r1, r2, r3]) rfl ⟨rfl, ?_⟩
      exact bs (bs (bs (bs hB (by simp only; omega) _) (by simp only; omega) _) (by simp only; omega) _) (by simp only; omega) _
end Go.Proofs.Ytfkpodhkbcocmaa.Bm
