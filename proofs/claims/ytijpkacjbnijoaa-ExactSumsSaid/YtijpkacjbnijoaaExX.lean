/-
  The walks of layer 1 (exact): the law's sum and mul, which keep a flag.
-/
import Derived.Test.YtijpkacjbnijoaaExP
namespace Go.Proofs.Ytijpkacjbnijoaa.Ex
open Go.RowKit

/-- A store of what the cell holds turns nothing. -/
theorem same_cell {w u : World} {b o : Nat} {v : Value} (h : Below w.heap.size w u) (hc : u.cell? ⟨b, o, none⟩ = some v) : Below w.heap.size w (u.setCell ⟨b, o, none⟩ v) := by
  have e : (u.setCell ⟨b, o, none⟩ v).heap = u.heap := by
    apply Array.ext_getElem?
    intro k
    simp only [World.setCell, Array.getElem?_modify]
    by_cases hk : b = k
    · subst hk
      simp only [World.cell?] at hc
      cases hb : u.heap[b]? with
      | none => simp
      | some x =>
        rw [hb] at hc
        cases x with
        | cells c t f =>
          simp at hc
          simp
          rw [Array.getElem?_eq_some_iff] at hc
          obtain ⟨hl, hv⟩ := hc
          subst hv
          simp [Array.setIfInBounds, hl]
        | _ => simp
    · simp [hk]
  exact ⟨h.os, h.tape, h.output, by rw [e]; exact h.size, fun k hk => by rw [e]; exact h.block k hk⟩

theorem sum_ok (n d m e a b : Int) (ok : Nat)
    (H : Hid (∀ w, Calls Try.prog 20 #[.agg #[.int .i64 n, .int .i64 d], .agg #[.int .i64 m, .int .i64 e]] w fun en w' => en = .returned (.tuple #[.agg #[.int .i64 a, .int .i64 b], .bool true]) ∧ Below w.heap.size w w')) (w : World)
    (hc : w.cell? ⟨ok, 0, none⟩ = some (.bool true)) (hf : w.frozen? ⟨ok, 0, none⟩ = false) :
    Calls Try.prog 27 #[.agg #[.int .i64 n, .int .i64 d], .agg #[.int .i64 m, .int .i64 e], .pointer (some ⟨ok, 0, none⟩)] w fun en w' => en = .returned (.agg #[.int .i64 a, .int .i64 b]) ∧ Below w.heap.size w w' := by
  have hlt : ok < w.heap.size := block_lt_of_cell hc
  go_enter Try.func27, Try.ntmps27
  go_wp2_with fail
  refine (H.out _).mono ?_
  rintro en w1 ⟨rfl, hb⟩
  have c0 := kc hb (kc (ba (ba (ba (Below.refl _ w) _) _) _) hc)
  have f0 := kf hb (kc (ba (ba (ba (Below.refl _ w) _) _) _) hc) (kf (ba (ba (ba (Below.refl _ w) _) _) _) hc hf)
  have r0 := kc hb (b := w.heap.size + 1 + 1) (o := 0) (v := .int .i64 0) (by go_cell)
  have r1 := kc hb (b := w.heap.size + 1 + 1) (o := 1) (v := .int .i64 0) (by go_cell)
  have fr0 := kf hb (b := w.heap.size + 1 + 1) (o := 0) (v := .int .i64 0) (t := false) (by go_cell) (by go_cell)
  have fr1 := kf hb (b := w.heap.size + 1 + 1) (o := 1) (v := .int .i64 0) (t := false) (by go_cell) (by go_cell)
  have hB : Below w.heap.size w w1 := bt (ba (ba (ba (Below.refl _ _) _) _) _) hb
  have l1 : w.heap.size + 1 + 1 < w1.heap.size := block_lt_of_cell r0
  have l2 : ok < w1.heap.size := block_lt_of_cell c0
  have n1 : ok ≠ w.heap.size + 1 + 1 := by omega
  clear hb
  go_wp2
  refine bodyPost_ret (by simp [results, Try.results27, go_sem, r0, r1, l1, n1]; try rfl) rfl ⟨rfl, ?_⟩
  exact ba (bs (bs (same_cell hB c0) (show w.heap.size ≤ w.heap.size + 1 + 1 by omega) _) (show w.heap.size ≤ w.heap.size + 1 + 1 by omega) _) _

theorem mul_ok (n d m e a b : Int) (ok : Nat)
    (H : Hid (∀ w, Calls Try.prog 22 #[.agg #[.int .i64 n, .int .i64 d], .agg #[.int .i64 m, .int .i64 e]] w fun en w' => en = .returned (.tuple #[.agg #[.int .i64 a, .int .i64 b], .bool true]) ∧ Below w.heap.size w w')) (w : World)
    (hc : w.cell? ⟨ok, 0, none⟩ = some (.bool true)) (hf : w.frozen? ⟨ok, 0, none⟩ = false) :
    Calls Try.prog 28 #[.agg #[.int .i64 n, .int .i64 d], .agg #[.int .i64 m, .int .i64 e], .pointer (some ⟨ok, 0, none⟩)] w fun en w' => en = .returned (.agg #[.int .i64 a, .int .i64 b]) ∧ Below w.heap.size w w' := by
  have hlt : ok < w.heap.size := block_lt_of_cell hc
  go_enter Try.func28, Try.ntmps28
  go_wp2_with fail
  refine (H.out _).mono ?_
  rintro en w1 ⟨rfl, hb⟩
  have c0 := kc hb (kc (ba (ba (ba (Below.refl _ w) _) _) _) hc)
  have f0 := kf hb (kc (ba (ba (ba (Below.refl _ w) _) _) _) hc) (kf (ba (ba (ba (Below.refl _ w) _) _) _) hc hf)
  have r0 := kc hb (b := w.heap.size + 1 + 1) (o := 0) (v := .int .i64 0) (by go_cell)
  have r1 := kc hb (b := w.heap.size + 1 + 1) (o := 1) (v := .int .i64 0) (by go_cell)
  have fr0 := kf hb (b := w.heap.size + 1 + 1) (o := 0) (v := .int .i64 0) (t := false) (by go_cell) (by go_cell)
  have fr1 := kf hb (b := w.heap.size + 1 + 1) (o := 1) (v := .int .i64 0) (t := false) (by go_cell) (by go_cell)
  have hB : Below w.heap.size w w1 := bt (ba (ba (ba (Below.refl _ _) _) _) _) hb
  have l1 : w.heap.size + 1 + 1 < w1.heap.size := block_lt_of_cell r0
  have l2 : ok < w1.heap.size := block_lt_of_cell c0
  have n1 : ok ≠ w.heap.size + 1 + 1 := by omega
  clear hb
  go_wp2
  refine bodyPost_ret (by simp [results, Try.results28, go_sem, r0, r1, l1, n1]; try rfl) rfl ⟨rfl, ?_⟩
  exact ba (bs (bs (same_cell hB c0) (show w.heap.size ≤ w.heap.size + 1 + 1 by omega) _) (show w.heap.size ≤ w.heap.size + 1 + 1 by omega) _) _

end Go.Proofs.Ytijpkacjbnijoaa.Ex
