/-
  Layer 9 (machine): what MachineJoins and MachineLoops compare.
-/
import Derived.Test.YtdgagjcocohnnaaMcDn
namespace Go.Proofs.Ytdgagjcocohnnaa.Mc
open Go.RowKit
open Go.Proofs.Ytdgagjcocohnnaa.Ot (Pt pre shP p0)
def bdP (p : Pt) : Prop := (-2147483648 ≤ p.x ∧ p.x ≤ 2147483648) ∧ (-2147483648 ≤ p.y ∧ p.y ≤ 2147483648)
def Inv (C : Int) (s : MS) : Prop := (∀ x ∈ s.l, L30 x) ∧ ∀ n : Nat, (n : Int) < C → bdP (s.f n)
theorem inv_nx {C sz : Int} {s : MS} {p : Opn} (h : Inv C s) : Inv C (nxS sz p s) := by
  obtain ⟨h1, h2⟩ := h
  have ht := l30_at (t := topL p.c.toNat s.l) h1 (fun x hx => List.mem_of_mem_drop hx) 0
  refine ⟨fun x hx => ?_, fun n hn => ?_⟩
  · unfold nxS nxK at hx
    simp only at hx
    split at hx
    · exact h1 x (List.mem_of_mem_take hx)
    · rcases List.mem_append.1 hx with h | h
      · exact h1 x (List.mem_of_mem_take h)
      · rw [List.mem_singleton] at h
        subst h
        exact lim_in _
  · unfold nxS nxK
    simp only
    split
    · simp only
      split
      · have := h2 n hn
        unfold setP
        split
        · exact ⟨⟨by have := ht.1; simp only; omega, by have := ht.2; simp only; omega⟩, this.2⟩
        · split
          · exact ⟨this.1, ⟨by have := ht.1; simp only; omega, by have := ht.2; simp only; omega⟩⟩
          · exact this
      · exact h2 n hn
    · exact h2 n hn
theorem inv_run {C sz : Int} {l : List Opn} {enc : Int} {s s' : MS} (h : runL C sz l enc s = .ok s') (hs : Inv C s) : Inv C s' := run_inv (I := Inv C) (fun _ _ _ _ _ hi => inv_nx hi) l.length l enc s s' h hs
theorem sh_id2 {p : Pt} (h : bdP p) : shP 0 0 p = p := by
  obtain ⟨x, y, o⟩ := p
  obtain ⟨hx, hy⟩ := h
  simp only at hx hy
  unfold shP
  simp only [Int.add_zero]
  rw [IntWalk.wrap64_in x ⟨by omega, by omega⟩, IntWalk.wrap64_in y ⟨by omega, by omega⟩]
theorem joins_math {C sz : Int} {p q : List Opn} (hp : MadeP C p) (hq : MadeP C q) (F : Nat → Pt) (hF : ∀ n : Nat, (n : Int) < C → bdP (F n)) : ∃ s1, runL C sz p 0 ⟨[], 0, F⟩ = .ok s1 ∧ 0 ≤ s1.st ∧ s1.st ≤ 93 ∧ (∀ n : Nat, (n : Int) < C → bdP (s1.f n)) ∧
    ∀ F1 : Nat → Pt, (∀ n : Nat, (n : Int) < C → F1 n = s1.f n) → ∃ s2 t, runL C sz q 0 ⟨[], 0, F1⟩ = .ok s2 ∧ 0 ≤ s2.st ∧ s2.st ≤ 93 ∧ runL C sz (p ++ q) 0 ⟨[], 0, F⟩ = .ok t ∧ t.st = s1.st + s2.st ∧ ∀ n : Nat, (n : Int) < C → t.f n = s2.f n := by
  obtain ⟨s1, e1, l1, k1⟩ := bal_made hp (enc := 0) (by decide) sz ⟨[], 0, F⟩ (show 0 + 3 ≤ 8 by decide) (by simp)
  simp only at l1 k1
  have i1 := inv_run e1 (show Inv C ⟨[], 0, F⟩ from ⟨fun x hx => (by cases hx), hF⟩)
  have m1 : 0 ≤ s1.st := run_st (F := p.length) (l := p) (enc := 0) e1
  refine ⟨s1, e1, m1, by omega, i1.2, fun F1 hF1 => ?_⟩
  obtain ⟨s2, e2, l2, k2⟩ := bal_made hq (enc := 0) (by decide) sz ⟨[], 0, F1⟩ (show 0 + 3 ≤ 8 by decide) (by simp)
  simp only at l2 k2
  have m2 : 0 ≤ s2.st := run_st (F := q.length) (l := q) (enc := 0) e2
  obtain ⟨t1, hS1, e3⟩ := run_more C sz p.length p (Nat.le_refl _) q 0 0 (Int.le_refl _) 0 ⟨[], 0, F⟩ ⟨[], 0, F⟩ s1 (sim_self C _) e1 (by omega)
  have hS2 : Sim C s1.st ⟨[], 0, F1⟩ t1 := ⟨by rw [← hS1.l, l1], by have := hS1.st; simp only; omega, fun n hn => (hF1 n hn).trans (hS1.f n hn)⟩
  obtain ⟨t2, hS3, e4⟩ := run_more C sz q.length q (Nat.le_refl _) [] 0 0 (Int.le_refl _) s1.st ⟨[], 0, F1⟩ t1 s2 hS2 e2 (by omega)
  rw [List.append_nil, runL_nil] at e4
  exact ⟨s2, t2, e2, m2, by omega, by rw [e3, e4], by have := hS3.st; omega, fun n hn => (hS3.f n hn).symm⟩
/-- A program, some times over. -/
def rep (p : List Opn) : Nat → List Opn
  | 0 => []
  | n + 1 => p ++ rep p n
theorem rep_len (p : List Opn) : ∀ n, (rep p n).length = n * p.length
  | 0 => by simp [rep]
  | n + 1 => by rw [rep, List.length_append, rep_len p n, Nat.succ_mul, Nat.add_comm]
theorem rep_app (p : List Opn) : ∀ n, rep p n ++ p = rep p (n + 1)
  | 0 => by simp [rep]
  | n + 1 => by
    show p ++ rep p n ++ p = p ++ rep p (n + 1)
    rw [List.append_assoc, rep_app p n]
theorem itr_rep {C sz : Int} {p : List Opn} {d : Int} : ∀ (r : Nat) (s t s' : MS), Sim C d s t → itr (runL C sz p 1) r s = .ok s' → s'.st + d ≤ 2000 → ∃ t', Sim C d s' t' ∧ runL C sz (rep p r) 0 t = .ok t'
  | 0, s, t, s', hS, h, _ => by
    injection h with h
    subst h
    exact ⟨t, hS, rfl⟩
  | r + 1, s, t, s', hS, h, hb => by
    rw [itr] at h
    cases hc : runL C sz p 1 s with
    | ok s1 =>
      rw [hc] at h
      have h1 := itr_inv (I := fun q => s1.st ≤ q.st) (fun a b hab ha => by have : a.st ≤ b.st := run_st (F := p.length) (l := p) (enc := 1) hab; omega) r s1 s' h (Int.le_refl _)
      obtain ⟨t1, hS1, e1⟩ := run_more C sz p.length p (Nat.le_refl _) (rep p r) 1 0 (by decide) d s t s1 hS hc (by omega)
      obtain ⟨t', hS', e2⟩ := itr_rep r s1 t1 s' hS1 h hb
      exact ⟨t', hS', by rw [rep, e1]; exact e2⟩
    | er E => rw [hc] at h; cases h
theorem loops_math {C sz : Int} {p : List Opn} (hp : MadeP C p) (hl : 1 ≤ p.length) (r : Nat) (hr : 1 ≤ r ∧ r ≤ 4) (F : Nat → Pt) : ∃ s t, runL C sz ([⟨15, (r : Int), (p.length : Nat)⟩] ++ p) 0 ⟨[], 0, F⟩ = .ok s ∧ runL C sz (rep p r) 0 ⟨[], 0, F⟩ = .ok t ∧ s.st = t.st + 1 ∧ 0 ≤ t.st ∧ t.st ≤ 1000 ∧ ∀ n : Nat, (n : Int) < C → s.f n = t.f n := by
  have hlo := run_loop (C := C) (sz := sz) (enc := 0) (st := 0) (l := []) (f := F) (u := p) (r := (r : Int)) ⟨by omega, by omega⟩ hl (by decide) (by decide) (by decide)
  rw [Int.toNat_natCast] at hlo
  obtain ⟨s, e1, l1, k1⟩ := bal_itr (by decide) (bal_made hp (enc := 1) (by decide)) sz r ⟨[], 0 + 1, F⟩ (show 0 + 3 ≤ 8 by decide) (by simp only; omega)
  simp only at l1 k1
  obtain ⟨t, hS, e2⟩ := itr_rep (C := C) (sz := sz) (p := p) (d := -1) r ⟨[], 0 + 1, F⟩ ⟨[], 0, F⟩ s ⟨rfl, by simp, fun _ _ => rfl⟩ e1 (by omega)
  have m : 0 ≤ t.st := run_st (F := (rep p r).length) (l := rep p r) (enc := 0) e2
  have := hS.st
  exact ⟨s, t, hlo.trans e1, e2, by omega, m, by omega, hS.f⟩
end Go.Proofs.Ytdgagjcocohnnaa.Mc
