/-
  Layer 9 (machine): mathematics of MachineJoins and MachineLoops.
-/
import Derived.Test.YtdgagjcocohnnaaMcDb
import Derived.Test.YtdgagjcocohnnaaMcY
namespace Go.Proofs.Ytdgagjcocohnnaa.Mc
open Go.RowKit
open Go.Proofs.Ytdgagjcocohnnaa.Ot (Pt pre shP p0)
theorem chk_uses {np h st : Int} {p : Opn} {left enc : Int} (e : chkE np h st p left enc = 0) : (p.n = 0 ∨ (kd p.c.toNat).uN = true) ∧ (p.m = 0 ∨ (kd p.c.toNat).uM = true) := by
  unfold chkE at e
  split at e
  · exact absurd e (by decide)
  split at e
  · exact absurd e (by decide)
  split at e
  · exact absurd e (by decide)
  rename_i h3
  rw [Bool.or_eq_true, Bool.and_eq_true, Bool.and_eq_true, decide_eq_true_iff, decide_eq_true_iff] at h3
  refine ⟨?_, ?_⟩
  · by_cases h : p.n = 0
    · exact .inl h
    · right
      rcases hu : (kd p.c.toNat).uN with _ | _
      · exact absurd (.inl ⟨h, by rw [hu]; rfl⟩) h3
      · rfl
  · by_cases h : p.m = 0
    · exact .inl h
    · right
      rcases hu : (kd p.c.toNat).uM with _ | _
      · exact absurd (.inr ⟨h, by rw [hu]; rfl⟩) h3
      · rfl
theorem itr_inv {I : MS → Prop} {g : MS → Res} (hg : ∀ s s', g s = .ok s' → I s → I s') : ∀ (n : Nat) (s s' : MS), itr g n s = .ok s' → I s → I s'
  | 0, s, s', h, hs => by
    injection h with h
    subst h
    exact hs
  | n + 1, s, s', h, hs => by
    rw [itr] at h
    cases hc : g s with
    | ok s1 =>
      rw [hc] at h
      exact itr_inv hg n s1 s' h (hg s s1 hc hs)
    | er E => rw [hc] at h; cases h
/-- What each operation keeps is kept. -/
theorem run_inv {np sz : Int} {I : MS → Prop} (hI : ∀ (s : MS) (p : Opn) (left enc : Int), chkE np s.l.length s.st p left enc = 0 → I s → I (nxS sz p s)) : ∀ (F : Nat) (l : List Opn) (enc : Int) (s s' : MS), runF np sz F l enc s = .ok s' → I s → I s'
  | 0, l, enc, s, s', h, hs => by
    rw [runF] at h
    injection h with h
    subst h
    exact hs
  | _ + 1, [], enc, s, s', h, hs => by
    rw [runF] at h
    injection h with h
    subst h
    exact hs
  | F + 1, p :: rest, enc, s, s', h, hs => by
    rw [runF] at h
    split at h
    · rename_i hE
      cases hc : itr (runF np sz F (rest.take (blkL p).toNat) (enc + 1)) (rndS sz p s).toNat (nxS sz p s) with
      | ok s1 =>
        rw [hc] at h
        exact run_inv hI F _ _ _ _ h (itr_inv (fun a b hab ha => run_inv hI F _ _ a b hab ha) _ _ _ hc (hI s p _ _ hE hs))
      | er E => rw [hc] at h; cases h
    · cases h
theorem run_st {np sz : Int} {F : Nat} {l : List Opn} {enc : Int} {s s' : MS} (h : runF np sz F l enc s = .ok s') : s.st ≤ s'.st :=
  run_inv (I := fun t => s.st ≤ t.st) (fun t p _ _ _ ht => by show s.st ≤ t.st + 1; omega) F l enc s s' h (Int.le_refl _)
/-- Two states that differ in the steps alone. -/
structure Sim (C d : Int) (s t : MS) : Prop where
  l : s.l = t.l
  st : t.st = s.st + d
  f : ∀ n : Nat, (n : Int) < C → s.f n = t.f n
theorem sim_nx {C d sz : Int} {s t : MS} (h : Sim C d s t) {p : Opn} {left enc : Int} (hE : chkE C s.l.length s.st p left enc = 0) : Sim C d (nxS sz p s) (nxS sz p t) ∧ rndS sz p s = rndS sz p t := by
  obtain ⟨_, h1, h2, _, _, _, hoP⟩ := chk_no hE
  have hr : resR sz p.c.toNat p.n s = resR sz p.c.toNat p.n t := by
    unfold resR
    rw [h.l]
    by_cases ho : (kd p.c.toNat).oP = true
    · obtain ⟨a, b⟩ := hoP ho
      rw [h.f p.n.toNat (by omega)]
    · obtain ⟨k, hk⟩ : ∃ k, p.c.toNat = k := ⟨_, rfl⟩
      rw [hk] at ho ⊢
      have : k = 1 ∨ k = 2 ∨ k = 3 ∨ k = 4 ∨ k = 5 ∨ k = 6 ∨ k = 7 ∨ k = 8 ∨ k = 9 ∨ k = 10 ∨ k = 11 ∨ k = 12 ∨ k = 13 ∨ k = 14 ∨ k = 15 := by omega
      rcases this with rfl | rfl | rfl | rfl | rfl | rfl | rfl | rfl | rfl | rfl | rfl | rfl | rfl | rfl | rfl
      all_goals first | rfl | exact absurd rfl ho
  refine ⟨⟨?_, ?_, fun n hn => ?_⟩, ?_⟩
  · unfold nxS nxK
    simp only
    rw [hr, h.l]
  · show t.st + 1 = s.st + 1 + d
    have := h.st
    omega
  · unfold nxS nxK
    simp only
    split
    · rw [h.l]
      have := h.f n hn
      simp only
      by_cases e : n = p.n.toNat
      · rw [if_pos e, if_pos e, this]
      · rw [if_neg e, if_neg e, this]
    · exact h.f n hn
  · unfold rndS
    rw [hr]
theorem itr_sim {C d : Int} {g g' : MS → Res} (hmon : ∀ s s', g s = .ok s' → s.st ≤ s'.st) (hg : ∀ s t s', Sim C d s t → g s = .ok s' → s'.st + d ≤ 2000 → ∃ t', Sim C d s' t' ∧ g' t = .ok t') : ∀ (n : Nat) (s t s' : MS), Sim C d s t → itr g n s = .ok s' → s'.st + d ≤ 2000 → ∃ t', Sim C d s' t' ∧ itr g' n t = .ok t'
  | 0, s, t, s', hS, h, _ => by
    injection h with h
    subst h
    exact ⟨t, hS, rfl⟩
  | n + 1, s, t, s', hS, h, hb => by
    rw [itr] at h
    cases hc : g s with
    | ok s1 =>
      rw [hc] at h
      have h1 := itr_inv (I := fun q => s1.st ≤ q.st) (fun a b hab ha => by have := hmon a b hab; omega) n s1 s' h (Int.le_refl _)
      obtain ⟨t1, hS1, e1⟩ := hg s t s1 hS hc (by omega)
      obtain ⟨t', hS', e2⟩ := itr_sim hmon hg n s1 t1 s' hS1 h hb
      exact ⟨t', hS', by rw [itr, e1]; exact e2⟩
    | er E => rw [hc] at h; cases h
/-- A program that runs well runs as well with other programs behind it, with other steps before it, and in fewer blocks. -/
theorem run_more (C sz : Int) : ∀ (F : Nat) (p : List Opn), p.length ≤ F → ∀ (q : List Opn) (enc enc' : Int), enc' ≤ enc → ∀ (d : Int) (s t s' : MS), Sim C d s t → runF C sz F p enc s = .ok s' → s'.st + d ≤ 2000 → ∃ t', Sim C d s' t' ∧ runL C sz (p ++ q) enc' t = runL C sz q enc' t'
  | 0, [], _, q, enc, enc', _, d, s, t, s', hS, h, _ => by
    rw [runF] at h
    injection h with h
    subst h
    exact ⟨t, hS, rfl⟩
  | 0, _ :: _, hl, _, _, _, _, _, _, _, _, _, _, _ => absurd hl (by simp)
  | _ + 1, [], _, q, enc, enc', _, d, s, t, s', hS, h, _ => by
    rw [runF] at h
    injection h with h
    subst h
    exact ⟨t, hS, rfl⟩
  | F + 1, o :: rest, hl, q, enc, enc', he, d, s, t, s', hS, h, hb => by
    have hl' : rest.length ≤ F := by simpa using hl
    rw [runF] at h
    split at h
    · rename_i hE
      have hno := chk_no hE
      have hus := chk_uses hE
      obtain ⟨hS1, hr⟩ := sim_nx (sz := sz) hS hE
      have hL : (blkL o).toNat ≤ rest.length := by
        by_cases hB : hasB o = true
        · have := (fit_L ((hno.2.2.2.1 hB).1)).2.1
          omega
        · have hB2 : hasB o = false := by rcases e : hasB o with _ | _; rfl; exact absurd e hB
          unfold hasB at hB2
          rw [Bool.or_eq_false_iff, decide_eq_false_iff_not, decide_eq_false_iff_not] at hB2
          unfold blkL
          rw [if_neg hB2.1, if_neg hB2.2]
          exact Nat.zero_le _
      cases hc : itr (runF C sz F (rest.take (blkL o).toNat) (enc + 1)) (rndS sz o s).toNat (nxS sz o s) with
      | ok s1 =>
        rw [hc] at h
        have hst1 : s1.st ≤ s'.st := run_st (F := F) (l := rest.drop (blkL o).toNat) (enc := enc) h
        have hst0 : s.st + 1 ≤ s1.st := itr_inv (I := fun x => s.st + 1 ≤ x.st) (fun a b hab ha => by have := run_st hab; omega) _ _ _ hc (Int.le_refl _)
        obtain ⟨t1, hS2, e1⟩ := itr_sim (C := C) (d := d) (g' := runL C sz (rest.take (blkL o).toNat) (enc' + 1)) (fun a b hab => run_st hab) (fun a b a' hab ha hb' => by
          obtain ⟨b', x1, x2⟩ := run_more C sz F (rest.take (blkL o).toNat) (by rw [List.length_take]; omega) [] (enc + 1) (enc' + 1) (by omega) d a b a' hab ha hb'
          rw [List.append_nil, runL_nil] at x2
          exact ⟨b', x1, x2⟩) _ _ _ _ hS1 hc (by omega)
        obtain ⟨t', hS3, e2⟩ := run_more C sz F (rest.drop (blkL o).toNat) (by rw [List.length_drop]; omega) q enc enc' he d s1 t1 s' hS2 h hb
        refine ⟨t', hS3, ?_⟩
        have hE' : chkE C t.l.length t.st o ((rest ++ q).length : Nat) enc' = 0 := by
          have hst := hS.st
          refine chk_yes (by omega) hno.2.1 hno.2.2.1 hus.1 hus.2 (fun hB => ?_) (by rw [← hS.l]; exact hno.2.2.2.2.1) (by rw [← hS.l]; exact hno.2.2.2.2.2.1) hno.2.2.2.2.2.2
          obtain ⟨x1, x2⟩ := hno.2.2.2.1 hB
          refine ⟨?_, by omega⟩
          obtain ⟨y1, y2, y3⟩ := fit_L x1
          unfold fitB
          rw [Bool.and_eq_true, Bool.and_eq_true, Bool.or_eq_true, Bool.and_eq_true, decide_eq_true_iff, decide_eq_true_iff, decide_eq_true_iff, decide_eq_true_iff, decide_eq_true_iff]
          exact ⟨y3, y1, by rw [List.length_append]; omega⟩
        rw [List.cons_append, runL_go hE', List.take_append_of_le_length hL, List.drop_append_of_le_length hL, ← hr, e1]
        exact e2
      | er E => rw [hc] at h; cases h
    · cases h
/-- What a program leaves that runs well: the stack as it was. -/
def Bal (C : Int) (p : List Opn) (cost : Int) (enc : Int) : Prop := ∀ (sz : Int) (s : MS), s.l.length + 3 ≤ 8 → s.st + cost ≤ 2000 → ∃ s', runL C sz p enc s = .ok s' ∧ s'.l = s.l ∧ s'.st ≤ s.st + cost
theorem sim_self (C : Int) (s : MS) : Sim C 0 s s := ⟨rfl, by omega, fun _ _ => rfl⟩
theorem bal_app {C : Int} {p q : List Opn} {c1 c2 enc : Int} (h0 : 0 ≤ c2) (h1 : Bal C p c1 enc) (h2 : Bal C q c2 enc) : Bal C (p ++ q) (c1 + c2) enc := fun sz s hl hs => by
  obtain ⟨s1, e1, l1, k1⟩ := h1 sz s hl (by omega)
  obtain ⟨t1, hS, e2⟩ := run_more C sz p.length p (Nat.le_refl _) q enc enc (Int.le_refl _) 0 s s s1 (sim_self C s) e1 (by omega)
  have ht := hS.st
  obtain ⟨t2, e3, l3, k3⟩ := h2 sz t1 (by rw [← hS.l, l1]; exact hl) (by omega)
  exact ⟨t2, by rw [e2]; exact e3, by rw [l3, ← hS.l, l1], by omega⟩
end Go.Proofs.Ytdgagjcocohnnaa.Mc
