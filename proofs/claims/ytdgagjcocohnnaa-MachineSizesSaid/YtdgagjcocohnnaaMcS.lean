/-
  Layer 9 (machine): mathematics of runs.
-/
import Derived.Test.YtdgagjcocohnnaaMcG
namespace Go.Proofs.Ytdgagjcocohnnaa.Mc
open Go.RowKit
open Go.Proofs.Ytdgagjcocohnnaa.Ot (Pt)
theorem chk_yes {np h st : Int} {p : Opn} {left enc : Int} (h1 : st < 2000) (h2 : 1 ≤ p.c) (h3 : p.c ≤ 15) (hn : p.n = 0 ∨ (kd p.c.toNat).uN = true) (hm : p.m = 0 ∨ (kd p.c.toNat).uM = true) (hb : hasB p = true → fitB p left = true ∧ enc < 3)
    (ht : ((kd p.c.toNat).ta : Int) ≤ h) (h8 : h - (kd p.c.toNat).ta + (kd p.c.toNat).pu ≤ 8) (ho : (kd p.c.toNat).oP = true → 0 ≤ p.n ∧ p.n < np) : chkE np h st p left enc = 0 := by
  unfold chkE
  rw [if_neg (by rw [decide_eq_true_iff]; omega), if_neg (by rw [Bool.or_eq_true, decide_eq_true_iff, decide_eq_true_iff]; omega), if_neg, if_neg, if_neg, if_neg (by rw [Bool.or_eq_true, decide_eq_true_iff, decide_eq_true_iff]; omega), if_neg]
  · intro e
    rw [Bool.and_eq_true, Bool.or_eq_true, decide_eq_true_iff, decide_eq_true_iff] at e
    have := ho e.1
    omega
  · intro e
    rw [Bool.and_eq_true, decide_eq_true_iff] at e
    have := (hb e.1).2
    omega
  · intro e
    rw [Bool.and_eq_true] at e
    rw [(hb e.1).1] at e
    exact absurd e.2 (by decide)
  · intro e
    rw [Bool.or_eq_true, Bool.and_eq_true, Bool.and_eq_true, decide_eq_true_iff, decide_eq_true_iff] at e
    rcases e with ⟨e1, e2⟩ | ⟨e1, e2⟩
    · rcases hn with h | h
      · exact e1 h
      · rw [h] at e2; exact absurd e2 (by decide)
    · rcases hm with h | h
      · exact e1 h
      · rw [h] at e2; exact absurd e2 (by decide)
theorem doR_size (k : Nat) (h1 : 1 ≤ k) (h : k < 16) (h9 : k ≠ 9) (n sz sz2 a b : Int) (p : Pt) : doR k n sz a b p = doR k n sz2 a b p := by
  obtain rfl | rfl | rfl | rfl | rfl | rfl | rfl | rfl | rfl | rfl | rfl | rfl | rfl | rfl | rfl : k = 1 ∨ k = 2 ∨ k = 3 ∨ k = 4 ∨ k = 5 ∨ k = 6 ∨ k = 7 ∨ k = 8 ∨ k = 9 ∨ k = 10 ∨ k = 11 ∨ k = 12 ∨ k = 13 ∨ k = 14 ∨ k = 15 := by omega
  all_goals first | rfl | exact absurd rfl h9
/-- Without OpSize the size plays no part. -/
theorem run_size (np sz sz2 : Int) : ∀ (f : Nat) (l : List Opn), (∀ p ∈ l, p.c ≠ 9) → ∀ (enc : Int), runF np sz f l enc = runF np sz2 f l enc
  | 0, l, _, _ => by funext s; rw [runF, runF]
  | _ + 1, [], _, _ => funext fun _ => rfl
  | f + 1, p :: rest, hp, enc => by
    funext s
    rw [runF, runF]
    by_cases hE : chkE np s.l.length s.st p rest.length enc = 0
    · rw [if_pos hE, if_pos hE]
      obtain ⟨_, h1, h2, _⟩ := chk_no hE
      have h9 : p.c ≠ 9 := hp p List.mem_cons_self
      have hr : resR sz p.c.toNat p.n s = resR sz2 p.c.toNat p.n s := doR_size _ (by omega) (by omega) (by omega) _ _ _ _ _ _
      have e1 : nxS sz p s = nxS sz2 p s := by unfold nxS nxK; rw [hr]
      have e2 : rndS sz p s = rndS sz2 p s := by unfold rndS; rw [hr]
      rw [e1, e2, run_size np sz sz2 f _ (fun q hq => hp q (List.mem_cons_of_mem _ (List.mem_of_mem_take hq))), run_size np sz sz2 f _ (fun q hq => hp q (List.mem_cons_of_mem _ (List.mem_of_mem_drop hq)))]
    · rw [if_neg hE, if_neg hE]
theorem runL_size {np sz sz2 : Int} {l : List Opn} (h : ∀ p ∈ l, p.c ≠ 9) (enc : Int) (s : MS) : runL np sz l enc s = runL np sz2 l enc s := congrFun (run_size np sz sz2 l.length l h enc) s
/-- An operation without a block, at the beginning. -/
theorem run_one {np sz enc : Int} {s : MS} {p : Opn} {rest : List Opn} (h : chkE np s.l.length s.st p rest.length enc = 0) (hb : hasB p = false) : runL np sz (p :: rest) enc s = runL np sz rest enc (nxS sz p s) := by
  rw [runL_go h]
  have e1 : blkL p = 0 := by
    unfold hasB at hb
    rw [Bool.or_eq_false_iff, decide_eq_false_iff_not, decide_eq_false_iff_not] at hb
    unfold blkL
    rw [if_neg hb.1, if_neg hb.2]
  rw [e1]
  show bindR (itr (runL np sz [] (enc + 1)) _ _) (runL np sz rest enc) = _
  have e2 : ∀ n t, itr (runL np sz [] (enc + 1)) n t = .ok t := by
    intro n
    induction n with
    | zero => intro t; rfl
    | succ n ih => intro t; rw [itr, runL_nil]; exact ih t
  rw [e2]
  rfl
end Go.Proofs.Ytdgagjcocohnnaa.Mc
