/-
  Layer 9 (machine): mathematics of MachineLimits.
-/
import Derived.Test.YtdgagjcocohnnaaMcP
namespace Go.Proofs.Ytdgagjcocohnnaa.Mc
open Go.RowKit
open Go.Proofs.Ytdgagjcocohnnaa.Ot (Pt p0 shP)
theorem one (k : Nat) (n : Int) {np sz enc st : Int} {l : List Int} {f : Nat → Pt} {rest : List Opn} (hk : 1 ≤ k ∧ k < 14) (hst : st < 2000) (hn : n = 0 ∨ (kd k).uN = true) (ht : (kd k).ta ≤ l.length) (h8 : l.length - (kd k).ta + (kd k).pu ≤ 8) (ho : (kd k).oP = true → 0 ≤ n ∧ n < np) :
    runL np sz (⟨(k : Int), n, 0⟩ :: rest) enc ⟨l, st, f⟩ = runL np sz rest enc (nxK sz k n ⟨l, st, f⟩) := by
  have hb : hasB ⟨(k : Int), n, 0⟩ = false := by
    unfold hasB
    rw [Bool.or_eq_false_iff, decide_eq_false_iff_not, decide_eq_false_iff_not]
    exact ⟨by simp only; omega, by simp only; omega⟩
  refine (run_one (chk_yes hst (by simp only; omega) (by simp only; omega) ?_ (.inl rfl) (fun h => by rw [hb] at h; cases h) ?_ ?_ ?_) hb).trans ?_
  · simp only [Int.toNat_natCast]; exact hn
  · simp only [Int.toNat_natCast]; omega
  · simp only [Int.toNat_natCast]; omega
  · simp only [Int.toNat_natCast]; exact ho
  · unfold nxS
    simp only [Int.toNat_natCast]
/-- The example's points by their numbers. -/
def F0 : Nat → Pt := fl (fun _ => 3) (fun _ i => shP 0 0 (exF i)) 1
/-- The outline in which Y of the point 1 is v. -/
def F1 (v : Int) : Nat → Pt := fun j => if j = 1 then setP 13 v (F0 j) else F0 j
theorem f1_at (v : Int) (i : Nat) (hi : i < 3) : F1 v i = wiF exF 1 100 v i := by
  obtain rfl | rfl | rfl : i = 0 ∨ i = 1 ∨ i = 2 := by omega
  · kernel_rfl
  · kernel_rfl
  · kernel_rfl
theorem lim_le (x : Int) : -1073741824 ≤ lim x ∧ lim x ≤ 1073741824 := lim_in x
theorem lim_id {x : Int} (h1 : -1073741824 ≤ x) (h2 : x ≤ 1073741824) : lim x = x := by
  unfold lim
  omega
/-- Two numbers are put, an operation computes of them, and the result becomes Y of the point 1. -/
theorem xr_bin (c : Nat) (hc : 2 ≤ c ∧ c ≤ 5) (a b sz : Int) : xR exF [⟨1, a, 0⟩, ⟨1, b, 0⟩, ⟨(c : Int), 0, 0⟩, ⟨13, 1, 0⟩] sz = .ok ⟨[], 4, F1 (lim (doR c 0 sz (lim a) (lim b) (F0 0)))⟩ := by
  have e1 : ∀ {rest}, runL 3 sz (⟨1, a, 0⟩ :: rest) 0 ⟨[], 0, F0⟩ = runL 3 sz rest 0 ⟨[lim a], 1, F0⟩ := fun {rest} => one 1 a (by decide) (by decide) (.inr rfl) (Nat.zero_le _) (by decide) (fun h => by cases h)
  have e2 : ∀ {rest}, runL 3 sz (⟨1, b, 0⟩ :: rest) 0 ⟨[lim a], 1, F0⟩ = runL 3 sz rest 0 ⟨[lim a, lim b], 2, F0⟩ := fun {rest} => one 1 b (by decide) (by decide) (.inr rfl) (Nat.zero_le _) (show 1 - 0 + 1 ≤ 8 by decide) (fun h => by cases h)
  have e3 : ∀ {rest}, runL 3 sz (⟨(c : Int), 0, 0⟩ :: rest) 0 ⟨[lim a, lim b], 2, F0⟩ = runL 3 sz rest 0 ⟨[lim (doR c 0 sz (lim a) (lim b) (F0 0))], 3, F0⟩ := fun {rest} => by
    obtain rfl | rfl | rfl | rfl : c = 2 ∨ c = 3 ∨ c = 4 ∨ c = 5 := by omega
    · exact one 2 0 (by decide) (by decide) (.inl rfl) (show 2 ≤ 2 by decide) (show 2 - 2 + 1 ≤ 8 by decide) (fun h => by cases h)
    · exact one 3 0 (by decide) (by decide) (.inl rfl) (show 2 ≤ 2 by decide) (show 2 - 2 + 1 ≤ 8 by decide) (fun h => by cases h)
    · exact one 4 0 (by decide) (by decide) (.inl rfl) (show 2 ≤ 2 by decide) (show 2 - 2 + 1 ≤ 8 by decide) (fun h => by cases h)
    · exact one 5 0 (by decide) (by decide) (.inl rfl) (show 2 ≤ 2 by decide) (show 2 - 2 + 1 ≤ 8 by decide) (fun h => by cases h)
  generalize lim (doR c 0 sz (lim a) (lim b) (F0 0)) = v at *
  have e4 : runL 3 sz [⟨13, 1, 0⟩] 0 ⟨[v], 3, F0⟩ = runL 3 sz [] 0 ⟨[], 4, F1 v⟩ := one 13 1 (by decide) (by decide) (.inr rfl) (show 1 ≤ 1 by decide) (show 1 - 1 + 0 ≤ 8 by decide) (fun _ => by decide)
  show runL 3 sz _ 0 ⟨[], 0, F0⟩ = _
  rw [e1, e2, e3, e4, runL_nil]
theorem xr_one (c : Nat) (hc : c = 6 ∨ c = 7) (a sz : Int) : xR exF [⟨1, a, 0⟩, ⟨(c : Int), 0, 0⟩, ⟨13, 1, 0⟩] sz = .ok ⟨[], 3, F1 (lim (doR c 0 sz (lim a) 0 (F0 0)))⟩ := by
  have e1 : ∀ {rest}, runL 3 sz (⟨1, a, 0⟩ :: rest) 0 ⟨[], 0, F0⟩ = runL 3 sz rest 0 ⟨[lim a], 1, F0⟩ := fun {rest} => one 1 a (by decide) (by decide) (.inr rfl) (Nat.zero_le _) (by decide) (fun h => by cases h)
  have e3 : ∀ {rest}, runL 3 sz (⟨(c : Int), 0, 0⟩ :: rest) 0 ⟨[lim a], 1, F0⟩ = runL 3 sz rest 0 ⟨[lim (doR c 0 sz (lim a) 0 (F0 0))], 2, F0⟩ := fun {rest} => by
    obtain rfl | rfl : c = 6 ∨ c = 7 := hc
    · exact one 6 0 (by decide) (by decide) (.inl rfl) (show 1 ≤ 1 by decide) (show 1 - 1 + 1 ≤ 8 by decide) (fun h => by cases h)
    · exact one 7 0 (by decide) (by decide) (.inl rfl) (show 1 ≤ 1 by decide) (show 1 - 1 + 1 ≤ 8 by decide) (fun h => by cases h)
  generalize lim (doR c 0 sz (lim a) 0 (F0 0)) = v at *
  have e4 : runL 3 sz [⟨13, 1, 0⟩] 0 ⟨[v], 2, F0⟩ = runL 3 sz [] 0 ⟨[], 3, F1 v⟩ := one 13 1 (by decide) (by decide) (.inr rfl) (show 1 ≤ 1 by decide) (show 1 - 1 + 0 ≤ 8 by decide) (fun _ => by decide)
  show runL 3 sz _ 0 ⟨[], 0, F0⟩ = _
  rw [e1, e3, e4, runL_nil]
theorem xr_size (sz : Int) : xR exF [⟨9, 0, 0⟩, ⟨13, 1, 0⟩] sz = .ok ⟨[], 2, F1 (lim sz)⟩ := by
  have e1 : ∀ {rest}, runL 3 sz (⟨9, 0, 0⟩ :: rest) 0 ⟨[], 0, F0⟩ = runL 3 sz rest 0 ⟨[lim sz], 1, F0⟩ := fun {rest} => one 9 0 (by decide) (by decide) (.inl rfl) (Nat.zero_le _) (by decide) (fun h => by cases h)
  have e4 : runL 3 sz [⟨13, 1, 0⟩] 0 ⟨[lim sz], 1, F0⟩ = runL 3 sz [] 0 ⟨[], 2, F1 (lim sz)⟩ := one 13 1 (by decide) (by decide) (.inr rfl) (show 1 ≤ 1 by decide) (show 1 - 1 + 0 ≤ 8 by decide) (fun _ => by decide)
  show runL 3 sz _ 0 ⟨[], 0, F0⟩ = _
  rw [e1, e4, runL_nil]
/-- What the law expects. -/
def wantK (a b : Int) (k : Nat) : Int :=
  match k with
  | 0 => lim (lim a + lim b)
  | 1 => lim (lim a - lim b)
  | 2 => min (lim a) (lim b)
  | 3 => max (lim a) (lim b)
  | 4 => -lim a
  | 5 => lim a / 2
  | _ => lim a
def codeK (k : Nat) : Int :=
  match k with
  | 0 => 2
  | 1 => 3
  | 2 => 4
  | 3 => 5
  | 4 => 6
  | 5 => 7
  | _ => 9
def progK (a b : Int) (k : Nat) : List Opn :=
  if k < 4 then [⟨1, a, 0⟩, ⟨1, b, 0⟩, ⟨codeK k, 0, 0⟩, ⟨13, 1, 0⟩] else if k < 6 then [⟨1, a, 0⟩, ⟨codeK k, 0, 0⟩, ⟨13, 1, 0⟩] else [⟨codeK k, 0, 0⟩, ⟨13, 1, 0⟩]
theorem xr_k (a b : Int) (k : Nat) (hk : k < 7) : xR exF (progK a b k) a = .ok ⟨[], ((progK a b k).length : Nat), F1 (wantK a b k)⟩ := by
  have la := lim_le a
  have lb := lim_le b
  obtain rfl | rfl | rfl | rfl | rfl | rfl | rfl : k = 0 ∨ k = 1 ∨ k = 2 ∨ k = 3 ∨ k = 4 ∨ k = 5 ∨ k = 6 := by omega
  · exact xr_bin 2 (by decide) a b a
  · exact xr_bin 3 (by decide) a b a
  · refine (xr_bin 4 (by decide) a b a).trans ?_
    rw [show doR 4 0 a (lim a) (lim b) (F0 0) = min (lim a) (lim b) from rfl, lim_id (by omega) (by omega)]
    rfl
  · refine (xr_bin 5 (by decide) a b a).trans ?_
    rw [show doR 5 0 a (lim a) (lim b) (F0 0) = max (lim a) (lim b) from rfl, lim_id (by omega) (by omega)]
    rfl
  · refine (xr_one 6 (.inl rfl) a a).trans ?_
    rw [show doR 6 0 a (lim a) 0 (F0 0) = -lim a from rfl, lim_id (by omega) (by omega)]
    rfl
  · refine (xr_one 7 (.inr rfl) a a).trans ?_
    rw [show doR 7 0 a (lim a) 0 (F0 0) = lim a / 2 from rfl, lim_id (by omega) (by omega)]
    rfl
  · exact xr_size a
end Go.Proofs.Ytdgagjcocohnnaa.Mc
