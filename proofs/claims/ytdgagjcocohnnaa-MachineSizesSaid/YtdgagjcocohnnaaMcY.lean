/-
  Layer 9 (machine): mathematics of MachineRounds.
-/
import Derived.Test.YtdgagjcocohnnaaMcT
namespace Go.Proofs.Ytdgagjcocohnnaa.Mc
open Go.RowKit
open Go.Proofs.Ytdgagjcocohnnaa.Ot (Pt PtAt PA PO OO OT pre pre_mono shP p0 ot_congr oo_ot)
/-- The nearest multiple of 64. -/
def rnd (x : Int) : Int := 64 * ((2 * x + 64) / 128)
theorem rnd_in {x : Int} (h : -2000 ≤ x ∧ x ≤ 2000) : -2100 ≤ rnd x ∧ rnd x ≤ 2100 ∧ -32 ≤ rnd x - x ∧ rnd x - x ≤ 32 := by
  unfold rnd
  omega
theorem rnd_64 (x : Int) : (rnd x).tmod 64 = 0 := by
  unfold rnd
  exact Int.mul_tmod_right _ _
theorem rnd_two (x : Int) : rnd (rnd x) = rnd x := by
  unfold rnd
  omega
def rdG (ns : Nat → Nat) (n : Nat) (g : Nat → Nat → Pt) (k i : Nat) : Pt := if pre ns k + i = n then ⟨rnd (g k i).x, (g k i).y, (g k i).o⟩ else g k i
theorem rd_two (ns : Nat → Nat) (n : Nat) (g : Nat → Nat → Pt) : rdG ns n (rdG ns n g) = rdG ns n g := by
  funext k i
  unfold rdG
  by_cases h : pre ns k + i = n
  · simp only [h, if_true, rnd_two]
  · simp only [h, if_false]
def P3 (n : Nat) : List Opn := [⟨10, n, 0⟩, ⟨8, 0, 0⟩, ⟨12, n, 0⟩]
theorem run_p3 (C : Int) (n : Nat) (hn : (n : Int) < C) (f : Nat → Pt) (hx : -2100 ≤ (f n).x ∧ (f n).x ≤ 2100) : runL C 12 (P3 n) 0 ⟨[], 0, f⟩ = .ok ⟨[], 3, fun j => if j = n then setP 12 (rnd (f n).x) (f j) else f j⟩ := by
  have hr : -3000 ≤ rnd (f n).x ∧ rnd (f n).x ≤ 3000 := by unfold rnd; omega
  have e1 : ∀ {rest}, runL C 12 (⟨10, n, 0⟩ :: rest) 0 ⟨[], 0, f⟩ = runL C 12 rest 0 ⟨[(f n).x], 1, f⟩ := fun {rest} => by
    refine (one 10 n (by decide) (by decide) (.inr rfl) (Nat.zero_le _) (by decide) (fun _ => ⟨by omega, hn⟩)).trans ?_
    have e : nxK 12 10 n ⟨[], 0, f⟩ = ⟨[lim (f n).x], 1, f⟩ := by
      unfold nxK resR
      simp only [Int.toNat_natCast]
      rfl
    rw [e, lim_id (by omega) (by omega)]
  have e2 : ∀ {rest}, runL C 12 (⟨8, 0, 0⟩ :: rest) 0 ⟨[(f n).x], 1, f⟩ = runL C 12 rest 0 ⟨[rnd (f n).x], 2, f⟩ := fun {rest} => by
    refine (one 8 0 (l := [(f n).x]) (by decide) (by decide) (.inl rfl) (show 1 ≤ 1 by decide) (show 1 - 1 + 1 ≤ 8 by decide) (fun h => by cases h)).trans ?_
    have e : nxK 12 8 0 ⟨[(f n).x], 1, f⟩ = ⟨[lim (rnd (f n).x)], 2, f⟩ := rfl
    rw [e, lim_id (by omega) (by omega)]
  have e3 : runL C 12 [⟨12, n, 0⟩] 0 ⟨[rnd (f n).x], 2, f⟩ = runL C 12 [] 0 ⟨[], 3, fun j => if j = n then setP 12 (rnd (f n).x) (f j) else f j⟩ := by
    refine (one 12 n (l := [rnd (f n).x]) (by decide) (by decide) (.inr rfl) (show 1 ≤ 1 by decide) (show 1 - 1 + 0 ≤ 8 by decide) (fun _ => ⟨by omega, hn⟩)).trans ?_
    have e : nxK 12 12 n ⟨[rnd (f n).x], 2, f⟩ = ⟨[], 3, fun j => if j = n then setP 12 (rnd (f n).x) (f j) else f j⟩ := by
      unfold nxK
      simp only [Int.toNat_natCast]
      rfl
    rw [e]
  unfold P3
  rw [e1, e2, e3, runL_nil]
theorem sh_id {p : Pt} (hx : -100000 ≤ p.x ∧ p.x ≤ 100000) (hy : -100000 ≤ p.y ∧ p.y ≤ 100000) : shP 0 0 p = p := by
  obtain ⟨x, y, o⟩ := p
  simp only at hx hy
  unfold shP
  simp only [Int.add_zero]
  rw [IntWalk.wrap64_in x ⟨by omega, by omega⟩, IntWalk.wrap64_in y ⟨by omega, by omega⟩]
theorem rounds_run (a : Option Addr) (N c : Nat) (ns : Nat → Nat) (g : Nat → Nat → Pt) (n : Nat) (hN : N ≤ 1000000) (hs : pre ns N ≤ 1000000) (hn : n < pre ns N) (hb : ∀ k, k < N → ∀ i, i < ns k → (-2100 ≤ (g k i).x ∧ (g k i).x ≤ 2100) ∧ (-2100 ≤ (g k i).y ∧ (g k i).y ≤ 2100))
    (pa : Option Addr) (w : World) (hA : OT w a N ns g) (hp : PrA w.heap.size w pa (P3 n)) :
    Calls Try.prog 12 #[.slice pa 3 3, .slice a N c, .int .i64 12] w fun e w' => ∃ S, e = .returned (.tuple #[.slice (some ⟨S, 0, none⟩) N N, .int .i64 3, .int .i64 0]) ∧ OT w' (some ⟨S, 0, none⟩) N ns (rdG ns n g) ∧ Below w.heap.size w w' := by
  refine (Run_any a N c ns g hN hs (P3 n) pa 3 ⟨Nat.le_refl _, by decide⟩ 12 w hA hp).mono ?_
  rintro e w' ⟨h1, _⟩
  obtain ⟨k0, i0, hk0, hi0, e0⟩ := pre_at ns N n hn
  have hat : ∀ k, k < N → ∀ i, i < ns k → fl ns (fun k i => shP 0 0 (g k i)) N (pre ns k + i) = g k i := fun k hk i hi => by
    rw [fl_at (g := fun k i => shP 0 0 (g k i)) hi hk]
    exact sh_id (by have := (hb k hk i hi).1; omega) (by have := (hb k hk i hi).2; omega)
  have hfn := hat k0 hk0 i0 hi0
  rw [e0] at hfn
  have hrun := run_p3 (pre ns N : Nat) n (by omega) (fl ns (fun k i => shP 0 0 (g k i)) N) (by rw [hfn]; exact (hb k0 hk0 i0 hi0).1)
  obtain ⟨S, Bk, h2, h3, h4⟩ := h1 _ hrun
  refine ⟨S, h2, ot_congr (oo_ot h3) (fun _ _ => rfl) (fun k hk i hi => ?_), h4⟩
  simp only
  unfold rdG
  rw [hat k hk i hi, hfn]
  by_cases h : pre ns k + i = n
  · obtain ⟨rfl, rfl⟩ := pre_one hi hi0 (h.trans e0.symm)
    rw [if_pos h, if_pos h]
    rfl
  · rw [if_neg h, if_neg h]
end Go.Proofs.Ytdgagjcocohnnaa.Mc
