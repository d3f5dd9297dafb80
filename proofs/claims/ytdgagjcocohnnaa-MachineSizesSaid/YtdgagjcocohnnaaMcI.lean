/-
  Layer 9 (machine): step, over an outline.
-/
import Derived.Test.YtdgagjcocohnnaaMcG
import Derived.Test.YtdgagjcocohnnaaMcH
namespace Go.Proofs.Ytdgagjcocohnnaa.Mc
open Go.RowKit
open Go.Proofs.Ytdgagjcocohnnaa.Ot (Pt PtAt PO OO pre pre_mono po_grown po_below oo_below)
theorem ent (k : Nat) (h1 : 1 ≤ k) (h : k < 16) : Enters Try.prog (kd k).fn := by
  obtain rfl | rfl | rfl | rfl | rfl | rfl | rfl | rfl | rfl | rfl | rfl | rfl | rfl | rfl | rfl : k = 1 ∨ k = 2 ∨ k = 3 ∨ k = 4 ∨ k = 5 ∨ k = 6 ∨ k = 7 ∨ k = 8 ∨ k = 9 ∨ k = 10 ∨ k = 11 ∨ k = 12 ∨ k = 13 ∨ k = 14 ∨ k = 15 := by omega
  · exact enters_of Try.func36 (by kernel_rfl) rfl
  · exact enters_of Try.func37 (by kernel_rfl) rfl
  · exact enters_of Try.func38 (by kernel_rfl) rfl
  · exact enters_of Try.func39 (by kernel_rfl) rfl
  · exact enters_of Try.func40 (by kernel_rfl) rfl
  · exact enters_of Try.func41 (by kernel_rfl) rfl
  · exact enters_of Try.func42 (by kernel_rfl) rfl
  · exact enters_of Try.func43 (by kernel_rfl) rfl
  · exact enters_of Try.func44 (by kernel_rfl) rfl
  · exact enters_of Try.func45 (by kernel_rfl) rfl
  · exact enters_of Try.func46 (by kernel_rfl) rfl
  · exact enters_of Try.func47 (by kernel_rfl) rfl
  · exact enters_of Try.func48 (by kernel_rfl) rfl
  · exact enters_of Try.func49 (by kernel_rfl) rfl
  · exact enters_of Try.func50 (by kernel_rfl) rfl
theorem l30_at {l t : List Int} (h : ∀ x ∈ l, L30 x) (ht : ∀ x ∈ t, x ∈ l) (i : Nat) : L30 (t.getD i 0) := by
  rw [List.getD_eq_getElem?_getD]
  rcases e : t[i]? with _ | x
  · exact ⟨by decide, by decide⟩
  · exact h x (ht x (List.mem_of_getElem? e))
/-- What step leaves of a run. -/
def StM (n₀ S N np pc B : Nat) (pa : Option Addr) (ns Bk : Nat → Nat) (sz r : Int) (s : MS) (w : World) (e : Ending) (w' : World) : Prop :=
  e = .returned (.int .i64 r) ∧ Mac n₀ S N np pc B pa ns Bk sz s w' ∧ Fr B N ns Bk w w'
theorem step_plain {n₀ S N np pc B : Nat} {pa : Option Addr} {ns Bk : Nat → Nat} {sz : Int} {s : MS} {V : World} (M : Mac n₀ S N np pc B pa ns Bk sz s V) (k : Nat) (n m : Int) (hk1 : 1 ≤ k) (hk : k < 16) (hs : ¬ (k = 12 ∨ k = 13)) (hst : s.st < 2000) (hta : (kd k).ta ≤ s.l.length) (hpu : (kd k).pu = 1 → s.l.length - (kd k).ta < 8)
    (pt : Option Addr) (hpt : (kd k).oP = false → pt = none) (hpl : (kd k).oP = true → ∃ (qa oa nn : Nat), pa = some ⟨qa, oa, none⟩ ∧ n = (nn : Int) ∧ nn < np ∧ V.cell? ⟨qa, oa + nn, none⟩ = some (.pointer pt) ∧ qa ≠ B)
    (hdo : ∀ W, V.grownBy W (some B) → Calls Try.prog (kd k).fn #[useV n sz ((topL k s.l).getD 0 0) ((topL k s.l).getD 1 0) pt] W (DoP (resR sz k n s) W)) :
    Calls Try.prog 53 #[.pointer (some ⟨B, 0, none⟩), opV ⟨k, n, m⟩] V (StM n₀ S N np pc B pa ns Bk sz (if (kd k).pu = 0 then resR sz k n s else 0) (nxK sz k n s) V) := by
  have hl : s.l = lowL k s.l ++ topL k s.l := (List.take_append_drop _ _).symm
  have hlt : (topL k s.l).length = (kd k).ta := by unfold topL; rw [List.length_drop]; omega
  have hll : (lowL k s.l).length = s.l.length - (kd k).ta := by unfold lowL; rw [List.length_take]; omega
  refine (step_any B pa np pc sz s.l s.st k n m hk1 hk (lowL k s.l) (topL k s.l) hl hlt.symm V ⟨M.st.1, by omega⟩ M.bw M.ru (ent k hk1 hk) (resR sz k n s) pt (fun h => by rw [hll]; exact hpu h) hpt hpl hdo).mono ?_
  rintro e w' ⟨he, hG, hR⟩
  have hlow : ∀ x ∈ lowL k s.l, L30 x := fun x hx => M.lim x (List.mem_of_mem_take hx)
  have M2 := mac_next M hG hR (by
    split
    · exact hlow
    · intro x hx
      rcases List.mem_append.1 hx with h | h
      · exact hlow x h
      · rw [List.mem_singleton] at h
        subst h
        exact lim_in _) ⟨by have := M.st.1; omega, by omega⟩
  refine ⟨he, ?_, fr_grown hG⟩
  unfold nxK
  rw [if_neg hs]
  exact M2
theorem step_put {n₀ S N np pc B : Nat} {pa : Option Addr} {ns Bk : Nat → Nat} {sz : Int} {s : MS} {V : World} (M : Mac n₀ S N np pc B pa ns Bk sz s V) (_hS : n₀ ≤ V.heap.size) (k : Nat) (nn : Nat) (m : Int) (hs : k = 12 ∨ k = 13) (hst : s.st < 2000) (hta : (kd k).ta ≤ s.l.length) (kk i : Nat) (hkk : kk < N) (hi : i < ns kk) (hnn : pre ns kk + i = nn) :
    Calls Try.prog 53 #[.pointer (some ⟨B, 0, none⟩), opV ⟨k, nn, m⟩] V (StM n₀ S N np pc B pa ns Bk sz (if (kd k).pu = 0 then resR sz k nn s else 0) (nxK sz k nn s) V) := by
  have hl : s.l = lowL k s.l ++ topL k s.l := (List.take_append_drop _ _).symm
  have hlt : (topL k s.l).length = (kd k).ta := by unfold topL; rw [List.length_drop]; omega
  have hk1 : 1 ≤ k := by omega
  have hk : k < 16 := by omega
  have hpu : (kd k).pu = 0 := by rcases hs with rfl | rfl <;> rfl
  have hoP : (kd k).oP = true := by rcases hs with rfl | rfl <;> rfl
  have hr0 : resR sz k nn s = 0 := by rcases hs with rfl | rfl <;> rfl
  obtain ⟨qa, oa, hpa, hpc, hqB, hqk⟩ := M.pp kk i hkk hi
  have hnp : nn < np := by
    rw [M.np, ← hnn]
    have := pre_mono ns (show kk + 1 ≤ N from hkk)
    rw [pre] at this
    omega
  have h0 : 0 < ns kk := by omega
  have hP := (M.oo.pts kk hkk i hi)
  have hblt : Bk kk < V.heap.size := block_lt_of_cell hP.1.1
  have hne := M.nB kk hkk h0
  have hfz : ∀ o v t (W : World), V.grownBy W (some B) → V.cell? ⟨Bk kk, o, none⟩ = some v → V.frozen? ⟨Bk kk, o, none⟩ = t → W.frozen? ⟨Bk kk, o, none⟩ = t := fun o v t W hG hc hf => by
    have hb : W.heap[Bk kk]? = V.heap[Bk kk]? := hG.block _ (block_lt_of_cell hc) (by intro e; cases e; exact hne rfl)
    unfold World.frozen? at hf ⊢
    rw [hb]; exact hf
  have hdo : ∀ W, V.grownBy W (some B) → Calls Try.prog (kd k).fn #[useV nn sz ((topL k s.l).getD 0 0) ((topL k s.l).getD 1 0) (some ⟨Bk kk, i * 3, none⟩)] W (fun e w' => e = .returned (.int .i64 0) ∧ ∃ V, Below W.heap.size W V ∧ w' = V.setCell ⟨Bk kk, i * 3 + (k - 12), none⟩ (.int .i64 ((topL k s.l).getD 0 0))) := by
    intro W hG
    rcases hs with rfl | rfl
    · exact do_setx nn sz _ _ _ (Bk kk) (i * 3) rfl _ W (gc hG hP.1.1 hne) (hfz _ _ _ W hG hP.1.1 hP.2.1)
    · exact do_sety nn sz _ _ _ (Bk kk) (i * 3) rfl _ W (gc hG hP.1.2.1 hne) (hfz _ _ _ W hG hP.1.2.1 hP.2.2.1)
  refine (step_set B pa np pc sz s.l s.st k nn m hk1 hk (lowL k s.l) (topL k s.l) hl hlt.symm V ⟨M.st.1, by omega⟩ M.bw M.ru (ent k hk1 hk) (some ⟨Bk kk, i * 3, none⟩) (fun h => by omega) (fun h => by rw [hoP] at h; cases h) (fun _ => ⟨qa, oa, nn, hpa, rfl, hnp, by rw [← hnn]; exact hpc, hqB⟩) hoP hpu ((topL k s.l).getD 0 0) (Bk kk) (i * 3 + (k - 12)) hblt hdo).mono ?_
  rintro e w' ⟨rfl, W, hG, hR, rfl⟩
  have M2 := mac_next M hG hR (fun x hx => M.lim x (List.mem_of_mem_take hx)) ⟨by have := M.st.1; omega, by omega⟩
  have M3 := mac_set M2 hkk hi k hs ((topL k s.l).getD 0 0) (i * 3 + (k - 12)) rfl
  refine ⟨by rw [if_pos hpu, hr0], ?_, fr_trans (fr_grown hG) (fr_set hkk h0 W _ _)⟩
  unfold nxK
  rw [if_pos hpu, if_pos hs, Int.toNat_natCast, ← hnn]
  exact M3
theorem step_mac {n₀ S N np pc B : Nat} {pa : Option Addr} {ns Bk : Nat → Nat} {sz : Int} {s : MS} {V : World} (M : Mac n₀ S N np pc B pa ns Bk sz s V) (hS : n₀ ≤ V.heap.size) (p : Opn) (left enc : Int) (hE : chkE np s.l.length s.st p left enc = 0) :
    Calls Try.prog 53 #[.pointer (some ⟨B, 0, none⟩), opV p] V (StM n₀ S N np pc B pa ns Bk sz (rndS sz p s) (nxS sz p s) V) := by
  obtain ⟨hst, h1, h2, _, hta, hpu, hoP⟩ := chk_no hE
  obtain ⟨c, n, m⟩ := p
  simp only at h1 h2 hta hpu hoP
  obtain ⟨k, rfl⟩ : ∃ k : Nat, c = (k : Int) := ⟨c.toNat, by omega⟩
  unfold rndS nxS
  simp only [Int.toNat_natCast] at hta hpu hoP ⊢
  have hk1 : 1 ≤ k := by omega
  have hk : k < 16 := by omega
  clear h1 h2 hE
  have A0 := l30_at (t := topL k s.l) M.lim (fun x hx => List.mem_of_mem_drop hx) 0
  have A1 := l30_at (t := topL k s.l) M.lim (fun x hx => List.mem_of_mem_drop hx) 1
  by_cases ho : (kd k).oP = true
  · obtain ⟨hn0, hn1⟩ := hoP ho
    obtain ⟨nn, rfl⟩ : ∃ nn : Nat, n = (nn : Int) := ⟨n.toNat, by omega⟩
    have hnn : nn < pre ns N := by rw [← M.np]; omega
    obtain ⟨kk, i, hkk, hi, hpre⟩ := pre_at ns N nn hnn
    have hP := (M.oo.pts kk hkk i hi)
    simp only [hpre] at hP
    have hne := M.nB kk hkk (by omega)
    obtain ⟨qa, oa, hpa, hpc, hqB, hqk⟩ := M.pp kk i hkk hi
    rw [hpre] at hpc
    have hpl : ∃ (qa oa nn' : Nat), pa = some ⟨qa, oa, none⟩ ∧ (nn : Int) = (nn' : Int) ∧ nn' < np ∧ V.cell? ⟨qa, oa + nn', none⟩ = some (.pointer (some ⟨Bk kk, i * 3, none⟩)) ∧ qa ≠ B := ⟨qa, oa, nn, hpa, rfl, by rw [M.np]; exact hnn, hpc, hqB⟩
    have hk4 : k = 10 ∨ k = 11 ∨ k = 12 ∨ k = 13 := by
      obtain rfl | rfl | rfl | rfl | rfl | rfl | rfl | rfl | rfl | rfl | rfl | rfl | rfl | rfl | rfl : k = 1 ∨ k = 2 ∨ k = 3 ∨ k = 4 ∨ k = 5 ∨ k = 6 ∨ k = 7 ∨ k = 8 ∨ k = 9 ∨ k = 10 ∨ k = 11 ∨ k = 12 ∨ k = 13 ∨ k = 14 ∨ k = 15 := by omega
      all_goals first | (exact absurd ho (by decide)) | decide
    rcases hk4 with rfl | rfl | hs
    · refine step_plain M 10 nn m hk1 hk (by decide) hst (show 0 ≤ _ from Nat.zero_le _) (fun _ => by have e : (kd 10).ta = 0 := rfl; have e2 : (kd 10).pu = 1 := rfl; rw [e, e2] at hpu; rw [e]; omega) _ (fun h => by rw [ho] at h; cases h) (fun _ => hpl) (fun W hG => ?_)
      exact do_getx nn sz _ _ _ (Bk kk) (i * 3) rfl _ W (gc hG hP.1.1 hne)
    · refine step_plain M 11 nn m hk1 hk (by decide) hst (show 0 ≤ _ from Nat.zero_le _) (fun _ => by have e : (kd 11).ta = 0 := rfl; have e2 : (kd 11).pu = 1 := rfl; rw [e, e2] at hpu; rw [e]; omega) _ (fun h => by rw [ho] at h; cases h) (fun _ => hpl) (fun W hG => ?_)
      exact do_gety nn sz _ _ _ (Bk kk) (i * 3) rfl _ W (gc hG hP.1.2.1 hne)
    · exact step_put M hS k nn m hs hst (by omega) kk i hkk hi hpre
  · have hof : (kd k).oP = false := by rcases e : (kd k).oP with _ | _; rfl; exact absurd e ho
    have PL := fun hs hdo => step_plain M k n m hk1 hk hs hst (show (kd k).ta ≤ s.l.length by omega) (fun h => by rw [h] at hpu; omega) none (fun _ => rfl) (fun h => absurd h ho) hdo
    clear hpu hoP hta
    have hns : ¬ (k = 12 ∨ k = 13) := by rintro (rfl | rfl) <;> exact absurd hof (by decide)
    refine PL hns (fun W hG => ?_)
    unfold resR
    generalize (topL k s.l).getD 0 0 = a at *
    generalize (topL k s.l).getD 1 0 = b at *
    obtain rfl | rfl | rfl | rfl | rfl | rfl | rfl | rfl | rfl | rfl | rfl | rfl | rfl | rfl | rfl : k = 1 ∨ k = 2 ∨ k = 3 ∨ k = 4 ∨ k = 5 ∨ k = 6 ∨ k = 7 ∨ k = 8 ∨ k = 9 ∨ k = 10 ∨ k = 11 ∨ k = 12 ∨ k = 13 ∨ k = 14 ∨ k = 15 := by omega
    · exact do_push n sz a b none W
    · exact do_add n sz a b none A0 A1 W
    · exact do_sub n sz a b none A0 A1 W
    · exact do_min n sz a b none W
    · exact do_max n sz a b none W
    · exact do_neg n sz a b none A0 W
    · exact do_half n sz a b none A0 W
    · exact do_round n sz a b none A0 W
    · exact do_size n sz a b none W
    · exact absurd hof (by decide)
    · exact absurd hof (by decide)
    · exact absurd hof (by decide)
    · exact absurd hof (by decide)
    · exact do_choose n sz a b none W
    · exact do_loop n sz a b none W
end Go.Proofs.Ytdgagjcocohnnaa.Mc
