/-
  Layer 9 (machine): MachineJoins, walked.
-/
import Derived.Test.YtdgagjcocohnnaaMcEa
namespace Go.Proofs.Ytdgagjcocohnnaa.Mc
open Go.RowKit
open Go.Proofs.Ytdgagjcocohnnaa.Ot (Pt PtAt PA PO OO OT LX pre pre_mono shP scP p0 ot_below pa_below ot_congr oo_ot mo_oo rCount_any rSame_any EqO EqC)
theorem fl_bd {ns : Nat → Nat} {N : Nat} {g : Nat → Nat → Pt} (h : ∀ k, k < N → ∀ i, i < ns k → bdP (g k i)) : ∀ n : Nat, (n : Int) < (pre ns N : Nat) → bdP (fl ns (fun k i => shP 0 0 (g k i)) N n) := fun n hn => by
  obtain ⟨k, i, hk, hi, e⟩ := pre_at ns N n (by omega)
  rw [← e, fl_at (g := fun k i => shP 0 0 (g k i)) hi hk]
  show bdP (shP 0 0 (g k i))
  rw [sh_id2 (h k hk i hi)]
  exact h k hk i hi
theorem fl_sh {ns : Nat → Nat} {N : Nat} {F : Nat → Pt} (h : ∀ n : Nat, (n : Int) < (pre ns N : Nat) → bdP (F n)) : ∀ n : Nat, (n : Int) < (pre ns N : Nat) → fl ns (fun k i => shP 0 0 (F (pre ns k + i))) N n = F n := fun n hn => by
  obtain ⟨k, i, hk, hi, e⟩ := pre_at ns N n (by omega)
  rw [← e, fl_at (g := fun k i => shP 0 0 (F (pre ns k + i))) hi hk]
  show shP 0 0 (F (pre ns k + i)) = F (pre ns k + i)
  exact sh_id2 (h _ (by rw [e]; exact hn))
theorem pre_in {ns : Nat → Nat} {k i : Nat} (hi : i < ns k) : ∀ {N : Nat}, k < N → pre ns k + i < pre ns N
  | 0, h => absurd h (Nat.not_lt_zero _)
  | N + 1, h => by
    rw [pre]
    by_cases e : k = N
    · subst e
      omega
    · have := pre_in hi (show k < N by omega)
      omega
/-- A run that ends well. -/
def RunOk (N : Nat) (ns : Nat → Nat) (g : Nat → Nat → Pt) (l : List Opn) (sz st : Int) (G : Nat → Nat → Pt) : Prop :=
  ∀ (a : Option Addr) (c : Nat) (pa : Option Addr) (n pc : Nat) (w : World), l.length = n → n ≤ pc ∧ pc ≤ 9223372036854775807 → OT w a N ns g → PrA w.heap.size w pa l →
    Calls Try.prog 12 #[.slice pa n pc, .slice a N c, .int .i64 sz] w fun e w' => ∃ S, e = .returned (.tuple #[.slice (some ⟨S, 0, none⟩) N N, .int .i64 st, .int .i64 0]) ∧ OT w' (some ⟨S, 0, none⟩) N ns G ∧ Below w.heap.size w w'
theorem run_okP {N : Nat} {ns : Nat → Nat} {g : Nat → Nat → Pt} {l : List Opn} {sz : Int} {s : MS} (hN : N ≤ 2) (hs : pre ns N ≤ 12) (e : runL (pre ns N : Nat) sz l 0 ⟨[], 0, fl ns (fun k i => shP 0 0 (g k i)) N⟩ = .ok s) : RunOk N ns g l sz s.st (fun k i => s.f (pre ns k + i)) := fun a c pa n pc w hn hpc hA hp => by
  subst hn
  refine (Run_any a N c ns g (by omega) (by omega) l pa pc hpc sz w hA hp).mono ?_
  rintro e' w' ⟨h1, _⟩
  obtain ⟨S, Bk, h2, h3, h4⟩ := h1 s e
  exact ⟨S, h2, oo_ot h3, h4⟩
theorem joins_run {N : Nat} {ns : Nat → Nat} {g : Nat → Nat → Pt} {p q : List Opn} (sz : Int) (hN : N ≤ 2) (hs : pre ns N ≤ 12) (hb : ∀ k, k < N → ∀ i, i < ns k → bdP (g k i)) (hp : MadeP (pre ns N : Nat) p) (hq : MadeP (pre ns N : Nat) q) :
    ∃ st1 st2 G1 G2 G3, (0 ≤ st1 ∧ st1 ≤ 93) ∧ (0 ≤ st2 ∧ st2 ≤ 93) ∧ RunOk N ns g p sz st1 G1 ∧ RunOk N ns G1 q sz st2 G2 ∧ RunOk N ns g (p ++ q) sz (st1 + st2) G3 ∧ ∀ k, k < N → ∀ i, i < ns k → G3 k i = G2 k i := by
  obtain ⟨s1, e1, a1, a2, hb1, hK⟩ := joins_math (sz := sz) hp hq _ (fl_bd hb)
  obtain ⟨s2, t, e2, b1, b2, e3, e4, hE⟩ := hK _ (fl_sh hb1)
  have R3 := run_okP hN hs e3
  rw [e4] at R3
  exact ⟨s1.st, s2.st, _, _, _, ⟨a1, a2⟩, ⟨b1, b2⟩, run_okP hN hs e1, run_okP hN hs e2, R3, fun k hk i hi => hE _ (by have := pre_in hi hk; omega)⟩
theorem made_len {C : Int} {p : List Opn} (h : MadeP C p) : p.length ≤ 33 := by
  obtain ⟨ps, h1, h2, rfl⟩ := h
  have := flat_len h2
  omega
set_option maxRecDepth 100000 in
set_option maxHeartbeats 16000000 in
theorem Joins_any (la : Option Addr) (lN lc : Nat) (L : Nat → Nat) (l : Nat → Nat → Int) (pa : Option Addr) (pn pc : Nat) (p : Nat → Int) (x y z : Int) (hpc : pn ≤ 9223372036854775807) (ma : Option Addr) (mn mc : Nat) (m : Nat → Int) (hmc : mn ≤ 9223372036854775807) (sz : Int) (w : World) (hL : LX w la lN L l) (hP : Ax.LA w pa pn p) (hR : ∀ i, i < pn → Ax.R64 (p i)) (hM : Ax.LA w ma mn m) (hRM : ∀ i, i < mn → Ax.R64 (m i)) :
    Calls Try.prog 4 #[.agg #[.slice la lN lc, .slice pa pn pc, .int .i64 x, .int .i64 y, .int .i64 z], .slice ma mn mc, .int .i64 sz] w fun e w' => e = .returned (.bool true) ∧ Below w.heap.size w w' := by
  have hB0 : Below w.heap.size w (w.alloc (.cells #[.slice la lN lc, .slice pa pn pc, .int .i64 x, .int .i64 y, .int .i64 z] 26)) := ba (Below.refl _ _) _
  have c0 : (w.alloc (.cells #[.slice la lN lc, .slice pa pn pc, .int .i64 x, .int .i64 y, .int .i64 z] 26)).cell? ⟨w.heap.size, 0, none⟩ = some (.slice la lN lc) := by go_cell
  have c1 : (w.alloc (.cells #[.slice la lN lc, .slice pa pn pc, .int .i64 x, .int .i64 y, .int .i64 z] 26)).cell? ⟨w.heap.size, 1, none⟩ = some (.slice pa pn pc) := by go_cell
  have c2 : (w.alloc (.cells #[.slice la lN lc, .slice pa pn pc, .int .i64 x, .int .i64 y, .int .i64 z] 26)).cell? ⟨w.heap.size, 2, none⟩ = some (.int .i64 x) := by go_cell
  have c3 : (w.alloc (.cells #[.slice la lN lc, .slice pa pn pc, .int .i64 x, .int .i64 y, .int .i64 z] 26)).cell? ⟨w.heap.size, 3, none⟩ = some (.int .i64 y) := by go_cell
  have c4 : (w.alloc (.cells #[.slice la lN lc, .slice pa pn pc, .int .i64 x, .int .i64 y, .int .i64 z] 26)).cell? ⟨w.heap.size, 4, none⟩ = some (.int .i64 z) := by go_cell
  have HL := Lib.hid (Go.Proofs.Ytdgagjcocohnnaa.Ot.lx_below hL hB0)
  have HP := Lib.hid (Ax.la_below hP hB0)
  have HM := Lib.hid (Ax.la_below hM hB0)
  have HR := Lib.hid hR
  have HRM := Lib.hid hRM
  clear hL hP hR hM hRM
  go_enter Try.func4, Try.ntmps4
  go_upto_region 1 with (fail)
  generalize (w.alloc (.cells #[.slice la lN lc, .slice pa pn pc, .int .i64 x, .int .i64 y, .int .i64 z] 26)) = V0 at *
  obtain ⟨B, hBw⟩ : ∃ B, w.heap.size = B := ⟨_, rfl⟩
  rw [hBw] at c0 c1 c2 c3 c4 ⊢
  have HBw := Lib.hid hBw
  clear hBw
  go_wp2_with fail
  refine (sanity_any _).mono ?_
  rintro e V1 ⟨rfl, h1⟩
  have hB := bt hB0 h1
  replace c0 := kc h1 c0
  replace c1 := kc h1 c1
  replace c2 := kc h1 c2
  replace c3 := kc h1 c3
  replace c4 := kc h1 c4
  have HL1 := Lib.hid (Go.Proofs.Ytdgagjcocohnnaa.Ot.lx_below HL.out h1)
  have HP1 := Lib.hid (Ax.la_below HP.out h1)
  have HM1 := Lib.hid (Ax.la_below HM.out h1)
  clear h1 HL HP HM hB0
  go_wp2_with fail
  refine (made_any la lN lc L l pa pn pc p x y z hpc V1 HL1.out HP1.out HR.out).mono ?_
  rintro e V2 ⟨a, N, c, ns, g, pv, out, rfl, hN, hns, hpr, hA, hb, hown, hmp, h2⟩
  clear c0 c1 c2 c3 c4
  obtain ⟨qa, qc, rfl, q1, q2, hPr⟩ := own_pra rfl hown
  obtain ⟨n1, hn1⟩ : ∃ n, out.length = n := ⟨_, rfl⟩
  have hl1 := made_len hmp
  rw [hn1] at q1 hl1 ⊢
  have Hn1 := Lib.hid hn1
  replace hB := bt hB h2
  have HM2 := Lib.hid (Ax.la_below HM1.out h2)
  have Hns := Lib.hid hns
  have Hb := Lib.hid hb
  have Hmp := Lib.hid hmp
  have HA := Lib.hid hA
  have HPr := Lib.hid hPr
  clear hown h2 HL1 HP1 HM1 hns hb hmp hn1 hA hPr
  have CO := Lib.hid (rCount_any a N c ns g (by omega) (by omega) V2 HA.out)
  go_wp2_with fail
  refine CO.out.mono ?_
  rintro e _ ⟨rfl, rfl⟩
  have MD := Lib.hid (mMade_any ma mn mc m hmc (pre ns N : Nat) ⟨by omega, by omega⟩ V2 HM2.out HRM.out)
  clear CO
  go_wp2_with fail
  refine MD.out.mono ?_
  rintro e V3 ⟨qv, oq, rfl, hoq, hmq, h3⟩
  obtain ⟨ra, rc, rfl, r1, r2, hQr⟩ := own_pra rfl hoq
  obtain ⟨n2, hn2⟩ : ∃ n, oq.length = n := ⟨_, rfl⟩
  have hl2 := made_len hmq
  rw [hn2] at r1 hl2 ⊢
  have Hn2 := Lib.hid hn2
  replace hB := bt hB h3
  have HA3 := Lib.hid (ot_below HA.out h3)
  have HPr3 := Lib.hid (pra_up HPr.out h3)
  have HQr := Lib.hid hQr
  obtain ⟨st1, st2, G1, G2, G3, b1, b2, R1, R2, R3, HE⟩ := joins_run sz hN hpr Hb.out Hmp.out hmq
  have hR1 := Lib.hid R1
  have hR2 := Lib.hid R2
  have hR3 := Lib.hid R3
  have hHE := Lib.hid HE
  clear MD hoq hmq h3 hn2 HA HPr hQr R1 R2 R3 HE HM2 Hmp
  go_wp2_with fail
  refine (hR1.out a c qa n1 qc V3 Hn1.out ⟨q1, q2⟩ HA3.out HPr3.out).mono ?_
  rintro e V4 ⟨S1, rfl, hA4, h4⟩
  replace hB := bt hB h4
  have HA4 := Lib.hid (ot_below HA3.out h4)
  have HP4 := Lib.hid (pra_up HPr3.out h4)
  have HQ4 := Lib.hid (pra_up HQr.out h4)
  have HG4 := Lib.hid hA4
  clear h4 hA4 HA3 HPr3 HQr
  go_wp2_with fail
  refine (hR2.out (some ⟨S1, 0, none⟩) N ra n2 rc V4 Hn2.out ⟨r1, r2⟩ HG4.out HQ4.out).mono ?_
  rintro e V5 ⟨S2, rfl, hA5, h5⟩
  replace hB := bt hB h5
  have HA5 := Lib.hid (ot_below HA4.out h5)
  have HP5 := Lib.hid (pra_up HP4.out h5)
  have HQ5 := Lib.hid (pra_up HQ4.out h5)
  have HG5 := Lib.hid hA5
  clear h5 hA5 HA4 HP4 HQ4 HG4
  have hE' : (V5.alloc (.cells #[] 45)).ownsRow V5.heap.size 45 3 (.slice (some ⟨V5.heap.size, 0, none⟩) 0 0) 0 (opCells []) := own_e V5 (Nat.le_refl _)
  have hP6 : PrA (V5.alloc (.cells #[] 45)).heap.size (V5.alloc (.cells #[] 45)) qa out := pra_up HP5.out (ba (Below.refl _ _) _)
  have b6 : Below V5.heap.size V5 (V5.alloc (.cells #[] 45)) := ba (Below.refl _ _) _
  have HE' := Lib.hid hE'
  have HP6 := Lib.hid hP6
  have HB6 := Lib.hid b6
  have hsz6 := Lib.hid b6.size
  clear hE' hP6 b6
  go_upto_region 7 with (first
    | (at_builtin; refine wpList_ops (l := []) (l2 := out) (n := 0) (m := n1) V5.heap.size rfl _ _ rfl rfl rfl rfl Hn1.out HE'.out HP6.out (by omega) (by omega) hsz6.out ?_; intro v1 W1 ho1 hg1; have hw1 := gBo HB6.out hg1 (fun q e => (HE'.out.lt q e).1); have hq1 := Lib.hid (pra_up HQ5.out hw1); have hz1 := hw1.size; have hn3 := Lib.hid (show (([] : List Opn) ++ out).length = 0 + n1 by rw [List.nil_append, Hn1.out, Nat.zero_add]); replace ho1 := Lib.hid ho1)
    | (at_builtin; refine wpList_ops (l := [] ++ out) (l2 := oq) (n := 0 + n1) (m := n2) V5.heap.size rfl _ _ rfl rfl rfl hn3.out Hn2.out ho1.out hq1.out (by omega) (by omega) hz1 ?_; intro v2 W2 ho2 hg2; have hw2 := gBo hw1 hg2 (fun q e => (ho1.out.lt q e).1); obtain ⟨va, vc, rfl, hv1, hv2, hPv⟩ := own_pra (n := 0 + n1 + n2) (show (([] : List Opn) ++ out ++ oq).length = 0 + n1 + n2 by rw [List.length_append, hn3.out, Hn2.out]) ho2; rw [Nat.zero_add] at hv1; simp only [Nat.zero_add]; clear ho2 hg2))
  refine (hR3.out a c va (n1 + n2) vc W2 (by rw [List.length_append, Hn1.out, Hn2.out]) ⟨hv1, hv2⟩ (ot_below HA5.out hw2) hPv).mono ?_
  rintro e V7 ⟨S3, rfl, hA7, h7⟩
  have hB7 := bt (bt hB hw2) h7
  have SA := Lib.hid (rSame_any (some ⟨S3, 0, none⟩) (some ⟨S2, 0, none⟩) N N N N ns ns G3 G2 true (Lib.hid ⟨fun _ => ⟨rfl, fun k hk => ⟨rfl, fun i hi => hHE.out k hk i hi⟩⟩, fun _ => rfl⟩) (by omega) (by omega) (fun k hk => by have := Hns.out k hk; omega) (fun k hk => by have := Hns.out k hk; omega) V7 hA7 (ot_below (ot_below HG5.out hw2) h7))
  have wst : wrap64 (st1 + st2) = st1 + st2 := IntWalk.wrap64_in _ ⟨by omega, by omega⟩
  clear hR1 hR2 hR3 hHE HA5 HP5 HQ5 HG5 HE' HP6 HB6 hsz6 ho1 hq1 hn3 hA7 h7 hw1 hw2 hg1 hPv Hns Hb
  go_wp2_with fail
  refine SA.out.mono ?_
  rintro e V8 ⟨rfl, h8⟩
  go_wp2_with fail
  go_ret
  exact ⟨rfl, bt hB7 h8⟩
end Go.Proofs.Ytdgagjcocohnnaa.Mc
