/-
  Layer 9 (machine): MachineLoops, walked.
-/
import Derived.Test.YtdgagjcocohnnaaMcEb
namespace Go.Proofs.Ytdgagjcocohnnaa.Mc
open Go.RowKit
open Go.Proofs.Ytdgagjcocohnnaa.Ot (Pt PtAt PA PO OO OT LX pre pre_mono shP scP p0 ot_below pa_below ot_congr oo_ot mo_oo rCount_any rSame_any EqO EqC)
theorem loops_run {N : Nat} {ns : Nat → Nat} {g : Nat → Nat → Pt} {p : List Opn} (sz : Int) (hN : N ≤ 2) (hs : pre ns N ≤ 12) (hp : MadeP (pre ns N : Nat) p) (hl : 1 ≤ p.length) (r : Nat) (hr : 1 ≤ r ∧ r ≤ 4) :
    ∃ st G1 G2, (0 ≤ st ∧ st ≤ 1000) ∧ RunOk N ns g ([⟨15, (r : Int), (p.length : Nat)⟩] ++ p) sz (st + 1) G1 ∧ RunOk N ns g (rep p r) sz st G2 ∧ ∀ k, k < N → ∀ i, i < ns k → G1 k i = G2 k i := by
  obtain ⟨s, t, e1, e2, h1, h2, h3, hE⟩ := loops_math (sz := sz) hp hl r hr (fl ns (fun k i => shP 0 0 (g k i)) N)
  have R1 := run_okP hN hs e1
  rw [h1] at R1
  exact ⟨t.st, _, _, ⟨h2, h3⟩, R1, run_okP hN hs e2, fun k hk i hi => hE _ (by have := pre_in hi hk; omega)⟩
def LpRel (W : World) (S : Nat) (p : List Opn) (n r : Nat) (s12 s13 : Value) (V : World) : Prop := ∃ k : Nat, s13 = .int .i64 k ∧ k ≤ r ∧ V.ownsRow S 45 3 s12 (k * n) (opCells (rep p k)) ∧ Below W.heap.size W V ∧ S ≤ V.heap.size
set_option maxRecDepth 100000 in
set_option maxHeartbeats 16000000 in
theorem Loops_any (la : Option Addr) (lN lc : Nat) (L : Nat → Nat) (l : Nat → Nat → Int) (pa : Option Addr) (pn pc : Nat) (p : Nat → Int) (x y z : Int) (hpc : pn ≤ 9223372036854775807) (u : Int) (hu : 0 ≤ u ∧ u ≤ 255) (sz : Int) (w : World) (hL : LX w la lN L l) (hP : Ax.LA w pa pn p) (hR : ∀ i, i < pn → Ax.R64 (p i)) :
    Calls Try.prog 5 #[.agg #[.slice la lN lc, .slice pa pn pc, .int .i64 x, .int .i64 y, .int .i64 z], .int .u8 u, .int .i64 sz] w fun e w' => e = .returned (.bool true) ∧ Below w.heap.size w w' := by
  have hB0 : Below w.heap.size w (w.alloc (.cells #[.slice la lN lc, .slice pa pn pc, .int .i64 x, .int .i64 y, .int .i64 z] 26)) := ba (Below.refl _ _) _
  have c0 : (w.alloc (.cells #[.slice la lN lc, .slice pa pn pc, .int .i64 x, .int .i64 y, .int .i64 z] 26)).cell? ⟨w.heap.size, 0, none⟩ = some (.slice la lN lc) := by go_cell
  have c1 : (w.alloc (.cells #[.slice la lN lc, .slice pa pn pc, .int .i64 x, .int .i64 y, .int .i64 z] 26)).cell? ⟨w.heap.size, 1, none⟩ = some (.slice pa pn pc) := by go_cell
  have c2 : (w.alloc (.cells #[.slice la lN lc, .slice pa pn pc, .int .i64 x, .int .i64 y, .int .i64 z] 26)).cell? ⟨w.heap.size, 2, none⟩ = some (.int .i64 x) := by go_cell
  have c3 : (w.alloc (.cells #[.slice la lN lc, .slice pa pn pc, .int .i64 x, .int .i64 y, .int .i64 z] 26)).cell? ⟨w.heap.size, 3, none⟩ = some (.int .i64 y) := by go_cell
  have c4 : (w.alloc (.cells #[.slice la lN lc, .slice pa pn pc, .int .i64 x, .int .i64 y, .int .i64 z] 26)).cell? ⟨w.heap.size, 4, none⟩ = some (.int .i64 z) := by go_cell
  have HL := Lib.hid (Go.Proofs.Ytdgagjcocohnnaa.Ot.lx_below hL hB0)
  have HP := Lib.hid (Ax.la_below hP hB0)
  have HR := Lib.hid hR
  clear hL hP hR
  go_enter Try.func5, Try.ntmps5
  go_upto_region 1 with (fail)
  generalize (w.alloc (.cells #[.slice la lN lc, .slice pa pn pc, .int .i64 x, .int .i64 y, .int .i64 z] 26)) = V0 at *
  obtain ⟨B, hBw⟩ : ∃ B, w.heap.size = B := ⟨_, rfl⟩
  rw [hBw] at c0 c1 c2 c3 c4 ⊢
  have HBw := Lib.hid hBw
  clear hBw
  go_wp2_with fail
  refine (sanity_any _).mono ?_
  rintro e V1 ⟨rfl, h1⟩
  have hB := bt hB0 h1
  replace c0 := kc h1 c0
  replace c1 := kc h1 c1
  replace c2 := kc h1 c2
  replace c3 := kc h1 c3
  replace c4 := kc h1 c4
  have HL1 := Lib.hid (Go.Proofs.Ytdgagjcocohnnaa.Ot.lx_below HL.out h1)
  have HP1 := Lib.hid (Ax.la_below HP.out h1)
  clear h1 HL HP hB0
  go_wp2_with fail
  refine (made_any la lN lc L l pa pn pc p x y z hpc V1 HL1.out HP1.out HR.out).mono ?_
  rintro e V2 ⟨a, N, c, ns, g, pv, out, rfl, hN, hns, hpr, hA, hb, hown, hmp, h2⟩
  clear c0 c1 c2 c3 c4
  obtain ⟨qa, qc, rfl, q1, q2, hPr⟩ := own_pra rfl hown
  obtain ⟨n1, hn1⟩ : ∃ n, out.length = n := ⟨_, rfl⟩
  have hl1 := made_len hmp
  rw [hn1] at q1 hl1 ⊢
  have Hn1 := Lib.hid hn1
  replace hB := bt hB h2
  have Hns := Lib.hid hns
  have Hb := Lib.hid hb
  have Hmp := Lib.hid hmp
  have HA := Lib.hid hA
  have HPr := Lib.hid hPr
  clear hown h2 HL1 HP1 hns hb hmp hn1 hA hPr
  by_cases hn0 : n1 = 0
  · subst hn0
    go_wp2_with fail
    go_ret
    exact ⟨rfl, hB⟩
  · have hz1 : ((n1 : Int) == 0) = false := beq_eq_false_iff_ne.2 (by omega)
    have hz2 : ¬ (n1 : Int) = 0 := by omega
    have hu1 := hu.1
    have hu2 := hu.2
    obtain ⟨r, hr⟩ : ∃ r : Nat, 1 + u % 4 = (r : Int) := ⟨(1 + u % 4).toNat, by omega⟩
    have hr4 : 1 ≤ r ∧ r ≤ 4 := by omega
    obtain ⟨st, G1, G2, b1, R1, R2, HE⟩ := loops_run (g := g) sz hN hpr Hmp.out (by rw [Hn1.out]; omega) r hr4
    rw [Hn1.out] at R1
    have hR1 := Lib.hid R1
    have hR2 := Lib.hid R2
    have hHE := Lib.hid HE
    have hr1 := hr4.1
    have hr2 := hr4.2
    clear R1 R2 HE Hmp hr4 hu
    have HR0 := Lib.hid hr
    have hE' : (V2.alloc (.cells #[.int .i64 15, .int .i64 r, .int .i64 n1] 45)).ownsRow V2.heap.size 45 3 (.slice (some ⟨V2.heap.size, 0, none⟩) 1 1) 1 (opCells [⟨15, r, n1⟩]) := own_l rfl rfl (Nat.le_refl _) (by decide)
    have hP6 : PrA (V2.alloc (.cells #[.int .i64 15, .int .i64 r, .int .i64 n1] 45)).heap.size (V2.alloc (.cells #[.int .i64 15, .int .i64 r, .int .i64 n1] 45)) qa out := pra_up HPr.out (ba (Below.refl _ _) _)
    have b6 : Below V2.heap.size V2 (V2.alloc (.cells #[.int .i64 15, .int .i64 r, .int .i64 n1] 45)) := ba (Below.refl _ _) _
    have HE' := Lib.hid hE'
    have HP6 := Lib.hid hP6
    have HB6 := Lib.hid b6
    have hsz6 := Lib.hid b6.size
    clear hE' hP6 b6 hr
    go_upto_region 6 with (fail)
    rw [HR0.out]
    go_upto_region 7 with (at_builtin; refine wpList_ops (l := [⟨15, r, n1⟩]) (l2 := out) (n := 1) (m := n1) V2.heap.size rfl _ _ rfl rfl rfl rfl Hn1.out HE'.out HP6.out (by omega) (by omega) hsz6.out ?_; intro v1 W1 ho1 hg1)
    have hw1 := gBo HB6.out hg1 (fun q e => (HE'.out.lt q e).1)
    have hl15 : Hid (([⟨15, (r : Int), (n1 : Int)⟩] ++ out : List Opn).length = 1 + n1) := Lib.hid (by rw [List.length_append, Hn1.out]; rfl)
    obtain ⟨va, vc, rfl, hv1, hv2, hPv⟩ := own_pra (n := 1 + n1) hl15.out ho1
    have HPv := Lib.hid hPv
    have hq1 := Lib.hid (pra_up HPr.out hw1)
    have HA1 := Lib.hid (ot_below HA.out hw1)
    replace hB := bt hB hw1
    clear hPv ho1 hg1 hw1 HE' HP6 HB6 hsz6 HPr HA HR0
    have R0 : LpRel W1 W1.heap.size out n1 r (.slice none 0 0) (.int .i64 0) W1 := ⟨0, rfl, Nat.zero_le _, by rw [Nat.zero_mul]; exact World.ownsRow_nil _ _ _ _, Below.refl _ _, Nat.le_refl _⟩
    go_wp2_with fail
    go_loopw [12, 13] (fun s12 s13 V => LpRel W1 W1.heap.size out n1 r s12 s13 V) (fun _ s13 _ => r - (intOf s13).toNat)
    case atStart => exact R0
    case round =>
      clear R0
      obtain ⟨k, rfl, hk, hown, hV, hS⟩ := hrel
      rename World => V
      have hkn : k * n1 ≤ 132 := Nat.mul_le_mul (show k ≤ 4 by omega) hl1
      have hlk : Hid ((rep out k).length = k * n1) := Lib.hid (by rw [rep_len, Hn1.out])
      rcases Nat.lt_or_ge k r with hkr | hkr
      · have k2 : (0 : Int) ≤ (k : Int) := by omega
        have k3 : (k : Int) < (r : Int) := by omega
        have hPk := Lib.hid (pra_up hq1.out hV)
        have HOWN := Lib.hid hown
        have FIN : Hid (∀ v' W', W'.ownsRow W1.heap.size 45 3 v' (k * n1 + n1) (opCells (rep out k ++ out)) → V.grownBy W' u12.ownBlock → LpRel W1 W1.heap.size out n1 r v' (.int .i64 ((k : Int) + 1)) W') := Lib.hid (fun v' W' ho hg => ⟨k + 1, rfl, by omega, by rw [Nat.succ_mul, ← rep_app]; exact ho, gBo hV hg (fun q e => (hown.lt q e).1), Nat.le_trans hS hg.size⟩)
        clear hown hV
        go_wp2_with (at_builtin; refine wpList_ops (l := rep out k) (l2 := out) (n := k * n1) (m := n1) W1.heap.size rfl _ _ rfl rfl rfl hlk.out Hn1.out HOWN.out hPk.out (by omega) (by omega) hS ?_; intro v' W' ho5 hg5)
        have R := Lib.hid (FIN.out _ _ ho5 hg5)
        clear FIN ho5 hg5 HOWN hPk
        go_wp2_with fail
        exact ⟨R.out, by simp [intOf]; omega⟩
      · obtain rfl : k = r := by omega
        obtain ⟨wa, wc, rfl, hx1, hx2, hPw⟩ := own_pra hlk.out hown
        have HPw := Lib.hid hPw
        have HPv2 := Lib.hid (pra_up HPv.out hV)
        have HA2 := Lib.hid (ot_below HA1.out hV)
        replace hB := bt hB hV
        obtain ⟨kn, hkn'⟩ : ∃ kn, k * n1 = kn := ⟨_, rfl⟩
        rw [hkn'] at hx1 hlk ⊢
        clear hown hV hPw HPv hq1 HA1 hkn'
        go_wp2_with fail
        refine (hR1.out a c va (1 + n1) vc V hl15.out ⟨hv1, hv2⟩ HA2.out HPv2.out).mono ?_
        rintro e V3 ⟨S1, rfl, hA3, h3⟩
        have HA3 := Lib.hid (ot_below HA2.out h3)
        have HPw3 := Lib.hid (pra_up HPw.out h3)
        have HG3 := Lib.hid hA3
        replace hB := bt hB h3
        clear h3 HA2 HPv2 HPw hA3
        go_wp2_with fail
        refine (hR2.out a c wa kn wc V3 hlk.out ⟨hx1, hx2⟩ HA3.out HPw3.out).mono ?_
        rintro e V4 ⟨S2, rfl, hA4, h4⟩
        replace hB := bt hB h4
        have SA := Lib.hid (rSame_any (some ⟨S1, 0, none⟩) (some ⟨S2, 0, none⟩) N N N N ns ns G1 G2 true (Lib.hid ⟨fun _ => ⟨rfl, fun k hk => ⟨rfl, fun i hi => hHE.out k hk i hi⟩⟩, fun _ => rfl⟩) (by omega) (by omega) (fun k hk => by have := Hns.out k hk; omega) (fun k hk => by have := Hns.out k hk; omega) V4 (ot_below HG3.out h4) hA4)
        have wst : wrap64 (st + 1) = st + 1 := IntWalk.wrap64_in _ ⟨by omega, by omega⟩
        clear hR1 hR2 hHE HA3 HPw3 HG3 hA4 h4 Hns Hb hlk hl15
        go_wp2_with fail
        refine SA.out.mono ?_
        rintro e V8 ⟨rfl, h8⟩
        go_wp2_with fail
        go_ret
        exact ⟨rfl, bt hB h8⟩
end Go.Proofs.Ytdgagjcocohnnaa.Mc
