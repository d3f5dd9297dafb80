/-
  Layer 9 (machine): a case made: an outline and a program for it.
-/
import Derived.Test.YtdgagjcocohnnaaMcDOne
import Derived.Test.YtdgagjcocohnnaaMcZ
namespace Go.Proofs.Ytdgagjcocohnnaa.Mc
open Go.RowKit
open Go.Proofs.Ytdgagjcocohnnaa.Ot (Pt PtAt PA PO OO OT LX pre shP scP p0 ot_below pa_below ot_congr oo_ot mo_oo Made_any rScale_any rCount_any)
set_option maxRecDepth 100000 in
set_option maxHeartbeats 16000000 in
theorem made_any (la : Option Addr) (lN lc : Nat) (L : Nat → Nat) (l : Nat → Nat → Int) (pa : Option Addr) (pn pc : Nat) (p : Nat → Int) (x y z : Int) (hpc : pn ≤ 9223372036854775807) (w : World) (hL : LX w la lN L l) (hP : Ax.LA w pa pn p) (hR : ∀ i, i < pn → Ax.R64 (p i)) :
    Calls Try.prog 10 #[.agg #[.slice la lN lc, .slice pa pn pc, .int .i64 x, .int .i64 y, .int .i64 z]] w fun e w' => ∃ a N c ns g pv out, e = .returned (.tuple #[.slice a N c, pv]) ∧ N ≤ 2 ∧ (∀ k, k < N → ns k ≤ 6) ∧ pre ns N ≤ 12 ∧ OT w' a N ns g ∧ (∀ k, k < N → ∀ i, i < ns k → bdP (g k i)) ∧ w'.ownsRow w.heap.size 45 3 pv out.length (opCells out) ∧ MadeP (pre ns N : Nat) out ∧ Below w.heap.size w w' := by
  have hB0 : Below w.heap.size w (w.alloc (.cells #[.slice la lN lc, .slice pa pn pc, .int .i64 x, .int .i64 y, .int .i64 z] 26)) := ba (Below.refl _ _) _
  have c0 : (w.alloc (.cells #[.slice la lN lc, .slice pa pn pc, .int .i64 x, .int .i64 y, .int .i64 z] 26)).cell? ⟨w.heap.size, 0, none⟩ = some (.slice la lN lc) := by go_cell
  have c1 : (w.alloc (.cells #[.slice la lN lc, .slice pa pn pc, .int .i64 x, .int .i64 y, .int .i64 z] 26)).cell? ⟨w.heap.size, 1, none⟩ = some (.slice pa pn pc) := by go_cell
  have HL := Lib.hid (Go.Proofs.Ytdgagjcocohnnaa.Ot.lx_below hL hB0)
  have HP := Lib.hid (Ax.la_below hP hB0)
  have HR := Lib.hid hR
  clear hL hP hR
  go_enter Try.func10, Try.ntmps10
  go_upto_region 1 with (fail)
  generalize (w.alloc (.cells #[.slice la lN lc, .slice pa pn pc, .int .i64 x, .int .i64 y, .int .i64 z] 26)) = V1 at *
  obtain ⟨B, hBw⟩ : ∃ B, w.heap.size = B := ⟨_, rfl⟩
  rw [hBw] at c0 c1 ⊢
  have HBw := Lib.hid hBw
  clear hBw
  go_wp2_with fail
  refine (Made_any la lN lc L l V1 HL.out).mono ?_
  rintro e V2 ⟨v, xs, ns, Bm, g, rfl, hM, hck⟩
  have hB := bt hB0 hM.be
  replace c1 := kc hM.be c1
  have HP2 := Lib.hid (Ax.la_below HP.out hM.be)
  obtain ⟨a2, c2, S2, rfl, hc1, hc2, ha2, hO2, _⟩ := mo_oo hM
  obtain ⟨N, hN⟩ : ∃ N, min lN 2 = N := ⟨_, rfl⟩
  have hN2 : N ≤ 2 := by omega
  rw [hN] at hM hck hO2 ha2 hc1 ⊢
  have hns : ∀ j, j < N → ns j ≤ 6 := fun j hj => (hck j hj).2.1
  have hA2 := Go.Proofs.Ytdgagjcocohnnaa.Ot.oo_ot2 hO2 ha2
  have hpr := pre_two hN2 hns
  have SC := Lib.hid (rScale_any a2 N c2 ns g 12 (by omega) (fun k hk => by have := hns k hk; omega) V2 hA2)
  have hb1 := Lib.hid (show ∀ k, k < N → ∀ i, i < ns k → bdP (scP 12 (g k i)) from fun k hk i hi => by
    have := (hck k hk).2.2.2 i hi
    have h9 := sc_at (q := 12) ⟨by decide, by decide⟩ (p := g k i) ⟨this.1, this.2.1⟩ ⟨this.2.2.1, this.2.2.2⟩
    exact ⟨⟨by omega, by omega⟩, ⟨by omega, by omega⟩⟩)
  have Hns := Lib.hid hns
  clear hM hO2 ha2 hc1 hc2 hA2 hck HL HP hns hN c0
  go_wp2_with fail
  refine SC.out.mono ?_
  rintro e V3 ⟨a3, c3, S3, B3, rfl, hc3, hc4, ha3, hO3, h3⟩
  replace hB := bt hB h3
  replace c1 := kc h3 c1
  have HP3 := Lib.hid (Ax.la_below HP2.out h3)
  have hA3 := Go.Proofs.Ytdgagjcocohnnaa.Ot.oo_ot2 hO3 ha3
  obtain ⟨g1, hg1⟩ : ∃ g1 : Nat → Nat → Pt, g1 = fun k i => scP 12 (g k i) := ⟨_, rfl⟩
  have Hb : Hid (∀ k, k < N → ∀ i, i < ns k → bdP (g1 k i)) := Lib.hid (by rw [hg1]; exact hb1.out)
  rw [← hg1] at hA3
  clear hO3 ha3 h3 SC hb1 hg1 HP2
  have HA3 := Lib.hid hA3
  have CO := Lib.hid (fun W (h : Below V3.heap.size V3 W) => rCount_any a3 N c3 ns g1 (by omega) (by omega) W (ot_below HA3.out h))
  have MD := Lib.hid (fun W (h : Below V3.heap.size V3 W) => mMade_any pa pn pc p hpc (pre ns N : Nat) ⟨by omega, by omega⟩ W (Ax.la_below HP3.out h) HR.out)
  have C1 : ∀ W, Below V3.heap.size V3 W → W.cell? ⟨B, 1, none⟩ = some (.slice pa pn pc) := fun _ h => kc h c1
  clear hA3 c1
  obtain ⟨C, hC⟩ : ∃ C : Nat, pre ns N = C := ⟨_, rfl⟩
  rw [hC] at hpr CO MD
  have HC := Lib.hid hC
  clear hC
  go_upto_region 2 with (fail)
  go_region_held3 (fun w' => Below V3.heap.size V3 w') (first
    | (with_reducible exact bd1 (Below.refl _ _))
    | (with_reducible assumption))
    (first
    | ((with_reducible refine (CO.out _ (by assumption)).mono ?_); rintro e w4 ⟨rfl, rfl⟩)
    | ((with_reducible refine (MD.out _ (by assumption)).mono ?_); rintro e w5 ⟨pv, out, rfl, ho5, hm5, h5⟩; have hq5 := bt (w := V3) (by assumption) h5; have hs5 := h5.size))
  go_wp2_with fail
  refine bodyPost_ret (v := .tuple #[.slice a3 N c3, pv]) (by simp [results, Try.results10, go_sem]) rfl ?_
  have hbs := hB.size
  exact ⟨a3, N, c3, ns, g1, pv, out, rfl, hN2, Hns.out, by rw [HC.out]; exact hpr, ot_below HA3.out (by assumption), Hb.out, own_low ho5 (by have := (bd1 (Below.refl V3.heap.size V3)).size; omega), by rw [HC.out]; exact hm5, bt hB (by assumption)⟩
end Go.Proofs.Ytdgagjcocohnnaa.Mc
