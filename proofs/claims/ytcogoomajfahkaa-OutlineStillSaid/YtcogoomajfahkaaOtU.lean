/-
  Layer 6 (outline): Instance of the program.
-/
import Derived.Test.YtcogoomajfahkaaOtT
import Derived.Test.YtcogoomajfahkaaOtM
namespace Go.Proofs.Ytcogoomajfahkaa.Ot
open Go.RowKit
open Go.Proofs.Ytcogoomajfahkaa.Ax (Tns TA LA OI fit scal ps make_ints oi_below oi_set)
/-- The weights that are made behind some rounds. -/
def wgK (d : Nat → De) (q : Nat → Int) (k i : Nat) : Int := if i < k then wgt (d i).r (d i).K q else 0
theorem wgK_next (d : Nat → De) (q : Nat → Int) (k i : Nat) : wgK d q (k + 1) i = if i = k then wgt (d k).r (d k).K q else wgK d q k i := by
  unfold wgK
  by_cases h : i = k
  · subst h; rw [if_pos (by omega), if_pos rfl]
  · rw [if_neg h]
    by_cases h2 : i < k
    · rw [if_pos h2, if_pos (by omega)]
    · rw [if_neg h2, if_neg (by omega)]
def InRel (w : World) (S Bw : Nat) (la : Option Addr) (n lc : Nat) (d : Nat → De) (q : Nat → Int) (v : Value) (V : World) : Prop :=
  ∃ k : Nat, v = .int .i64 (k : Int) ∧ k ≤ n ∧ V.cell? ⟨w.heap.size, 0, none⟩ = some (.slice la n lc) ∧ V.cell? ⟨Bw, 0, none⟩ = some (.slice (some ⟨S, 0, none⟩) n n) ∧ OI V S n (wgK d q k) ∧ Below w.heap.size w V ∧ w.heap.size < S ∧ S < Bw
set_option maxRecDepth 100000 in
set_option maxHeartbeats 8000000 in
theorem Instance_no (a : Option Addr) (N c : Nat) (ns : Nat → Nat) (g : Nat → Nat → Pt) (la : Option Addr) (n lc : Nat) (d : Nat → De) (pa : Option Addr) (m pc : Nat) (hN : N ≤ 1000000) (hs : pre ns N ≤ 1000000) (hn : n ≤ 1000000) (w : World) (hA : OT w a N ns g) (hD : DA w la n d)
    (hz : ¬ ckD d n m (pre ns N : Nat) = 0) :
    Calls Try.prog 29 #[.slice a N c, .slice la n lc, .slice pa m pc] w fun e w' => e = .returned (.tuple #[.slice none 0 0, .int .i64 (ckD d n m (pre ns N : Nat))]) ∧ Below w.heap.size w w' := by
  have CO := Lib.hid (fun V h => Count_any a N c ns g hN hs V (ot_below hA h))
  have CK := Lib.hid (fun V h => checkDeltas_any la n lc d m (pre ns N : Nat) hn V (da_below hD h))
  have hc : (w.alloc (.cells #[.slice la n lc] 47)).cell? ⟨w.heap.size, 0, none⟩ = some (.slice la n lc) := by go_cell
  have hb : Below w.heap.size w (w.alloc (.cells #[.slice la n lc] 47)) := ba (Below.refl _ _) _
  generalize ckD d n m (pre ns N : Nat) = z at *
  generalize pre ns N = P at *
  have z1 : (z == 0) = false := beq_eq_false_iff_ne.2 hz
  have z2 : (z != 0) = true := by rw [bne, z1]; rfl
  clear hA hD
  go_enter Try.func29, Try.ntmps29
  go_upto_region 1 with (fail)
  generalize (w.alloc (.cells #[.slice la n lc] 47)) = V at *
  have C0 : ∀ w', Below V.heap.size V w' → w'.cell? ⟨w.heap.size, 0, none⟩ = some (.slice la n lc) := fun _ h => kc h hc
  go_region_held3 (fun w' => Below V.heap.size V w') (first
    | (with_reducible exact bd1 (Below.refl _ _))
    | (with_reducible assumption)
    | (with_reducible exact bt (by assumption) (by assumption)))
    (first
    | ((with_reducible refine (CO.out _ (bt hb (by assumption))).mono ?_); rintro en wa ⟨rfl, rfl⟩)
    | ((with_reducible refine (CK.out _ (bt hb (by assumption))).mono ?_); rintro en wa ⟨rfl, hba⟩))
  all_goals
    have hBf := bt hb (by with_reducible assumption)
    clear CO CK C0
    go_wp2_with fail
    go_ret2
    exact ⟨rfl, hBf⟩
theorem dFits_M {d : Nat → De} {m : Int} {P n k : Nat} (h : dFits d m (P : Nat) n = true) (hk : k < n) : (d k).M = P := by
  have h1 := dFits_all h k hk
  unfold dFit at h1
  rw [Bool.and_eq_true] at h1
  have := of_decide_eq_true h1.2
  omega
theorem ckD_ok {d : Nat → De} {n : Nat} {m p : Int} (h : ckD d n m p = 0) : n ≤ 8 ∧ dFits d m p n = true := by
  unfold ckD at h
  by_cases h8 : 8 < n
  · rw [if_pos h8] at h; omega
  · rw [if_neg h8] at h
    refine ⟨by omega, ?_⟩
    unfold ckD2 at h
    by_cases h2 : dFits d m p n = true
    · exact h2
    · rw [if_neg h2] at h; omega
/-- The weights at a position. -/
def wgs (d : Nat → De) (q : Nat → Int) (i : Nat) : Int := wgt (d i).r (d i).K q
def inst (ns : Nat → Nat) (g : Nat → Nat → Pt) (d : Nat → De) (q : Nat → Int) (n : Nat) (k i : Nat) : Pt := inP (wgs d q) d n (pre ns k + i) (g k i)
set_option maxRecDepth 100000 in
set_option maxHeartbeats 8000000 in
theorem Instance_yes (a : Option Addr) (N c : Nat) (ns : Nat → Nat) (g : Nat → Nat → Pt) (la : Option Addr) (n lc : Nat) (d : Nat → De) (pa : Option Addr) (m pc : Nat) (q : Nat → Int) (hN : N ≤ 1000000) (hs : pre ns N ≤ 1000000) (hn : n ≤ 1000000) (w : World) (hA : OT w a N ns g) (hD : DA w la n d) (hP : LA w pa m q)
    (hz : ckD d n m (pre ns N : Nat) = 0) :
    Calls Try.prog 29 #[.slice a N c, .slice la n lc, .slice pa m pc] w fun e w' => ∃ S B, e = .returned (.tuple #[.slice (some ⟨S, 0, none⟩) N N, .int .i64 0]) ∧ OO w' w.heap.size S N ns B (inst ns g d (ps m q) n) ∧ Below w.heap.size w w' := by
  have HA := Lib.hid hA
  have HD := Lib.hid hD
  have HP := Lib.hid hP
  obtain ⟨hn8, hfit⟩ := ckD_ok hz
  have HM : Hid (∀ k, k < n → (d k).M = pre ns N) := Lib.hid (fun k hk => dFits_M hfit hk)
  have CO := Lib.hid (fun V h => Count_any a N c ns g hN hs V (ot_below hA h))
  have CK := Lib.hid (fun V h => checkDeltas_any la n lc d m (pre ns N : Nat) hn V (da_below hD h))
  have hc : (w.alloc (.cells #[.slice la n lc] 47)).cell? ⟨w.heap.size, 0, none⟩ = some (.slice la n lc) := by go_cell
  have hb : Below w.heap.size w (w.alloc (.cells #[.slice la n lc] 47)) := ba (Below.refl _ _) _
  have hlV : w.heap.size < (w.alloc (.cells #[.slice la n lc] 47)).heap.size := by simp
  rw [hz] at CK
  clear hA hD hP hfit hz
  go_enter Try.func29, Try.ntmps29
  go_upto_region 1 with (fail)
  generalize (w.alloc (.cells #[.slice la n lc] 47)) = V at *
  have C0 : ∀ w', Below V.heap.size V w' → w'.cell? ⟨w.heap.size, 0, none⟩ = some (.slice la n lc) := fun _ h => kc h hc
  go_region_held3 (fun w' => Below V.heap.size V w') (first
    | (with_reducible exact bd1 (Below.refl _ _))
    | (with_reducible assumption)
    | (with_reducible exact bt (by assumption) (by assumption)))
    (first
    | ((with_reducible refine (CO.out _ (bt hb (by assumption))).mono ?_); rintro en wa ⟨rfl, rfl⟩)
    | ((with_reducible refine (CK.out _ (bt hb (by assumption))).mono ?_); rintro en wa ⟨rfl, hba⟩))
  all_goals
    have hBf : Below V.heap.size V wa := by with_reducible assumption
    have hc1 := C0 _ hBf
    have hb1 := bt hb hBf
    have hl1 := hBf.size
    clear CO CK C0 hc hb
    obtain ⟨V1, hmk, hO, hB1, hlt⟩ := make_ints wa n (by omega)
    have hc2 := kc hB1 hc1
    have hc3 := kc (ba (Below.refl _ V1) (.cells #[.slice (some ⟨wa.heap.size, 0, none⟩) n n] 44)) hc2
    go_wp2_with fail
    clear hmk
    have hB2 : Below wa.heap.size wa (V1.alloc (.cells #[.slice (some ⟨wa.heap.size, 0, none⟩) n n] 44)) := ba hB1 _
    have R0 : InRel w wa.heap.size V1.heap.size la n lc d (ps m q) (.int .i64 0) (V1.alloc (.cells #[.slice (some ⟨wa.heap.size, 0, none⟩) n n] 44)) :=
      ⟨0, rfl, by omega, kc hB2 hc1, by go_cell, Ax.oi_congr (oi_below hO (ba (Below.refl _ _) _)) (fun i _ => rfl), bt hb1 hB2, by omega, hlt⟩
    generalize (V1.alloc (.cells #[.slice (some ⟨wa.heap.size, 0, none⟩) n n] 44)) = V2 at *
    generalize wa.heap.size = S at *
    generalize V1.heap.size = Bw at *
    go_loopw [26] (fun v V => InRel w S Bw la n lc d (ps m q) v V) (fun v _ => n - (intOf v).toNat)
    case atStart => exact R0
    case round =>
      clear R0 hB2 hc1 hc2 hc3 hb1 hl1 hB1 hlt hlV hO hBf
      obtain ⟨k, rfl, hk, hcl, hcw, hO, hB, hlo, hSB⟩ := hrel
      rename World => Vr
      rcases Nat.lt_or_ge k n with hkn | hkn
      · obtain ⟨b, o, ra, rc, ma, mc, rfl, x0, x1, h3, h4, h5, h6, hT, hM⟩ := da_below HD.out hB k hkn
        have k2 : (0 : Int) ≤ (k : Int) := by omega
        have k3 : (k : Int) < (n : Int) := by omega
        have hA1 : Below Vr.heap.size Vr (Vr.alloc (.cells #[.slice ra (d k).K rc, .slice ma (d k).M mc] 54)) := ba (Below.refl _ _) _
        have WT := Lib.hid (fun V' h => weight_any ra (d k).K rc (d k).r pa m pc q (by omega) V' (Ax.ta_below hT (bt hA1 h)) (Ax.la_below (Ax.la_below HP.out hB) (bt hA1 h)))
        have hR : Hid (∀ V', Below (Vr.alloc (.cells #[.slice ra (d k).K rc, .slice ma (d k).M mc] 54)).heap.size (Vr.alloc (.cells #[.slice ra (d k).K rc, .slice ma (d k).M mc] 54)) V' → InRel w S Bw (some ⟨b, o, none⟩) n lc d (ps m q) (.int .i64 ((k : Int) + 1)) (V'.setCell ⟨S, k, none⟩ (.int .i64 (wgt (d k).r (d k).K (ps m q))))) :=
          Lib.hid (fun V' h => ⟨k + 1, rfl, by omega, gc (gs (gr _ _) _) (kc (bt hA1 h) hcl) (by omega), gc (gs (gr _ _) _) (kc (bt hA1 h) hcw) (by omega), oi_set (oi_below hO (bt hA1 h)) hkn (fun i => by rw [wgK_next]), bs (bt hB (bt hA1 h)) (by simp only; omega) _, hlo, hSB⟩)
        have a0 : (Vr.alloc (.cells #[.slice ra (d k).K rc, .slice ma (d k).M mc] 54)).cell? ⟨Vr.heap.size, 0, none⟩ = some (.slice ra (d k).K rc) := by go_cell
        obtain ⟨s0, s1⟩ := oi_below hO hA1 k hkn
        have cw := kc hA1 hcw
        have hBlt := block_lt_of_cell hcw
        simp only at hBlt
        clear hT hM hO hB hcl hcw
        generalize wgt (d k).r (d k).K (ps m q) = wt at *
        generalize (d k).K = K at *
        generalize (d k).M = M at *
        go_upto_region 8 with (fail)
        generalize (Vr.alloc (.cells #[.slice ra K rc, .slice ma M mc] 54)) = V3 at *
        have hne1 : Bw ≠ S := by omega
        have hne2 : Vr.heap.size ≠ S := by omega
        have A0 : ∀ w', V3.grownBy w' (some S) → w'.cell? ⟨Vr.heap.size, 0, none⟩ = some (.slice ra K rc) := fun _ h => gc h a0 hne2
        have CW : ∀ w', V3.grownBy w' (some S) → w'.cell? ⟨Bw, 0, none⟩ = some (.slice (some ⟨S, 0, none⟩) n n) := fun _ h => gc h cw hne1
        clear a0 cw x0 x1
        go_region_held3 (fun w' => V3.grownBy w' (some S)) (first
          | (with_reducible exact gs (by assumption) _)
          | (with_reducible exact gd1 (gr _ _))
          | (with_reducible exact gt (by assumption) hba))
          (first
          | ((with_reducible refine (WT.out _ (bd1 (Below.refl _ _))).mono ?_); rintro en wb ⟨rfl, hba⟩; replace s1 := kf (dB hba) s0 s1; replace s0 := kc (dB hba) s0; have hba' := dB hba))
        all_goals
          have R := Lib.hid (hR.out _ hba')
          clear hR A0 CW WT s0 s1
          go_wp2_with fail
          exact ⟨R.out, by simp [intOf]; omega⟩
      · obtain rfl : k = n := by omega
        have CH := Lib.hid (changed_any a N c ns g hN hs Vr (ot_below HA.out hB) 49 #[.pointer (some ⟨w.heap.size, 0, none⟩), .pointer (some ⟨Bw, 0, none⟩)] (fun j p => inP (wgs d (ps m q)) d k j p)
          (enters_of Try.func49 (by kernel_rfl) rfl) (fun j p V' hj h => Instance1_any j p w.heap.size Bw la k lc d S k (wgs d (ps m q)) hn8 (fun i hi => by rw [HM.out i hi]; exact hj) (by omega) V' (kc h hcl) (kc h hcw) (da_below HD.out (bt hB h)) (fun i hi => by
            have := ((oi_below hO h) i hi).1
            rw [this]
            unfold wgK wgs
            rw [if_pos hi])))
        have hBs := hB.size
        clear hO hcl hcw
        go_wp2_with fail
        refine CH.out.mono ?_
        rintro e V4 ⟨S4, B4, rfl, hO4, hB4⟩
        go_wp2_with fail
        go_ret2
        exact ⟨S4, B4, rfl, oo_congr (oo_lo hO4 hBs) (fun k' _ i' _ => rfl), bt hB hB4⟩
end Go.Proofs.Ytcogoomajfahkaa.Ot
