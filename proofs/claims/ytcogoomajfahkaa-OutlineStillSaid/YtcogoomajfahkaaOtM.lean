/-
  Layer 6 (outline): weights of the program.
-/
import Derived.Test.YtcogoomajfahkaaOtL
import Derived.Test.YtcogoomajfahkaaOtE0
namespace Go.Proofs.Ytcogoomajfahkaa.Ot
open Go.RowKit
open Go.Proofs.Ytcogoomajfahkaa.Ax (Tns TA LA fit scal ps ratV Scalar_any)
open Go.Proofs.Ytcogoomajfahkaa.Ex (RoI RoB MdI MdB outI fits round_go muldiv_go)
theorem out_R (q : Int) : R64 (outI q) := by
  unfold outI R64
  split
  · rename_i h
    unfold fits at h
    simpa using h
  · omega
theorem md_R (a b c : Int) : R64 (MdI a b c) := by
  unfold MdI
  split
  · unfold R64; omega
  · exact out_R _
theorem ro_R (a b : Int) : R64 (RoI a b) := by
  unfold RoI
  split
  · unfold R64; omega
  · exact out_R _
theorem scal_R (g : Nat → Tns) (n : Nat) (q : Nat → Int) : R64 (scal g n q).1 ∧ R64 (scal g n q).2 := by
  unfold scal
  split
  · exact Ax.sc_bd g q n
  · exact ⟨by unfold R64; simp, by unfold R64; simp⟩
/-- The weight of a region. -/
def wgt (g : Nat → Tns) (n : Nat) (q : Nat → Int) : Int := RoI (MdI 8192 (scal g n q).1 (scal g n q).2) 2
set_option maxRecDepth 100000 in
set_option maxHeartbeats 2000000 in
theorem weight_any (a : Option Addr) (n c : Nat) (g : Nat → Tns) (pa : Option Addr) (m d : Nat) (p : Nat → Int) (hn : n ≤ 9223372036854775807) (w : World) (hA : TA w a n g) (hP : LA w pa m p) :
    Calls Try.prog 48 #[.slice a n c, .slice pa m d] w fun e w' => e = .returned (.int .i64 (wgt g n (ps m p))) ∧ Below w.heap.size w w' := by
  have SC := Lib.hid (Scalar_any a n c g pa m d p hn w hA hP)
  obtain ⟨h1, h2⟩ := scal_R g n (ps m p)
  unfold wgt
  unfold ratV at SC
  generalize (scal g n (ps m p)).1 = N at *
  generalize (scal g n (ps m p)).2 = D at *
  have MD := Lib.hid (fun w => muldiv_go 8192 N D (by omega) h1 h2 w)
  have hM := md_R 8192 N D
  generalize MdB 8192 N D = mb at *
  generalize MdI 8192 N D = mi at *
  have RO := Lib.hid (fun w => round_go mi 2 hM (by omega) w)
  generalize RoB mi 2 = rb at *
  generalize RoI mi 2 = ri at *
  clear hA hP h1 h2 hM
  go_enter Try.func48, Try.ntmps48
  go_wp2_with fail
  refine SC.out.mono ?_
  rintro e V1 ⟨rfl, hB⟩
  go_wp2_with fail
  refine (MD.out _).mono ?_
  rintro e V2 ⟨rfl, hB2⟩
  go_wp2_with fail
  refine (RO.out _).mono ?_
  rintro e V3 ⟨rfl, hB3⟩
  go_wp2
  go_ret
  exact ⟨rfl, bt (bt (bt hB (ba (Below.refl _ _) _)) hB2) hB3⟩
theorem unweighted_any (s : Int) (hs : R64 s) (w : World) :
    Calls Try.prog 50 #[.int .i64 s] w fun e w' => e = .returned (.int .i64 (RoI s 4096)) ∧ Below w.heap.size w w' := by
  have RO := Lib.hid (fun w => round_go s 4096 hs (by omega) w)
  generalize RoB s 4096 = rb at *
  generalize RoI s 4096 = ri at *
  go_enter Try.func50, Try.ntmps50
  go_wp2_with fail
  refine (RO.out _).mono ?_
  rintro e V3 ⟨rfl, hB3⟩
  go_wp2
  go_ret
  exact ⟨rfl, hB3⟩
/-- The sums of weighted moves. -/
def smX (W : Nat → Int) (d : Nat → De) (k : Nat) : Nat → Int
  | 0 => 0
  | i + 1 => wrap64 (smX W d k i + W i * (d i).x k)
def smY (W : Nat → Int) (d : Nat → De) (k : Nat) : Nat → Int
  | 0 => 0
  | i + 1 => wrap64 (smY W d k i + W i * (d i).y k)
theorem smX_R (W : Nat → Int) (d : Nat → De) (k n : Nat) : R64 (smX W d k n) := by
  cases n with
  | zero => unfold smX R64; omega
  | succ n => exact w_R _
theorem smY_R (W : Nat → Int) (d : Nat → De) (k n : Nat) : R64 (smY W d k n) := by
  cases n with
  | zero => unfold smY R64; omega
  | succ n => exact w_R _
/-- What Instance makes of a point. -/
def inP (W : Nat → Int) (d : Nat → De) (n k : Nat) (p : Pt) : Pt := ⟨wrap64 (p.x + RoI (smX W d k n) 4096), wrap64 (p.y + RoI (smY W d k n) 4096), p.o⟩
theorem gud {a w : World} {r : Option Nat} (h : a.grownBy w.drew r) : a.grownBy w r := ⟨h.os, h.tape, h.output, h.size, h.block⟩
def I1Rel (w : World) (W : Nat → Int) (d : Nat → De) (k n : Nat) (s7 s8 s13 : Value) (V : World) : Prop := ∃ i : Nat, s13 = .int .i64 i ∧ i ≤ n ∧ s7 = .int .i64 (smX W d k i) ∧ s8 = .int .i64 (smY W d k i) ∧ Below w.heap.size w V
set_option maxRecDepth 100000 in
set_option maxHeartbeats 8000000 in
theorem Instance1_any (k : Nat) (p : Pt) (Bl Bw : Nat) (la : Option Addr) (n lc : Nat) (d : Nat → De) (S : Nat) (wc : Nat) (W : Nat → Int) (hn : n ≤ 8) (hk : ∀ i, i < n → k < (d i).M) (hk6 : k ≤ 1000000) (w : World)
    (hl : w.cell? ⟨Bl, 0, none⟩ = some (.slice la n lc)) (hw : w.cell? ⟨Bw, 0, none⟩ = some (.slice (some ⟨S, 0, none⟩) n wc)) (hD : DA w la n d) (hW : ∀ i, i < n → w.cell? ⟨S, i, none⟩ = some (.int .i64 (W i))) :
    Calls Try.prog 49 #[.int .i64 (k : Int), .agg #[.int .i64 p.x, .int .i64 p.y, .bool p.o], .pointer (some ⟨Bl, 0, none⟩), .pointer (some ⟨Bw, 0, none⟩)] w fun e w' => e = .returned (.agg #[.int .i64 (inP W d n k p).x, .int .i64 (inP W d n k p).y, .bool (inP W d n k p).o]) ∧ Below w.heap.size w w' := by
  have HD := Lib.hid hD
  have HL := Lib.hid hl
  have HWc := Lib.hid hw
  have HW := Lib.hid hW
  have HK := Lib.hid hk
  obtain ⟨qx, hqx⟩ : ∃ q, (inP W d n k p).x = q := ⟨_, rfl⟩
  obtain ⟨qy, hqy⟩ : ∃ q, (inP W d n k p).y = q := ⟨_, rfl⟩
  have hqo : (inP W d n k p).o = p.o := rfl
  rw [hqx, hqy, hqo]
  have HQ : Hid (wrap64 (p.x + RoI (smX W d k n) 4096) = qx ∧ wrap64 (p.y + RoI (smY W d k n) 4096) = qy) := Lib.hid ⟨hqx, hqy⟩
  clear hqx hqy hqo
  have n1 := block_lt_of_cell hl
  have n2 := block_lt_of_cell hw
  simp only at n1 n2
  clear hD hW hw hk
  go_enter Try.func49, Try.ntmps49
  go_wp2_with fail
  have hB0 : Below w.heap.size w ((w.alloc (.cells #[.int .i64 p.x, .int .i64 p.y, .bool p.o] 62)).alloc (.cells #[.int .i64 0, .int .i64 0, .bool false] 62)) := ba (ba (Below.refl _ _) _) _
  have hz : ∀ (W : World), W = ((w.alloc (.cells #[.int .i64 p.x, .int .i64 p.y, .bool p.o] 62)).alloc (.cells #[.int .i64 0, .int .i64 0, .bool false] 62)) → PtAt W w.heap.size 0 p ∧ PtAt W (w.heap.size + 1) 0 p0 ∧ W.frozen? ⟨w.heap.size + 1, 0, none⟩ = false ∧ W.frozen? ⟨w.heap.size + 1, 1, none⟩ = false ∧ W.frozen? ⟨w.heap.size + 1, 2, none⟩ = false := by
    rintro W rfl
    exact ⟨⟨by go_cell, by go_cell, by go_cell⟩, ⟨by show World.cell? _ _ = some (Value.int IntKind.i64 0); go_cell, by show World.cell? _ _ = some (Value.int IntKind.i64 0); go_cell, by show World.cell? _ _ = some (Value.bool false); go_cell⟩, by go_cell, by go_cell, by go_cell⟩
  obtain ⟨hPp, hPz, f0, f1, f2⟩ := hz _ rfl
  clear hz hl
  generalize ((w.alloc (.cells #[.int .i64 p.x, .int .i64 p.y, .bool p.o] 62)).alloc (.cells #[.int .i64 0, .int .i64 0, .bool false] 62)) = W0 at *
  go_loopw [7, 8, 13] (fun s7 s8 s13 V => I1Rel w W d k n s7 s8 s13 V ∧ Below W0.heap.size W0 V) (fun _ _ s13 _ => n - (intOf s13).toNat)
  case atStart => exact ⟨⟨0, rfl, by omega, rfl, rfl, hB0⟩, Below.refl _ _⟩
  case round =>
    obtain ⟨⟨i, rfl, hi, rfl, rfl, hB⟩, hBW⟩ := hrel
    rename World => V
    rcases Nat.lt_or_ge i n with hin | hin
    · obtain ⟨b, o, ra, rc, ma, mc, rfl, x0, x1, h3, h4, h5, h6, hT, hM⟩ := da_below HD.out hB i hin
      have hkM := HK.out i hin
      obtain ⟨b2, o2, rfl, y0, y1⟩ := hM k hkM
      have wc0 := kc hB HWc.out
      have wi := kc hB (HW.out i hin)
      have i2 : (0 : Int) ≤ (i : Int) := by omega
      have i3 : (i : Int) < (n : Int) := by omega
      have k2 : (0 : Int) ≤ (k : Int) := by omega
      have k3 : (k : Int) < (((d i).M : Nat) : Int) := by omega
      have hNX : Hid (∀ V', Below V.heap.size V V' → I1Rel w W d k n (.int .i64 (wrap64 (smX W d k i + W i * (d i).x k))) (.int .i64 (wrap64 (smY W d k i + W i * (d i).y k))) (.int .i64 ((i : Int) + 1)) V' ∧ Below W0.heap.size W0 V') :=
        Lib.hid (fun V' h => ⟨⟨i + 1, rfl, by omega, rfl, rfl, bt hB h⟩, bt hBW h⟩)
      have hA1 : Below V.heap.size V (V.alloc (.cells #[.slice ra (d i).K rc, .slice (some ⟨b2, o2, none⟩) (d i).M mc] 54)) := ba (Below.refl _ _) _
      have a1 : (V.alloc (.cells #[.slice ra (d i).K rc, .slice (some ⟨b2, o2, none⟩) (d i).M mc] 54)).cell? ⟨V.heap.size, 1, none⟩ = some (.slice (some ⟨b2, o2, none⟩) (d i).M mc) := by go_cell
      clear hT hM hB hBW
      generalize smX W d k i = sx at *
      generalize smY W d k i = sy at *
      generalize W i = wi' at *
      generalize (d i).x k = mx at *
      generalize (d i).y k = my at *
      generalize (d i).M = M at *
      generalize (d i).K = K at *
      have e1 : wrap64 (sx + wrap64 (wi' * mx)) = wrap64 (sx + wi' * mx) := w_addr _ _
      have e2 : wrap64 (sy + wrap64 (wi' * my)) = wrap64 (sy + wi' * my) := w_addr _ _
      generalize wrap64 (sx + wi' * mx) = tx at *
      generalize wrap64 (sy + wi' * my) = ty at *
      obtain ⟨px, hpx⟩ : ∃ z, wrap64 (wi' * mx) = z := ⟨_, rfl⟩
      obtain ⟨py, hpy⟩ : ∃ z, wrap64 (wi' * my) = z := ⟨_, rfl⟩
      rw [hpx] at e1
      rw [hpy] at e2
      have e3 : IntKind.i64.wrap (wi' * mx) = px := (IntWalk.i64_left _).trans hpx
      have e4 : IntKind.i64.wrap (wi' * my) = py := (IntWalk.i64_left _).trans hpy
      have e5 : IntKind.i64.wrap (sx + px) = tx := (IntWalk.i64_left _).trans e1
      have e6 : IntKind.i64.wrap (sy + py) = ty := (IntWalk.i64_left _).trans e2
      go_upto_region 5 with (fail)
      replace wc0 := kc hA1 wc0
      replace wi := kc hA1 wi
      replace y0 := kc hA1 y0
      replace y1 := kc hA1 y1
      clear x0 x1
      generalize (V.alloc (.cells #[.slice ra K rc, .slice (some ⟨b2, o2, none⟩) M mc] 54)) = V1 at *
      go_quiet (fail)
      go_upto_region 6 with (fail)
      go_quiet (fail)
      have R := Lib.hid (fun q => hNX.out _ (bd hA1 q))
      clear hNX a1 wc0 wi y0 y1
      go_wp2_with fail
      exact ⟨R.out _, by simp [intOf]; omega⟩
    · obtain rfl : i = n := by omega
      have hx : R64 (smX W d k i) := smX_R _ _ _ _
      have hy : R64 (smY W d k i) := smY_R _ _ _ _
      have UX := Lib.hid (fun w => unweighted_any _ hx w)
      have UY := Lib.hid (fun w => unweighted_any _ hy w)
      obtain ⟨u0, u1, u2⟩ := ptat_below hPp hBW
      obtain ⟨t0, t1, t2⟩ := ptat_below hPz hBW
      simp only [Nat.zero_add] at u1 u2 t1 t2
      have g0 := kf hBW hPz.1 f0
      have g1 := kf hBW hPz.2.1 f1
      have g2 := kf hBW hPz.2.2 f2
      clear hx hy hPp hPz f0 f1 f2
      obtain ⟨hq1, hq2⟩ := HQ.out
      clear HQ
      generalize RoI (smX W d k i) 4096 = rx at *
      generalize RoI (smY W d k i) 4096 = ry at *
      generalize smX W d k i = sx at *
      generalize smY W d k i = sy at *
      have hne : w.heap.size ≠ w.heap.size + 1 := by omega
      have P0 : ∀ V', V.grownBy V' (some (w.heap.size + 1)) → V'.cell? ⟨w.heap.size, 0, none⟩ = some (.int .i64 p.x) := fun _ h => gc h u0 hne
      have P1 : ∀ V', V.grownBy V' (some (w.heap.size + 1)) → V'.cell? ⟨w.heap.size, 1, none⟩ = some (.int .i64 p.y) := fun _ h => gc h u1 hne
      have P2 : ∀ V', V.grownBy V' (some (w.heap.size + 1)) → V'.cell? ⟨w.heap.size, 2, none⟩ = some (.bool p.o) := fun _ h => gc h u2 hne
      have e1 : IntKind.i64.wrap (p.x + rx) = qx := (IntWalk.i64_left _).trans hq1
      have e2 : IntKind.i64.wrap (p.y + ry) = qy := (IntWalk.i64_left _).trans hq2
      clear u0 u1 u2 HD HL HWc HW HK
      go_upto_region 8 with (fail)
      go_region_held3 (fun w' => V.grownBy w' (some (w.heap.size + 1))) (first
        | (with_reducible exact gd1 (gr _ _))
        | (with_reducible exact gd1 (gs (gs (gs (gud (by assumption)) _) _) _))
        | (with_reducible exact gs (gs (gs (by assumption) _) _) _)
        | (with_reducible exact gt (by assumption) hba))
        (first
        | ((with_reducible refine (UX.out _).mono ?_); rintro en wa ⟨rfl, hba⟩; replace g0 := kf hba t0 g0; replace g1 := kf hba t1 g1; replace g2 := kf hba t2 g2; replace t0 := kc hba t0; replace t1 := kc hba t1; replace t2 := kc hba t2)
        | ((with_reducible refine (UY.out _).mono ?_); rintro en wa ⟨rfl, hba⟩; replace g0 := kf hba t0 g0; replace g1 := kf hba t1 g1; replace g2 := kf hba t2 g2; replace t0 := kc hba t0; replace t1 := kc hba t1; replace t2 := kc hba t2))
      all_goals
        have hBf := gB hB (by with_reducible assumption) (by omega : w.heap.size ≤ w.heap.size + 1)
        clear P0 P1 P2 UX UY
        go_wp2_with fail
        refine bodyPost_ret (v := .agg #[.int .i64 qx, .int .i64 qy, .bool p.o]) (by simp [results, Try.results49, go_sem, *]) rfl ⟨rfl, ?_⟩
        with_reducible assumption
end Go.Proofs.Ytcogoomajfahkaa.Ot
