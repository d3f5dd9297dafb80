/-
  Layer 9 (machine): the four programs of a case.
-/
import Derived.Test.YtdgagjcocohnnaaMcOa
import Derived.Test.YtdgagjcocohnnaaMcEb
namespace Go.Proofs.Ytdgagjcocohnnaa.Mc
open Go.RowKit
open Go.Proofs.Ytdgagjcocohnnaa.Ot (Pt PtAt PA PO OO OT LX pre pre_mono shP scP p0 ot_below pa_below ot_congr oo_ot mo_oo)
/-- A program at hand. -/
def Pg (w : World) (v : Value) (l : List Opn) : Prop := ∃ (a : Option Addr) (n c : Nat), v = .slice a n c ∧ l.length = n ∧ n ≤ 100 ∧ n ≤ c ∧ c ≤ 9223372036854775807 ∧ PrA w.heap.size w a l
theorem pg_up {w V : World} {v : Value} {l : List Opn} (h : Pg w v l) (hB : Below w.heap.size w V) : Pg V v l := by
  obtain ⟨a, n, c, e, h1, h2, h3, h4, h5⟩ := h
  exact ⟨a, n, c, e, h1, h2, h3, h4, pra_up h5 hB⟩
theorem pg_sl {W : World} {bb k sn sc : Nat} {sa : Option Addr} {u v : Value} {l : List Opn} (h : Pg W v l) (hc : W.cell? ⟨bb, k, none⟩ = some (.slice sa sn sc)) : Pg (W.setCell ⟨bb, k, none⟩ u) v l := by
  obtain ⟨a, n, c, e, h1, h2, h3, h4, h5⟩ := h
  refine ⟨a, n, c, e, h1, h2, h3, h4, fun i p hp => ?_⟩
  obtain ⟨b, o, e, hb, k0, k1, k2⟩ := h5 i p hp
  have key : ∀ (o : Nat) (q : Int), W.cell? ⟨b, o, none⟩ = some (.int .i64 q) → (W.setCell ⟨bb, k, none⟩ u).cell? ⟨b, o, none⟩ = some (.int .i64 q) := fun o q hq => by
    rw [World.cell?_setCell_other]
    · exact hq
    · intro e
      rw [← e, hc] at hq
      cases hq
  exact ⟨b, o, e, by rw [World.size_setCell]; exact hb, key _ _ k0, key _ _ k1, key _ _ k2⟩
def PgP (w : World) (e : Ending) (w' : World) : Prop := ∃ (v0 v1 v2 v3 : Value) (l0 l1 l2 l3 : List Opn), e = .returned (.agg #[v0, v1, v2, v3]) ∧ Pg w' v0 l0 ∧ Pg w' v1 l1 ∧ Pg w' v2 l2 ∧ Pg w' v3 l3 ∧ Below w.heap.size w w'
set_option maxRecDepth 100000 in
set_option maxHeartbeats 16000000 in
theorem programs_any (la : Option Addr) (lN lc : Nat) (L : Nat → Nat) (l : Nat → Nat → Int) (pa : Option Addr) (pn pc : Nat) (p : Nat → Int) (x y z : Int) (hpc : pn ≤ 9223372036854775807) (hx : Ax.R64 x) (hy : Ax.R64 y) (hz : Ax.R64 z) (ra : Option Addr) (rn rc : Nat) (lr : List Opn) (hrl : lr.length = rn) (hrc : rn ≤ rc ∧ rc ≤ 9223372036854775807) (w : World) (hL : LX w la lN L l) (hP : Ax.LA w pa pn p) (hR : ∀ i, i < pn → Ax.R64 (p i)) (hr : PrA w.heap.size w ra lr) :
    Calls Try.prog 11 #[.agg #[.slice la lN lc, .slice pa pn pc, .int .i64 x, .int .i64 y, .int .i64 z], .slice ra rn rc] w (PgP w) := by
  have HL := Lib.hid hL
  have HP := Lib.hid hP
  have HR := Lib.hid hR
  have HRr := Lib.hid hr
  have HX := Lib.hid (And.intro hx (And.intro hy hz))
  have hrc1 := hrc.1
  have hrc2 := hrc.2
  clear hL hP hR hr hx hy hz hrc
  have hB0 : Below w.heap.size w ((w.alloc (.cells #[.slice la lN lc, .slice pa pn pc, .int .i64 x, .int .i64 y, .int .i64 z] 26)).alloc (.cells #[.slice none 0 0, .slice none 0 0, .slice none 0 0, .slice none 0 0] 33)) := ba (ba (Below.refl _ _) _) _
  have c0 : ((w.alloc (.cells #[.slice la lN lc, .slice pa pn pc, .int .i64 x, .int .i64 y, .int .i64 z] 26)).alloc (.cells #[.slice none 0 0, .slice none 0 0, .slice none 0 0, .slice none 0 0] 33)).cell? ⟨w.heap.size, 0, none⟩ = some (.slice la lN lc) := by go_cell
  have c1 : ((w.alloc (.cells #[.slice la lN lc, .slice pa pn pc, .int .i64 x, .int .i64 y, .int .i64 z] 26)).alloc (.cells #[.slice none 0 0, .slice none 0 0, .slice none 0 0, .slice none 0 0] 33)).cell? ⟨w.heap.size, 1, none⟩ = some (.slice pa pn pc) := by go_cell
  have c2 : ((w.alloc (.cells #[.slice la lN lc, .slice pa pn pc, .int .i64 x, .int .i64 y, .int .i64 z] 26)).alloc (.cells #[.slice none 0 0, .slice none 0 0, .slice none 0 0, .slice none 0 0] 33)).cell? ⟨w.heap.size, 2, none⟩ = some (.int .i64 x) := by go_cell
  have c3 : ((w.alloc (.cells #[.slice la lN lc, .slice pa pn pc, .int .i64 x, .int .i64 y, .int .i64 z] 26)).alloc (.cells #[.slice none 0 0, .slice none 0 0, .slice none 0 0, .slice none 0 0] 33)).cell? ⟨w.heap.size, 3, none⟩ = some (.int .i64 y) := by go_cell
  have c4 : ((w.alloc (.cells #[.slice la lN lc, .slice pa pn pc, .int .i64 x, .int .i64 y, .int .i64 z] 26)).alloc (.cells #[.slice none 0 0, .slice none 0 0, .slice none 0 0, .slice none 0 0] 33)).cell? ⟨w.heap.size, 4, none⟩ = some (.int .i64 z) := by go_cell
  have d0 : ((w.alloc (.cells #[.slice la lN lc, .slice pa pn pc, .int .i64 x, .int .i64 y, .int .i64 z] 26)).alloc (.cells #[.slice none 0 0, .slice none 0 0, .slice none 0 0, .slice none 0 0] 33)).cell? ⟨w.heap.size + 1, 0, none⟩ = some (.slice none 0 0) := by go_cell
  have g0 : ((w.alloc (.cells #[.slice la lN lc, .slice pa pn pc, .int .i64 x, .int .i64 y, .int .i64 z] 26)).alloc (.cells #[.slice none 0 0, .slice none 0 0, .slice none 0 0, .slice none 0 0] 33)).frozen? ⟨w.heap.size + 1, 0, none⟩ = false := by go_cell
  have d1 : ((w.alloc (.cells #[.slice la lN lc, .slice pa pn pc, .int .i64 x, .int .i64 y, .int .i64 z] 26)).alloc (.cells #[.slice none 0 0, .slice none 0 0, .slice none 0 0, .slice none 0 0] 33)).cell? ⟨w.heap.size + 1, 1, none⟩ = some (.slice none 0 0) := by go_cell
  have g1 : ((w.alloc (.cells #[.slice la lN lc, .slice pa pn pc, .int .i64 x, .int .i64 y, .int .i64 z] 26)).alloc (.cells #[.slice none 0 0, .slice none 0 0, .slice none 0 0, .slice none 0 0] 33)).frozen? ⟨w.heap.size + 1, 1, none⟩ = false := by go_cell
  have d2 : ((w.alloc (.cells #[.slice la lN lc, .slice pa pn pc, .int .i64 x, .int .i64 y, .int .i64 z] 26)).alloc (.cells #[.slice none 0 0, .slice none 0 0, .slice none 0 0, .slice none 0 0] 33)).cell? ⟨w.heap.size + 1, 2, none⟩ = some (.slice none 0 0) := by go_cell
  have g2 : ((w.alloc (.cells #[.slice la lN lc, .slice pa pn pc, .int .i64 x, .int .i64 y, .int .i64 z] 26)).alloc (.cells #[.slice none 0 0, .slice none 0 0, .slice none 0 0, .slice none 0 0] 33)).frozen? ⟨w.heap.size + 1, 2, none⟩ = false := by go_cell
  have d3 : ((w.alloc (.cells #[.slice la lN lc, .slice pa pn pc, .int .i64 x, .int .i64 y, .int .i64 z] 26)).alloc (.cells #[.slice none 0 0, .slice none 0 0, .slice none 0 0, .slice none 0 0] 33)).cell? ⟨w.heap.size + 1, 3, none⟩ = some (.slice none 0 0) := by go_cell
  have g3 : ((w.alloc (.cells #[.slice la lN lc, .slice pa pn pc, .int .i64 x, .int .i64 y, .int .i64 z] 26)).alloc (.cells #[.slice none 0 0, .slice none 0 0, .slice none 0 0, .slice none 0 0] 33)).frozen? ⟨w.heap.size + 1, 3, none⟩ = false := by go_cell
  have HL0 := Lib.hid (Go.Proofs.Ytdgagjcocohnnaa.Ot.lx_below HL.out hB0)
  have HP0 := Lib.hid (Ax.la_below HP.out hB0)
  have HR0 := Lib.hid (pra_up HRr.out hB0)
  go_enter Try.func11, Try.ntmps11
  go_upto_region 1 with (fail)
  generalize ((w.alloc (.cells #[.slice la lN lc, .slice pa pn pc, .int .i64 x, .int .i64 y, .int .i64 z] 26)).alloc (.cells #[.slice none 0 0, .slice none 0 0, .slice none 0 0, .slice none 0 0] 33)) = V0 at *
  obtain ⟨B, hBw⟩ : ∃ B, w.heap.size = B := ⟨_, rfl⟩
  rw [hBw] at c0 c1 c2 c3 c4 d0 d1 d2 d3 g0 g1 g2 g3 ⊢
  have HBw := Lib.hid hBw
  clear hBw HL HP HRr
  go_wp2_with fail
  refine (made_any la lN lc L l pa pn pc p x y z hpc V0 HL0.out HP0.out HR.out).mono ?_
  rintro e V1 ⟨a, N, c, ns, g, pv, out, rfl, hN, hns, hpr, hA, hb, hown, hmp, h1⟩
  obtain ⟨qa, qc, rfl, q1, q2, hPr⟩ := own_pra rfl hown
  obtain ⟨n1, hn1⟩ : ∃ n, out.length = n := ⟨_, rfl⟩
  have hl1 := made_len hmp
  rw [hn1] at q1 hl1 ⊢
  have Hn1 := Lib.hid hn1
  have hB := bt hB0 h1
  have HR1 := Lib.hid (pra_up HR0.out h1)
  replace c2 := kc h1 c2
  replace c3 := kc h1 c3
  replace c4 := kc h1 c4
  replace g0 := kf h1 d0 g0
  replace d0 := kc h1 d0
  replace g1 := kf h1 d1 g1
  replace d1 := kc h1 d1
  replace g2 := kf h1 d2 g2
  replace d2 := kc h1 d2
  replace g3 := kf h1 d3 g3
  replace d3 := kc h1 d3
  have HPr := Lib.hid hPr
  clear hown h1 HL0 HP0 HR0 hns hb hmp hn1 hA hPr c0 c1 hN hpr hB0
  obtain ⟨m, hm⟩ : ∃ m, min rn 40 = m := ⟨_, rfl⟩
  have hm40 : m ≤ 40 := by omega
  have hmr : m ≤ rc := by omega
  have hmi : min (rn : Int) 40 = (m : Int) := by omega
  have hlt : Hid ((lr.take m).length = m) := Lib.hid (by rw [List.length_take, hrl]; omega)
  have HRt := Lib.hid (pra_take HR1.out m)
  have hm0 : (0 : Int) ≤ (m : Int) := by omega
  have hm1 : (m : Int) ≤ (rc : Int) := by omega
  have OD := Lib.hid (odd_any qa n1 qc out x y z Hn1.out (by omega) HX.out.1 HX.out.2.1 HX.out.2.2 V1 HPr.out)
  go_upto_region 3 with (fail)
  go_wp2_with fail
  refine OD.out.mono ?_
  rintro e V2 ⟨oa, on, oc, ol, rfl, ho1, ho2, ho3, ho4, hO, h2⟩
  replace hB := bt hB h2
  have HR2 := Lib.hid (pra_up HRt.out h2)
  have HP2 := Lib.hid (pra_up HPr.out h2)
  have HO2 := Lib.hid hO
  have HO1 := Lib.hid ho1
  replace g0 := kf h2 d0 g0
  replace d0 := kc h2 d0
  replace g1 := kf h2 d1 g1
  replace d1 := kc h2 d1
  replace g2 := kf h2 d2 g2
  replace d2 := kc h2 d2
  replace g3 := kf h2 d3 g3
  replace d3 := kc h2 d3
  have HE := Lib.hid (own_e V2 (Nat.le_refl V2.heap.size))
  have b3 : Below V2.heap.size V2 (V2.alloc (.cells #[] 45)) := ba (Below.refl _ _) _
  have HP3 := Lib.hid (pra_up HP2.out b3)
  have HB3 := Lib.hid b3
  have hs3 := Lib.hid b3.size
  have HD := Lib.hid (fun W (h : Below V2.heap.size V2 W) => (⟨kc h d0, kf h d0 g0, kc h d1, kf h d1 g1, kc h d2, kf h d2 g2, kc h d3, kf h d3 g3⟩ : W.cell? ⟨B + 1, 0, none⟩ = some (.slice none 0 0) ∧ W.frozen? ⟨B + 1, 0, none⟩ = false ∧ W.cell? ⟨B + 1, 1, none⟩ = some (.slice none 0 0) ∧ W.frozen? ⟨B + 1, 1, none⟩ = false ∧ W.cell? ⟨B + 1, 2, none⟩ = some (.slice none 0 0) ∧ W.frozen? ⟨B + 1, 2, none⟩ = false ∧ W.cell? ⟨B + 1, 3, none⟩ = some (.slice none 0 0) ∧ W.frozen? ⟨B + 1, 3, none⟩ = false))
  clear h2 hO ho1 b3 d0 d1 d2 d3 g0 g1 g2 g3 c2 c3 c4 OD HR1 HRt HPr
  go_wp2_with (first
    | (at_builtin; refine wpList_ops (l := []) (l2 := out) (n := 0) (m := n1) V2.heap.size rfl _ _ rfl rfl rfl rfl Hn1.out HE.out HP3.out (by omega) (by omega) hs3.out ?_; intro v1 W1 ho1 hg1; have hw1 := gBo HB3.out hg1 (fun q e => (HE.out.lt q e).1); have hq1 := Lib.hid (pra_up HR2.out hw1); have hz1 := hw1.size; have hn3 := Lib.hid (show (([] : List Opn) ++ out).length = 0 + n1 by rw [List.nil_append, Hn1.out, Nat.zero_add]); replace ho1 := Lib.hid ho1)
    | (at_builtin; refine wpList_ops (l := [] ++ out) (l2 := lr.take m) (n := 0 + n1) (m := m) V2.heap.size rfl _ _ rfl rfl rfl hn3.out hlt.out ho1.out hq1.out (by omega) (by omega) hz1 ?_; intro v2 W2 ho2' hg2; have hw2 := gBo hw1 hg2 (fun q e => (ho1.out.lt q e).1); obtain ⟨va, vc, rfl, hv1, hv2, hPv⟩ := own_pra (n := 0 + n1 + m) (show (([] : List Opn) ++ out ++ lr.take m).length = 0 + n1 + m by rw [List.length_append, hn3.out, hlt.out]) ho2'; obtain ⟨d0, g0, d1, g1, d2, g2, d3, g3⟩ := HD.out W2 hw2; clear ho2' hg2))
  have LF : ∀ v l, Pg W2 v l → Pg ((((W2.setCell ⟨B + 1, 0, none⟩ (.slice qa n1 qc)).setCell ⟨B + 1, 1, none⟩ (.slice oa on oc)).setCell ⟨B + 1, 2, none⟩ (.slice ra m rc)).setCell ⟨B + 1, 3, none⟩ (.slice va (n1 + m) vc)) v l := fun v l h => pg_sl (pg_sl (pg_sl (pg_sl h d0) (by rw [set_at 1 (by omega)]; exact d1)) (by rw [set_at 2 (by omega), set_at 2 (by omega)]; exact d2)) (by rw [set_at 3 (by omega), set_at 3 (by omega), set_at 3 (by omega)]; exact d3)
  have P0 := LF _ _ (show Pg W2 (.slice qa n1 qc) out from ⟨qa, n1, qc, rfl, Hn1.out, by omega, q1, q2, pra_up HP2.out hw2⟩)
  have P1 := LF _ _ (show Pg W2 (.slice oa on oc) ol from ⟨oa, on, oc, rfl, HO1.out, by omega, ho3, ho4, pra_up HO2.out hw2⟩)
  have P2 := LF _ _ (show Pg W2 (.slice ra m rc) (lr.take m) from ⟨ra, m, rc, rfl, hlt.out, by omega, by omega, by omega, pra_up HR2.out hw2⟩)
  have P3 := LF _ _ (show Pg W2 (.slice va (n1 + m) vc) ([] ++ out ++ lr.take m) from ⟨va, n1 + m, vc, rfl, by rw [List.length_append, hn3.out, hlt.out]; omega, by omega, by omega, by omega, hPv⟩)
  have hBB : w.heap.size ≤ B + 1 := by have := HBw.out; omega
  have hBX : Below w.heap.size w ((((W2.setCell ⟨B + 1, 0, none⟩ (.slice qa n1 qc)).setCell ⟨B + 1, 1, none⟩ (.slice oa on oc)).setCell ⟨B + 1, 2, none⟩ (.slice ra m rc)).setCell ⟨B + 1, 3, none⟩ (.slice va (n1 + m) vc)) := bs (bs (bs (bs (bt hB hw2) hBB _) hBB _) hBB _) hBB _
  have z0 : ((((W2.setCell ⟨B + 1, 0, none⟩ (.slice qa n1 qc)).setCell ⟨B + 1, 1, none⟩ (.slice oa on oc)).setCell ⟨B + 1, 2, none⟩ (.slice ra m rc)).setCell ⟨B + 1, 3, none⟩ (.slice va (n1 + m) vc)).cell? ⟨B + 1, 0, none⟩ = some (.slice qa n1 qc) := by go_cell
  have z1 : ((((W2.setCell ⟨B + 1, 0, none⟩ (.slice qa n1 qc)).setCell ⟨B + 1, 1, none⟩ (.slice oa on oc)).setCell ⟨B + 1, 2, none⟩ (.slice ra m rc)).setCell ⟨B + 1, 3, none⟩ (.slice va (n1 + m) vc)).cell? ⟨B + 1, 1, none⟩ = some (.slice oa on oc) := by go_cell
  have z2 : ((((W2.setCell ⟨B + 1, 0, none⟩ (.slice qa n1 qc)).setCell ⟨B + 1, 1, none⟩ (.slice oa on oc)).setCell ⟨B + 1, 2, none⟩ (.slice ra m rc)).setCell ⟨B + 1, 3, none⟩ (.slice va (n1 + m) vc)).cell? ⟨B + 1, 2, none⟩ = some (.slice ra m rc) := by go_cell
  have z3 : ((((W2.setCell ⟨B + 1, 0, none⟩ (.slice qa n1 qc)).setCell ⟨B + 1, 1, none⟩ (.slice oa on oc)).setCell ⟨B + 1, 2, none⟩ (.slice ra m rc)).setCell ⟨B + 1, 3, none⟩ (.slice va (n1 + m) vc)).cell? ⟨B + 1, 3, none⟩ = some (.slice va (n1 + m) vc) := by go_cell
  clear LF d0 d1 d2 d3 g0 g1 g2 g3
  generalize ((((W2.setCell ⟨B + 1, 0, none⟩ (.slice qa n1 qc)).setCell ⟨B + 1, 1, none⟩ (.slice oa on oc)).setCell ⟨B + 1, 2, none⟩ (.slice ra m rc)).setCell ⟨B + 1, 3, none⟩ (.slice va (n1 + m) vc)) = X at *
  refine bodyPost_ret (v := .agg #[.slice qa n1 qc, .slice oa on oc, .slice ra m rc, .slice va (n1 + m) vc]) (by simp [results, Try.results11, go_sem, z0, z1, z2, z3]) rfl ?_
  exact ⟨_, _, _, _, _, _, _, _, rfl, P0, P1, P2, P3, hBX⟩
end Go.Proofs.Ytdgagjcocohnnaa.Mc
