/-
  Layer 7 (raster): the chapter's examples, walked.
-/
import Derived.Test.YtjeiapgniflnaaaRsPb
namespace Go.Proofs.Ytjeiapgniflnaaa.Rs
open Go.RowKit
open Go.Proofs.Ytjeiapgniflnaaa.Ot
open Go.Proofs.Ytjeiapgniflnaaa.Bm (tx DA)
set_option maxRecDepth 100000 in
set_option maxHeartbeats 16000000 in
theorem sanity_any (w : World) :
    Calls Try.prog 8 #[] w fun e w' => e = .returned (.bool true) ∧ Below w.heap.size w w' := by
  obtain ⟨i0, li1, li2, li3, li4⟩ := info_parts infoS
  go_enter Try.func8, Try.ntmps8
  go_upto_region 3 with (first
    | ((with_reducible refine (poly_sq _ _ _ rfl).mono ?_); rintro e Va ⟨sa, sc, rfl, h1, h2, h3, hBa⟩; have HS := sq_new 49 h1 h2 h3; have hlS := pa_lt h3 (by omega); clear h1 h2 h3)
    | ((with_reducible refine (poly_bk _ _ _ (World.size_alloc _ _)).mono ?_); rintro e Vb ⟨ba', bc, rfl, h1, h2, h3, hBb⟩; have HK := sq_new 49 h1 h2 h3; have hlB := pa_lt h3 (by omega); clear h1 h2 h3))
  have hA1 : Below Va.heap.size Va (Va.alloc (.cells #[.slice sa 4 sc] 49)) := ba (Below.refl _ _) _
  have hA2 : Below Vb.heap.size Vb (Vb.alloc (.cells #[.slice ba' 4 bc] 49)) := ba (Below.refl _ _) _
  have HS2 := (HS.below hBb).below hA2
  have hBw := bt (bt (bt hBa hA1) hBb) hA2
  have hown := own_lit Vb (.slice ba' 4 bc) 49 (bt (bt hBa hA1) hBb).size
  have hsz : Va.heap.size < Vb.heap.size := by
    have := hBb.size
    rw [World.size_alloc] at this
    omega
  clear HS hBa hBb hA1 hA2
  generalize (Vb.alloc (.cells #[.slice ba' 4 bc] 49)) = V0 at *
  generalize Vb.heap.size = Sb at *
  generalize Va.heap.size = Ss at *
  have hb : Below V0.heap.size V0 V0 := Below.refl _ _
  have W1 := Lib.hid (fun V (h : Below V0.heap.size V0 V) => W_sq (HS2.below h) 4 4 (-1) x1.1)
  have W2 := Lib.hid (fun V (h : Below V0.heap.size V0 V) => W_sq (HS2.below h) 0 4 0 x1.2.1)
  have W3 := Lib.hid (fun V (h : Below V0.heap.size V0 V) => W_sq (HS2.below h) 8 4 (-1) x1.2.2.1)
  have W4 := Lib.hid (fun V (h : Below V0.heap.size V0 V) => W_sq (HS2.below h) 4 0 (-1) x1.2.2.2.1)
  have W5 := Lib.hid (fun V (h : Below V0.heap.size V0 V) => W_sq (HS2.below h) 4 8 0 x1.2.2.2.2)
  have W6 := Lib.hid (fun V (h : Below V0.heap.size V0 V) => W_sq (HK.below h) 4 4 1 x2.1)
  have hBw0 := Lib.hid hBw
  clear hBw
  go_upto_region 4 with (first
    | ((with_reducible refine (W1.out _ hb).mono ?_); rintro e Vn ⟨rfl, hbn⟩; replace hb := bt hb hbn; clear hbn)
    | ((with_reducible refine (W2.out _ hb).mono ?_); rintro e Vn ⟨rfl, hbn⟩; replace hb := bt hb hbn; clear hbn)
    | ((with_reducible refine (W3.out _ hb).mono ?_); rintro e Vn ⟨rfl, hbn⟩; replace hb := bt hb hbn; clear hbn)
    | ((with_reducible refine (W4.out _ hb).mono ?_); rintro e Vn ⟨rfl, hbn⟩; replace hb := bt hb hbn; clear hbn)
    | ((with_reducible refine (W5.out _ hb).mono ?_); rintro e Vn ⟨rfl, hbn⟩; replace hb := bt hb hbn; clear hbn))
  have hne : Sb ≠ Ss := by omega
  have hneS : ∀ b o, sa = some ⟨b, o, none⟩ → Sb ≠ b := fun b o e => by have := hlS b o e; omega
  have hneB : ∀ b o, ba' = some ⟨b, o, none⟩ → Sb ≠ b := fun b o e => by have := hlB b o e; omega
  have hwS : w.heap.size ≤ Sb := (hown.lt Sb rfl).1
  go_upto_region 5 with (first
    | ((with_reducible refine (W6.out _ hb).mono ?_); rintro e Vm ⟨rfl, hbn⟩; replace hb := bt hb hbn; clear hbn
       obtain ⟨g9, cap9, w9, hrun, hown9, hgrow9, hat9, hlt9⟩ := run_append_lies (P := Try.prog) (w := Vm) 23 23 w.heap.size 49 i0 _ 1 24 Try.underlying23 li1 li2 li3 li4 rfl (by decide) _ 1 _ (own_keep hown hb) ⟨Ss, 0, none⟩ 1 1 [.slice sa 4 sc] rfl (news_cell (HS2.below hb).c0) (by intro u hu; simp at hu; subst hu; rfl) (Nat.succ_pos 0) (by unfold maxLen; omega) (by omega) (bt hBw0.out hb).size _ rfl
       simp [go_sem] at hrun
       have W7 := Lib.hid (W_two (c := cap9) (ot_two (V := w9) (S := g9) (by rw [hown9.cellAt 0 (by omega)]; rfl) (by rw [hown9.cellAt 1 (by omega)]; rfl) HK.h1 HS2.h1 HK.h2 HS2.h2 (pa_grown (pa_below HK.p hb) hgrow9 (fun b o e hq => hneB b o e (by simpa [Value.ownBlock] using hq))) (pa_grown (pa_below HS2.p hb) hgrow9 (fun b o e hq => hneS b o e (by simpa [Value.ownBlock] using hq)))))
       have HS9 := (HS2.below hb).grown hgrow9 hne hneS
       have hBw9 := gBo (bt hBw0.out hb) hgrow9 (fun k hk => by simp [Value.ownBlock] at hk; omega)
       have hb9 : Below w9.heap.size w9 w9 := Below.refl _ _
       have W8 := Lib.hid (fun V (h : Below w9.heap.size w9 V) => W_sq (HS9.below h) 4 1073741825 0 x2.2.2)
       clear hown9 hgrow9 hat9 hlt9)
    | ((with_reducible refine (W7.out).mono ?_); rintro e Vm ⟨rfl, hbn⟩; replace hb9 := bt hb9 hbn; clear hbn)
    | ((with_reducible refine (W8.out _ hb9).mono ?_); rintro e Vm ⟨rfl, hbn⟩; replace hb9 := bt hb9 hbn; clear hbn))
  clear hrun W1 W2 W3 W4 W5 W6 W7 W8 hown HK HS2 hb hBw0
  have C1 := Lib.hid (fun V (h : Below w9.heap.size w9 V) => C_sq (HS9.below h) 8 0 0 4 x3.1)
  have C2 := Lib.hid (fun V (h : Below w9.heap.size w9 V) => C_sq (HS9.below h) 8 1 0 0 x3.2.1)
  have C3 := Lib.hid (fun V (h : Below w9.heap.size w9 V) => C_sq (HS9.below h) 16 0 0 1 x3.2.2.1)
  have C4 := Lib.hid (fun V (h : Below w9.heap.size w9 V) => C_sq (HS9.below h) 6 0 0 0 x3.2.2.2)
  go_upto_region 6 with (first
    | ((with_reducible refine (C1.out _ hb9).mono ?_); rintro e Vm ⟨rfl, hbn⟩; replace hb9 := bt hb9 hbn; clear hbn)
    | ((with_reducible refine (C2.out _ hb9).mono ?_); rintro e Vm ⟨rfl, hbn⟩; replace hb9 := bt hb9 hbn; clear hbn)
    | ((with_reducible refine (C3.out _ hb9).mono ?_); rintro e Vm ⟨rfl, hbn⟩; replace hb9 := bt hb9 hbn; clear hbn)
    | ((with_reducible refine (C4.out _ hb9).mono ?_); rintro e Vm ⟨rfl, hbn⟩; replace hb9 := bt hb9 hbn; clear hbn))
  clear C1 C2 C3 C4
  have D4 := Lib.hid (fun V (h : Below w9.heap.size w9 V) => D_4 (HS9.below h))
  have D16 := Lib.hid (fun V (h : Below w9.heap.size w9 V) => D_16 (HS9.below h))
  go_upto_region 7 with (with_reducible refine (D4.out _ hb9).mono ?_; rintro e Vd ⟨s6, rfl, hD6, hbn⟩; replace hb9 := bt hb9 hbn; clear hbn)
  have A6 : Below Vd.heap.size Vd (Vd.alloc (pcO 0 0 3 3 s6 9)) := ba (Below.refl _ _) _
  have P6 := pc_new Vd 0 0 3 3 s6 9
  replace hD6 := Bm.da_below hD6 A6
  replace hb9 := bt hb9 A6
  unfold pcO at A6 P6 hD6 hb9
  generalize (Vd.alloc (.cells #[.int .i64 0, .int .i64 0, .int .i64 3, .int .i64 3, .slice s6 9 9] 40)) = V6 at *
  generalize Vd.heap.size = B6 at *
  clear A6
  go_upto_region 8 with (with_reducible refine (D16.out _ hb9).mono ?_; rintro e Ve ⟨s8, rfl, hD8, hbn⟩; replace hD6 := Bm.da_below hD6 hbn; replace P6 := pc_below P6 hbn; replace hb9 := bt hb9 hbn; clear hbn)
  have A8 : Below Ve.heap.size Ve (Ve.alloc (pcO 0 0 1 1 s8 1)) := ba (Below.refl _ _) _
  have P8 := pc_new Ve 0 0 1 1 s8 1
  replace hD8 := Bm.da_below hD8 A8
  replace hD6 := Bm.da_below hD6 A8
  replace P6 := pc_below P6 A8
  replace hb9 := bt hb9 A8
  unfold pcO at A8 P8 hD8 hD6 P6 hb9
  generalize (Ve.alloc (.cells #[.int .i64 0, .int .i64 0, .int .i64 1, .int .i64 1, .slice s8 1 1] 40)) = V8 at *
  generalize Ve.heap.size = B8 at *
  clear A8
  clear D4 D16
  have hbw := Lib.hid (bt hBw9 hb9)
  clear hb9 HS9 hBw9
  go_upto_region 9 with (first
    | ((with_reducible refine (poly_tr _ _ _ rfl).mono ?_); rintro e Vt ⟨ta, tc, rfl, h1, h2, h3, hbn⟩
       have HT := sq_new 49 h1 h2 h3
       have hAt := bt hbn (ba (Below.refl _ Vt) (.cells #[.slice ta 3 tc] 49))
       clear h1 h2 h3 hbn)
    | ((with_reducible refine (D_tr HT).mono ?_); rintro e Vg ⟨s10, rfl, hD10, hbn⟩
       replace hbn := bt hAt hbn
       have hD6b := Bm.da_below hD6 hbn
       have P6b := pc_below P6 hbn
       have hD8b := Bm.da_below hD8 hbn
       have P8b := pc_below P8 hbn
       have hbx := bt hbw.out hbn
       clear hbn hAt HT))
  have A10 : Below Vg.heap.size Vg (Vg.alloc (pcO 0 0 3 3 s10 9)) := ba (Below.refl _ _) _
  have P10 := pc_new Vg 0 0 3 3 s10 9
  replace hD10 := Bm.da_below hD10 A10
  replace hD8 := Bm.da_below hD8b A10
  replace hD6 := Bm.da_below hD6b A10
  replace P6 := pc_below P6b A10
  replace P8 := pc_below P8b A10
  replace hbw := bt hbx A10
  clear hbx hD8b hD6b P6b P8b
  unfold pcO at A10 P10 hD10 hD8 hD6 P6 P8 hbw
  generalize (Vg.alloc (.cells #[.int .i64 0, .int .i64 0, .int .i64 3, .int .i64 3, .slice s10 9 9] 40)) = V10 at *
  generalize Vg.heap.size = B10 at *
  clear A10
  go_upto_region 10 with (with_reducible refine (D_nil _).mono ?_; rintro e Vh ⟨s12, rfl, hbn⟩; have hD10b := Bm.da_below hD10 hbn; have hD6b := Bm.da_below hD6 hbn; have P6b := pc_below P6 hbn; have hD8b := Bm.da_below hD8 hbn; have P8b := pc_below P8 hbn; have P10b := pc_below P10 hbn; have hbx := bt hbw hbn; clear hbn)
  have A12 : Below Vh.heap.size Vh (Vh.alloc (pcO 0 0 0 0 s12 0)) := ba (Below.refl _ _) _
  have P12 := pc_new Vh 0 0 0 0 s12 0
  replace hD10 := Bm.da_below hD10b A12
  replace hD8 := Bm.da_below hD8b A12
  replace hD6 := Bm.da_below hD6b A12
  replace P6 := pc_below P6b A12
  replace P8 := pc_below P8b A12
  replace P10 := pc_below P10b A12
  replace hbw := bt hbx A12
  clear hbx hD8b hD6b P6b P8b P10b hD10b
  unfold pcO at A12 P12 hD10 hD8 hD6 P6 P8 P10 hbw
  generalize (Vh.alloc (.cells #[.int .i64 0, .int .i64 0, .int .i64 0, .int .i64 0, .slice s12 0 0] 40)) = V12 at *
  generalize Vh.heap.size = B12 at *
  clear A12
  go_upto_region 11 with (with_reducible refine (D_bad _).mono ?_; rintro e Vi ⟨rfl, hbn⟩; have hD10b := Bm.da_below hD10 hbn; have hD6b := Bm.da_below hD6 hbn; have P6b := pc_below P6 hbn; have hD8b := Bm.da_below hD8 hbn; have P8b := pc_below P8 hbn; have P10b := pc_below P10 hbn; have P12b := pc_below P12 hbn; have hbx := bt hbw hbn; clear hbn)
  have A14 : Below Vi.heap.size Vi (Vi.alloc (pcO 0 0 0 0 none 0)) := ba (Below.refl _ _) _
  replace hD10 := Bm.da_below hD10b A14
  replace hD8 := Bm.da_below hD8b A14
  replace hD6 := Bm.da_below hD6b A14
  replace P6 := pc_below P6b A14
  replace P8 := pc_below P8b A14
  replace P10 := pc_below P10b A14
  replace P12 := pc_below P12b A14
  replace hbw := bt hbx A14
  clear hbx hD8b hD6b P6b P8b P10b hD10b P12b
  unfold pcO at A14 hD10 hD8 hD6 P6 P8 P10 P12 hbw
  generalize (Vi.alloc (.cells #[.int .i64 0, .int .i64 0, .int .i64 0, .int .i64 0, .slice none 0 0] 40)) = V14 at *
  clear A14
  have hb : Below V14.heap.size V14 V14 := Below.refl _ _
  have TA := Lib.hid (fun V (h : Below V14.heap.size V14 V) => T_4 (Bm.da_below hD6 h))
  have TB := Lib.hid (fun V (h : Below V14.heap.size V14 V) => T_16 (Bm.da_below hD8 h))
  have TC := Lib.hid (fun V (h : Below V14.heap.size V14 V) => T_tr (Bm.da_below hD10 h))
  have K6 := Lib.hid P6
  have K8 := Lib.hid P8
  have K10 := Lib.hid P10
  have K12 := Lib.hid P12
  have HW := Lib.hid hbw
  obtain ⟨a0, a1, a2, a3, a4⟩ := P6
  clear hD6 hD8 hD10 P8 P10 P12 hbw
  go_wp2_with (first
    | ((with_reducible refine (TA.out _ hb).mono ?_); rintro e Vm ⟨rfl, hbn⟩; replace hb := bt hb hbn; obtain ⟨b0, b1, b2, b3, b4⟩ := pc_below K8.out hb; clear hbn)
    | ((with_reducible refine (TB.out _ hb).mono ?_); rintro e Vm ⟨rfl, hbn⟩; replace hb := bt hb hbn; obtain ⟨c0, c1, c2, c3, c4⟩ := pc_below K10.out hb; clear hbn)
    | ((with_reducible refine (TC.out _ hb).mono ?_); rintro e Vm ⟨rfl, hbn⟩; replace hb := bt hb hbn; obtain ⟨d0, d1, d2, d3, d4⟩ := pc_below K12.out hb; clear hbn)
    | ((with_reducible refine (S_nil _ _).mono ?_); rintro e Vm ⟨rfl, hbn⟩; replace hb := bt hb hbn; clear hbn))
  go_ret
  exact ⟨rfl, bt HW.out hb⟩
end Go.Proofs.Ytjeiapgniflnaaa.Rs
