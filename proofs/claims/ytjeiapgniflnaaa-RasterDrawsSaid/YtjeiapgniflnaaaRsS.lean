/-
  Layer 7 (raster): Made of the document's own.
-/
import Derived.Test.YtjeiapgniflnaaaRsN
import Derived.Test.YtjeiapgniflnaaaAxOne
namespace Go.Proofs.Ytjeiapgniflnaaa.Rs
open Go.RowKit
open Go.Proofs.Ytjeiapgniflnaaa.Ot
open Go.Proofs.Ytjeiapgniflnaaa.Ax (LA DW MI mi_next mi_alloc mi_start mi_lt mi_app Next_w dw_below)
/-- Lists of numbers in memory. -/
def LX (w : World) (a : Option Addr) (N : Nat) (L : Nat → Nat) (l : Nat → Nat → Int) : Prop :=
  ∀ k, k < N → ∃ b off a' c', a = some ⟨b, off, none⟩ ∧ w.cell? ⟨b, off + k, none⟩ = some (.slice a' (L k) c') ∧ L k ≤ c' ∧ c' ≤ 9223372036854775807 ∧ LA w a' (L k) (l k) ∧ ∀ i, i < L k → R64 (l k i)
theorem lx_below {w W : World} {a : Option Addr} {N : Nat} {L : Nat → Nat} {l : Nat → Nat → Int} (h : LX w a N L l) (hB : Below w.heap.size w W) : LX W a N L l := fun k hk => by
  obtain ⟨b, off, a', c', e, hc, h1, h2, h3, h4⟩ := h k hk
  exact ⟨b, off, a', c', e, kc hB hc, h1, h2, Ax.la_below h3 hB, h4⟩
theorem mo_congr {w V : World} {v : Value} {k : Nat} {xs : List Value} {ns ns' B : Nat → Nat} {g g' : Nat → Nat → Pt} (h : MO w V v k xs ns B g) (e1 : ∀ j, j < k → ns j = ns' j) (e2 : ∀ j, j < k → ∀ i, i < ns j → g j i = g' j i) : MO w V v k xs ns' B g' :=
  ⟨h.ow, fun j hj => by rw [← e1 j hj]; exact h.li j hj, fun j hj => by rw [← e1 j hj]; exact po_congr (h.pt j hj) (e2 j hj), fun j hj h0 => h.far j hj (by rw [e1 j hj]; exact h0), fun j l hj hl h0 h1 => h.own j l hj hl (by rw [e1 j hj]; exact h0) (by rw [e1 l hl]; exact h1), h.be⟩
/-- What a made contour is like. -/
def okM (n : Nat) (f : Nat → Pt) : Prop := n ≤ 8 ∧ ∀ i, i < n → (f i).o = true ∧ -24 ≤ (f i).x ∧ (f i).x ≤ 55 ∧ -24 ≤ (f i).y ∧ (f i).y ≤ 55
def okPm (P : List Pt) : Prop := ∀ i, i < P.length → (P.getD i p0).o = true ∧ -24 ≤ (P.getD i p0).x ∧ (P.getD i p0).x ≤ 55 ∧ -24 ≤ (P.getD i p0).y ∧ (P.getD i p0).y ≤ 55
theorem okPm_next {P : List Pt} (h : okPm P) {q : Pt} (hq : q.o = true ∧ -24 ≤ q.x ∧ q.x ≤ 55 ∧ -24 ≤ q.y ∧ q.y ≤ 55) : okPm (P ++ [q]) := by
  intro i hi
  rw [List.length_append] at hi
  simp only [List.length_cons, List.length_nil] at hi
  by_cases e : i = P.length
  · have : (P ++ [q]).getD i p0 = q := by
      rw [List.getD_eq_getElem?_getD, List.getElem?_append_right (by omega), e, Nat.sub_self]; rfl
    rw [this]
    exact hq
  · have : (P ++ [q]).getD i p0 = P.getD i p0 := by
      rw [List.getD_eq_getElem?_getD, List.getElem?_append_left (by omega), ← List.getD_eq_getElem?_getD]
    rw [this]
    exact h i (by omega)
def MdRel (w : World) (m : Nat) (s3 s4 : Value) (V : World) : Prop := ∃ (k : Nat) (xs : List Value) (ns B : Nat → Nat) (g : Nat → Nat → Pt), s4 = .int .i64 (k : Int) ∧ k ≤ m ∧ MO w V s3 k xs ns B g ∧ ∀ j, j < k → okM (ns j) (g j)
def MjRel (V0 : World) (a : Option Addr) (L c : Nat) (l : Nat → Int) (s6 s7 : Value) (V : World) : Prop := ∃ (i : Nat) (P : List Pt), s7 = .int .i64 (i : Int) ∧ i ≤ 8 ∧ P.length = i ∧ MI V0 V 63 3 a L c l s6 i (vals P) ∧ okPm P
theorem w6 {x : Int} (h : -1000000 ≤ x ∧ x ≤ 1000000) : wrap64 x = x := w_in ⟨by omega, by omega⟩
theorem sub24 {v : Nat} (h : (v : Int) < 80) : wrap64 ((v : Int) - 24) = (v : Int) - 24 := w6 ⟨by omega, by omega⟩
theorem in55 {px py : Nat} (h1 : (px : Int) < 80) (h2 : (py : Int) < 80) : -24 ≤ (px : Int) - 24 ∧ (px : Int) - 24 ≤ 55 ∧ -24 ≤ (py : Int) - 24 ∧ (py : Int) - 24 ≤ 55 := by omega
theorem nat0 (i : Nat) : (0 : Int) ≤ (i : Int) := by omega
theorem natlt {i n : Nat} (h : i < n) : (i : Int) < (n : Int) := by omega
theorem natle {i n : Nat} (h : i ≤ n) : (i : Int) ≤ (n : Int) := by omega
theorem small1 {i : Nat} (h1 : i < 8) : i + 1 ≤ maxLen ∧ (i + 1) * 24 ≤ 140737488355328 := by unfold maxLen; omega
theorem small2 {k m N : Nat} (h : k < m) (h2 : min N 4 = m) : k + 1 ≤ maxLen ∧ (k + 1) * 24 ≤ 140737488355328 := by unfold maxLen; omega
theorem lt8 {i : Nat} (h : i < 8) : (i : Int) < 8 := by omega
theorem ltn' {i n : Nat} (h : i < n) : n - (intOf (.int .i64 ((i : Int) + 1))).toNat < n - (intOf (.int .i64 (i : Int))).toNat := by simp [intOf]; omega
theorem okM_of {P : List Pt} (h2 : P.length ≤ 8) (h : okPm P) : okM P.length (fun i => P.getD i p0) := ⟨h2, fun i hi => h i hi⟩
theorem mi_drewN {w V : World} {T : TypeId} {sz : Nat} {a : Option Addr} {L c : Nat} {l : Nat → Int} {v : Value} {k : Nat} {xs : List Value} (h : MI w V T sz a L c l v k xs) (n : Nat) : MI w (V.drewN n) T sz a L c l v k xs :=
  ⟨dw_below h.dw (bd (Below.refl _ _) n), h.ow, bd h.be n⟩
set_option maxRecDepth 100000 in
set_option maxHeartbeats 16000000 in
theorem Made_any (a : Option Addr) (N c : Nat) (L : Nat → Nat) (l : Nat → Nat → Int) (w : World) (hA : LX w a N L l) :
    Calls Try.prog 10 #[.slice a N c] w fun e w' => ∃ v xs ns B g, e = .returned v ∧ MO w w' v (min N 4) xs ns B g ∧ ∀ j, j < min N 4 → okM (ns j) (g j) := by
  have HA := Lib.hid hA
  obtain ⟨i0, ki1, ki2, ki3, ki4⟩ := info_parts infoS
  obtain ⟨i1, li1, li2, li3, li4⟩ := info_parts infoP
  have KI := Lib.hid (And.intro ki1 (And.intro ki2 (And.intro ki3 ki4)))
  have KJ := Lib.hid (And.intro li1 (And.intro li2 (And.intro li3 li4)))
  clear hA ki1 ki2 ki3 ki4 li1 li2 li3 li4
  obtain ⟨m, hm⟩ : ∃ m, min N 4 = m := ⟨_, rfl⟩
  rw [hm]
  have Hm := Lib.hid hm
  clear hm
  go_enter Try.func10, Try.ntmps10
  go_wp2_with fail
  go_loopw [3, 4] (fun s3 s4 V => MdRel w m s3 s4 V) (fun _ s4 _ => m - (intOf s4).toNat)
  case atStart => exact ⟨0, [], fun _ => 0, fun _ => 0, fun _ _ => p0, rfl, by omega, mo_nil w _ _, fun j hj => absurd hj (by omega)⟩
  case round =>
    obtain ⟨k, xs, ns, B, g, rfl, hk, hM, hok⟩ := hrel
    rename World => V
    rcases Nat.lt_or_ge k m with hkm | hkm
    · have hkN : k < N ∧ k < 4 := by
        have := Hm.out
        omega
      obtain ⟨b, off, a', c', rfl, hc, h1, h2, hp, hr⟩ := lx_below HA.out hM.be k hkN.1
      have hne : ∀ q, a' = some q → 0 < L k → q.block ≠ V.heap.size := by
        intro q hq h0
        obtain ⟨b, o, e, hc⟩ := hp 0 h0
        rw [hq] at e
        cases e
        have := block_lt_of_cell hc
        simp only at this ⊢
        omega
      have N80 := Lib.hid (fun V' (h : DW V' V.heap.size a' (L k) c' (l k)) => Next_w V.heap.size a' (L k) c' (l k) 80 ⟨by omega, by omega⟩ (by omega) hr hne V' h)
      have HP := Lib.hid hp
      have k2 : (0 : Int) ≤ (k : Int) := by omega
      have k3 : (k : Int) < (N : Int) := by omega
      have k4 : (k : Int) < 4 := by omega
      have hMI := mi_start V 63 3 a' (L k) c' (l k) hp 60
      have hVs := hM.be.size
      have HM := Lib.hid hM
      have HOK := Lib.hid hok
      have hlx := hM.ow.1
      have CK : Hid (∀ W, Below V.heap.size V W → W.cell? ⟨b, off + k, none⟩ = some (.slice a' (L k) c')) := Lib.hid (fun W h => kc h hc)
      clear hp hr hne hM hok hkN
      go_wp2_with fail
      go_loopw [6, 7] (fun s6 s7 V' => MjRel V a' (L k) c' (l k) s6 s7 V') (fun _ s7 _ => 8 - (intOf s7).toNat)
      case atStart => exact ⟨0, [], rfl, by omega, rfl, hMI, fun i hi => absurd hi (by simp)⟩
      case round =>
        clear hMI hc
        obtain ⟨i, P, rfl, hi, hPl, hMI, hP⟩ := hrel
        rename World => V2
        have hc := CK.out V2 hMI.be
        obtain ⟨⟨q, hq, d0, d1, d2⟩, hla⟩ := hMI.dw
        have q2 := nat0 q
        have i2 := nat0 i
        rcases Nat.lt_or_ge i 8 with hi8 | hi8
        · have i3 := lt8 hi8
          rcases Nat.lt_or_ge q (L k) with hqL | hqL
          · have q3 := natlt hqL
            obtain ⟨li1, li2, li3, li4⟩ := KJ.out
            have hP' := Lib.hid hP
            clear hP hla hq
            go_wp2_with fail
            go_quiet (fail)
            clear d0 d1 d2 q3
            go_wp2_with fail
            refine (N80.out _ (mi_drewN hMI _).dw).mono ?_
            rintro e V3 ⟨px, rfl, hpx, hd, hg⟩
            replace hMI := mi_next (mi_drewN hMI _) hd hg
            clear hd hg hc
            have e2 := sub24 hpx
            go_wp2_with fail
            refine (N80.out _ hMI.dw).mono ?_
            rintro e V4 ⟨py, rfl, hpy, hd, hg⟩
            replace hMI := mi_next hMI hd hg
            clear hd hg
            have e3 := sub24 hpy
            have hR : Hid (∀ (q : Pt) (v' : Value) (V' : World) (xs' : List Value), xs' = vals P ++ ptVs q → q.o = true ∧ -24 ≤ q.x ∧ q.x ≤ 55 ∧ -24 ≤ q.y ∧ q.y ≤ 55 → MI V V' 63 3 a' (L k) c' (l k) v' (i + 1) xs' → MjRel V a' (L k) c' (l k) v' (.int .i64 ((i : Int) + 1)) V') :=
              Lib.hid (fun q v' V' xs' h3 h4 h5 => ⟨i + 1, P ++ [q], rfl, hi8, by rw [List.length_append, hPl]; rfl, by rw [vals_app]; rw [h3] at h5; simpa [vals] using h5, okPm_next hP'.out h4⟩)
            obtain ⟨qo, hqo⟩ : ∃ qo : Bool, true = qo := ⟨_, rfl⟩
            have hR1 := Lib.hid (hR.out ⟨(px : Int) - 24, (py : Int) - 24, qo⟩)
            have NW := news_pt V4 ⟨(px : Int) - 24, (py : Int) - 24, qo⟩ 63
            have hM2 := mi_alloc hMI (.cells #[.int .i64 ((px : Int) - 24), .int .i64 ((py : Int) - 24), .bool qo] 63)
            have hlt := mi_lt hMI
            have hlt2 : V.heap.size + 1 ≤ (V4.alloc (.cells #[.int .i64 ((px : Int) - 24), .int .i64 ((py : Int) - 24), .bool qo] 63)).heap.size := by rw [World.size_alloc]; exact Nat.le_succ_of_le hlt
            obtain ⟨sm1, sm2⟩ := small1 hi8
            have i8 := hi8
            subst hqo
            clear hR hMI hlt e2 i3 hi8
            go_wp2_with (at_builtin; refine wpList_append_lies _ rfl _ _ 49 rfl (V.heap.size + 1) 63 i1 _ 3 24 Try.underlying49 li1 li2 li3 li4 rfl (by decide) _ i _ rfl hM2.ow ⟨V4.heap.size, 0, none⟩ 1 1 _ rfl rfl NW (by intro u hu; simp [ptVs] at hu; rcases hu with rfl | rfl | rfl <;> rfl) (Nat.succ_pos 0) sm1 sm2 hlt2 _ rfl ?_; intro g' cap' w9 hown9 hgrow9 hat9 hlt9)
            have R := Lib.hid (hR1.out _ _ _ rfl ⟨by first | rfl | trivial, in55 hpx hpy⟩ (mi_app hM2 HP.out hown9 hgrow9))
            clear hR1 hown9 hgrow9 hat9 NW hM2 sm1 sm2 e3
            go_wp2_with fail
            exact ⟨R.out, ltn' i8⟩
          · have q3 := natle hqL
            clear hla hq
            go_wp2_with fail
            go_quiet (fail)
            rename Nat => nq
            clear d0 d1 d2 hc
            replace hMI := mi_drewN hMI nq
            obtain ⟨ki1, ki2, ki3, ki4⟩ := KI.out
            have hown6 : (V2.drewN nq).ownsRow (V.heap.size + 1) 63 3 u6 P.length (vals P) := by rw [hPl]; exact hMI.ow
            obtain ⟨ap, cp, bp, rfl, q1, q2, q3, q4, q5⟩ := own_po hown6
            have hB2 := hMI.be
            have hok2 := okM_of (by omega) hP
            have hR : Hid (∀ v' V' xs' B' ns' g', MO w V' v' (k + 1) xs' ns' B' g' → (∀ j, j < k + 1 → okM (ns' j) (g' j)) → MdRel w m v' (.int .i64 ((k : Int) + 1)) V') := Lib.hid (fun v' V' xs' B' ns' g' h3 h4 => ⟨k + 1, xs', ns', B', g', rfl, hkm, h3, h4⟩)
            obtain ⟨pl, hpl⟩ : ∃ pl, P.length = pl := ⟨_, rfl⟩
            rw [hpl] at q1 q3 q4 q5 hok2
            have HM2 := Lib.hid (mo_congr (ns' := fun j => if j = k then pl else ns j) (g' := fun j => if j = k then (fun x => P.getD x p0) else g j) HM.out (fun j hj => (if_neg (Nat.ne_of_lt hj)).symm) (fun j hj x _ => by simp only [if_neg (Nat.ne_of_lt hj)]))
            have NW := news_one (V2.drewN nq) (.slice ap pl cp) 49
            have hBX := hB2
            have hlow := (mo_below HM.out (ba hBX (.cells #[.slice ap pl cp] 49))).ow
            obtain ⟨sm1, sm2⟩ := small2 hkm Hm.out
            have hsz2 : w.heap.size ≤ ((V2.drewN nq).alloc (.cells #[.slice ap pl cp] 49)).heap.size := by rw [World.size_alloc]; exact Nat.le_succ_of_le (Nat.le_trans hVs hBX.size)
            rw [hpl]
            clear hMI hown6 hP hPl hpl
            go_wp2_with (at_builtin; refine wpList_append_lies _ rfl _ _ 23 rfl w.heap.size 49 i0 _ 1 24 Try.underlying23 ki1 ki2 ki3 ki4 rfl (by decide) _ k xs rfl hlow ⟨(V2.drewN nq).heap.size, 0, none⟩ 1 1 [.slice ap pl cp] rfl rfl NW (by intro u hu; simp at hu; subst hu; rfl) (Nat.succ_pos 0) sm1 sm2 hsz2 _ rfl ?_; intro s cap W2 hown2 hg2 hat2 hlt2)
            have R := Lib.hid (hR.out _ _ _ _ _ _ (mo_app (n := pl) (b := bp) HM2.out (ba hBX _) (if_pos rfl).symm q1 q2 q4 (fun h0 => Nat.le_of_succ_le (q5 h0)) (by simp only [if_true]; exact po_below q3 (ba (Below.refl _ _) _)) hown2 hg2 hat2) (fun j hj => by
              by_cases e : j = k
              · subst e
                simp only [if_true]
                exact hok2
              · simp only [if_neg e]
                exact HOK.out j (by omega)))
            clear hown2 hg2 hat2 HM2 hR q3 q4 q5 NW hlow hok2
            go_wp2_with fail
            exact ⟨R.out, ltn' hkm⟩
        · obtain rfl : i = 8 := by omega
          go_wp2_with fail
          go_quiet (fail)
          rename Nat => nq
          clear d0 d1 d2 hc
          replace hMI := mi_drewN hMI nq
          obtain ⟨ki1, ki2, ki3, ki4⟩ := KI.out
          have hown6 : (V2.drewN nq).ownsRow (V.heap.size + 1) 63 3 u6 P.length (vals P) := by rw [hPl]; exact hMI.ow
          obtain ⟨ap, cp, bp, rfl, q1, q2, q3, q4, q5⟩ := own_po hown6
          have hB2 := hMI.be
          have hok2 := okM_of (by omega) hP
          have hR : Hid (∀ v' V' xs' B' ns' g', MO w V' v' (k + 1) xs' ns' B' g' → (∀ j, j < k + 1 → okM (ns' j) (g' j)) → MdRel w m v' (.int .i64 ((k : Int) + 1)) V') := Lib.hid (fun v' V' xs' B' ns' g' h3 h4 => ⟨k + 1, xs', ns', B', g', rfl, hkm, h3, h4⟩)
          obtain ⟨pl, hpl⟩ : ∃ pl, P.length = pl := ⟨_, rfl⟩
          rw [hpl] at q1 q3 q4 q5 hok2
          have HM2 := Lib.hid (mo_congr (ns' := fun j => if j = k then pl else ns j) (g' := fun j => if j = k then (fun x => P.getD x p0) else g j) HM.out (fun j hj => (if_neg (Nat.ne_of_lt hj)).symm) (fun j hj x _ => by simp only [if_neg (Nat.ne_of_lt hj)]))
          have NW := news_one (V2.drewN nq) (.slice ap pl cp) 49
          have hBX := hB2
          have hlow := (mo_below HM.out (ba hBX (.cells #[.slice ap pl cp] 49))).ow
          obtain ⟨sm1, sm2⟩ := small2 hkm Hm.out
          have hsz2 : w.heap.size ≤ ((V2.drewN nq).alloc (.cells #[.slice ap pl cp] 49)).heap.size := by rw [World.size_alloc]; exact Nat.le_succ_of_le (Nat.le_trans hVs hBX.size)
          rw [hpl]
          clear hMI hown6 hP hPl hpl
          go_wp2_with (at_builtin; refine wpList_append_lies _ rfl _ _ 23 rfl w.heap.size 49 i0 _ 1 24 Try.underlying23 ki1 ki2 ki3 ki4 rfl (by decide) _ k xs rfl hlow ⟨(V2.drewN nq).heap.size, 0, none⟩ 1 1 [.slice ap pl cp] rfl rfl NW (by intro u hu; simp at hu; subst hu; rfl) (Nat.succ_pos 0) sm1 sm2 hsz2 _ rfl ?_; intro s cap W2 hown2 hg2 hat2 hlt2)
          have R := Lib.hid (hR.out _ _ _ _ _ _ (mo_app (n := pl) (b := bp) HM2.out (ba hBX _) (if_pos rfl).symm q1 q2 q4 (fun h0 => Nat.le_of_succ_le (q5 h0)) (by simp only [if_true]; exact po_below q3 (ba (Below.refl _ _) _)) hown2 hg2 hat2) (fun j hj => by
            by_cases e : j = k
            · subst e
              simp only [if_true]
              exact hok2
            · simp only [if_neg e]
              exact HOK.out j (by omega)))
          clear hown2 hg2 hat2 HM2 hR q3 q4 q5 NW hlow hok2
          go_wp2_with fail
          exact ⟨R.out, ltn' hkm⟩
    · obtain rfl : k = m := by omega
      have hO := Lib.hid hM
      have hO2 := Lib.hid hok
      clear hM hok
      have hmm := Hm.out
      rcases Nat.lt_or_ge N 4 with h2 | h2
      · obtain rfl : k = N := by omega
        clear hmm
        go_wp2_with fail
        go_ret
        exact ⟨_, _, _, _, _, rfl, hO.out, hO2.out⟩
      · obtain rfl : k = 4 := by omega
        clear hmm Hm
        rcases Nat.eq_or_lt_of_le h2 with h11 | h11
        · subst h11
          go_wp2_with fail
          go_ret
          exact ⟨_, _, _, _, _, rfl, hO.out, hO2.out⟩
        · have k5 : (4 : Int) < (N : Int) := by omega
          go_wp2_with fail
          go_ret
          exact ⟨_, _, _, _, _, rfl, hO.out, hO2.out⟩
end Go.Proofs.Ytjeiapgniflnaaa.Rs
