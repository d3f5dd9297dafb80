/-
  Layer 6 (outline): a case of the law, made.
-/
import Derived.Test.YtcogoomajfahkaaOtDt
import Derived.Test.YtcogoomajfahkaaOtMv
namespace Go.Proofs.Ytcogoomajfahkaa.Ot
open Go.RowKit
open Go.Proofs.Ytcogoomajfahkaa.Ax (Tns LA mod_any infoI)
structure CaseAt (W : World) (oa : Option Addr) (oN : Nat) (ns : Nat → Nat) (g : Nat → Nat → Pt) (da : Option Addr) (dN : Nat) (d : Nat → De) (pa : Option Addr) (pn : Nat) (pl : Nat → Int) : Prop where
  o2 : oN ≤ 2
  oo : ∀ k, k < oN → okC (ns k) (g k)
  ot : OT W oa oN ns g
  d3 : dN ≤ 3
  dd : ∀ j, j < dN → okD pn (pre ns oN) (d j)
  da : DA W da dN d
  p3 : pn ≤ 3
  la : LA W pa pn pl
  pp : ∀ i, i < pn → -70 ≤ pl i ∧ pl i ≤ 70
theorem case_below {V W : World} {oa : Option Addr} {oN : Nat} {ns : Nat → Nat} {g : Nat → Nat → Pt} {da : Option Addr} {dN : Nat} {d : Nat → De} {pa : Option Addr} {pn : Nat} {pl : Nat → Int} (h : CaseAt V oa oN ns g da dN d pa pn pl) (hB : Below V.heap.size V W) : CaseAt W oa oN ns g da dN d pa pn pl :=
  ⟨h.o2, h.oo, ot_below h.ot hB, h.d3, h.dd, da_below h.da hB, h.p3, Ax.la_below h.la hB, h.pp⟩
theorem case_pre {W : World} {oa : Option Addr} {oN : Nat} {ns : Nat → Nat} {g : Nat → Nat → Pt} {da : Option Addr} {dN : Nat} {d : Nat → De} {pa : Option Addr} {pn : Nat} {pl : Nat → Int} (h : CaseAt W oa oN ns g da dN d pa pn pl) : (∀ k, k < oN → ns k ≤ 70) ∧ pre ns oN ≤ 140 := by
  have h1 : ∀ k, k < oN → ns k ≤ 70 := fun k hk => Nat.le_trans (h.oo k hk).2.1 (by omega)
  have h2 := pre_le h1
  have h3 := h.o2
  exact ⟨h1, by omega⟩
def ivals (l : List Int) : List Value := l.map fun x => .int .i64 x
theorem own_li {V : World} {n₀ : Nat} {T : TypeId} {v : Value} {l : List Int} (h : V.ownsRow n₀ T 1 v l.length (ivals l)) :
    ∃ (a : Option Addr) (c : Nat), v = .slice a l.length c ∧ l.length ≤ c ∧ c ≤ 9223372036854775807 ∧ LA V a l.length (fun i => l.getD i 0) := by
  rcases h.2 with ⟨rfl, h0⟩ | ⟨b, cap, cur, rfl, hb, hh, hkc, hcm, _⟩
  · rw [h0]
    exact ⟨none, 0, rfl, Nat.le_refl _, by omega, fun i hi => absurd hi (by omega)⟩
  · unfold maxLen at hcm
    refine ⟨some ⟨b, 0, none⟩, cap, rfl, hkc, by omega, fun i hi => ⟨b, 0, rfl, ?_⟩⟩
    rw [Nat.zero_add, h.cellAt _ (by omega)]
    unfold ivals
    rw [List.getElem?_map, List.getElem?_eq_getElem hi]
    simp [List.getD_eq_getElem?_getD, List.getElem?_eq_getElem hi]
theorem mod141 {x : Int} : 0 ≤ x % 141 ∧ x % 141 < 141 := ⟨Int.emod_nonneg _ (by omega), Int.emod_lt_of_pos _ (by omega)⟩
theorem sub70 (x : Int) : wrap64 (x % 141 - 70) = x % 141 - 70 := by
  have := mod141 (x := x)
  exact w6 ⟨by omega, by omega⟩
def CaRel (V0 : World) (m : Nat) (s6 s7 : Value) (V : World) : Prop := ∃ (k : Nat) (Q : List Int), s7 = .int .i64 (k : Int) ∧ k ≤ m ∧ Q.length = k ∧ V.ownsRow V0.heap.size 3 1 s6 k (ivals Q) ∧ (∀ i, i < k → -70 ≤ Q.getD i 0 ∧ Q.getD i 0 ≤ 70) ∧ Below V0.heap.size V0 V
theorem okI_next {Q : List Int} (h : ∀ i, i < Q.length → -70 ≤ Q.getD i 0 ∧ Q.getD i 0 ≤ 70) (x : Int) : ∀ i, i < Q.length + 1 → -70 ≤ (Q ++ [x % 141 - 70]).getD i 0 ∧ (Q ++ [x % 141 - 70]).getD i 0 ≤ 70 := fun i hi => by
  have hm := mod141 (x := x)
  rcases getD_app Q (x % 141 - 70) 0 i (by simpa using hi) with ⟨_, e⟩ | ⟨h1, e⟩
  · rw [e]; omega
  · rw [e]; exact h i h1
set_option maxRecDepth 100000 in
set_option maxHeartbeats 16000000 in
theorem made_all (oa : Option Addr) (oN oc : Nat) (oL : Nat → Nat) (ol : Nat → Nat → Int) (da : Option Addr) (dN dc : Nat) (dL : Nat → Nat) (dl : Nat → Nat → Int) (ta : Option Addr) (tn tc : Nat) (tl : Nat → Int) (hr : ∀ i, i < tn → R64 (tl i)) (w : World) (hO : LX w oa oN oL ol) (hD : LX w da dN dL dl) (hT : LA w ta tn tl) :
    Calls Try.prog 27 #[.agg #[.slice oa oN oc, .slice da dN dc, .slice ta tn tc]] w fun e w' =>
      ∃ oa oN oc ns g da dN dc d pa pn pc pl, e = .returned (.tuple #[.slice oa oN oc, .slice da dN dc, .slice pa pn pc]) ∧ CaseAt w' oa oN ns g da dN d pa pn pl ∧ (dN ≤ dc ∧ dc ≤ 9223372036854775807) ∧ Below w.heap.size w w' := by
  have HMD := Lib.hid (fun V h => Made_any oa oN oc oL ol V (lx_below hO h))
  have HD := Lib.hid hD
  have HT := Lib.hid hT
  have HR := Lib.hid hr
  obtain ⟨i0, ki1, ki2, ki3, ki4⟩ := info_parts infoI
  have KI := Lib.hid (And.intro ki1 (And.intro ki2 (And.intro ki3 ki4)))
  clear hO hD hT hr ki1 ki2 ki3 ki4
  have hb0 : Below w.heap.size w (w.alloc (.cells #[.slice oa oN oc, .slice da dN dc, .slice ta tn tc] 46)) := ba (Below.refl _ _) _
  have x1 : (w.alloc (.cells #[.slice oa oN oc, .slice da dN dc, .slice ta tn tc] 46)).cell? ⟨w.heap.size, 1, none⟩ = some (.slice da dN dc) := by go_cell
  have x2 : (w.alloc (.cells #[.slice oa oN oc, .slice da dN dc, .slice ta tn tc] 46)).cell? ⟨w.heap.size, 2, none⟩ = some (.slice ta tn tc) := by go_cell
  go_enter Try.func27, Try.ntmps27
  go_wp2_with fail
  refine (HMD.out _ hb0).mono ?_
  rintro e V0 ⟨vo, xo, ns, B, g, rfl, hM, hok⟩
  obtain ⟨oa', oc', S0, rfl, _, _, ha0, hOO, _⟩ := mo_oo hM
  have hOT := oo_ot2 hOO ha0
  have h1 := hM.be
  replace x1 := kc h1 x1
  replace x2 := kc h1 x2
  replace hb0 := bt hb0 h1
  have HOT := Lib.hid hOT
  have HOK := Lib.hid hok
  clear hM hOO ha0 hOT hok h1 HMD
  have hmo : Hid (min oN 2 ≤ 2) := Lib.hid (by omega)
  generalize min oN 2 = mo at *
  obtain ⟨m, hm⟩ : ∃ m, min tn 3 = m := ⟨_, rfl⟩
  have Hm := Lib.hid hm
  clear hm
  go_wp2_with fail
  go_loopw [6, 7] (fun s6 s7 V => CaRel V0 m s6 s7 V) (fun _ s7 _ => m - (intOf s7).toNat)
  case atStart => exact ⟨0, [], rfl, Nat.zero_le _, rfl, ⟨by simp [ivals], .inl ⟨rfl, rfl⟩⟩, fun i hi => absurd hi (Nat.not_lt_zero i), Below.refl _ _⟩
  case round =>
    obtain ⟨k, Q, rfl, hk, hQl, hown, hQ, hB⟩ := hrel
    rename World => V
    have y2 := kc hB x2
    rcases Nat.lt_or_ge k m with hkm | hkm
    · have hkn : k < tn ∧ k < 3 := by
        have := Hm.out
        omega
      obtain ⟨b, o, rfl, hc⟩ := Ax.la_below HT.out (bt hb0 hB) k hkn.1
      have MO := Lib.hid (mod_any (tl k) 141 (HR.out k hkn.1) (by omega))
      have k2 := nat0 k
      have k3 := natlt hkn.1
      have k4 : (k : Int) < 3 := natlt hkn.2
      obtain ⟨sm1, sm2⟩ := sml 8 (Nat.le_of_ble_eq_true rfl) hkn.2 (by omega)
      have hR : Hid (∀ v' V', V'.ownsRow V0.heap.size 3 1 v' (k + 1) (ivals Q ++ [.int .i64 (tl k % 141 - 70)]) → V.grownBy V' u6.ownBlock → CaRel V0 m v' (.int .i64 ((k : Int) + 1)) V') :=
        Lib.hid (fun v' V' h3 h4 => ⟨k + 1, Q ++ [tl k % 141 - 70], rfl, hkm, by rw [List.length_append, hQl]; rfl, by simpa [ivals] using h3, by rw [← hQl]; exact okI_next (by rw [hQl]; exact hQ) _, gBo hB h4 (fun q e => (hown.lt q e).1)⟩)
      have e1 := sub70 (tl k)
      obtain ⟨ki1, ki2, ki3, ki4⟩ := KI.out
      have NW := news_one V (.int .i64 (tl k % 141 - 70)) 3
      have hlow := (own_keep hown (ba (Below.refl _ V) (.cells #[.int .i64 (tl k % 141 - 70)] 3)))
      have hsz : V0.heap.size ≤ (V.alloc (.cells #[.int .i64 (tl k % 141 - 70)] 3)).heap.size := by rw [World.size_alloc]; exact Nat.le_succ_of_le hB.size
      clear hkn hQ hown
      go_wp2_with fail
      refine (MO.out _).mono ?_
      rintro e W1 ⟨rfl, rfl⟩
      go_wp2_with (at_builtin; refine wpList_append_lies _ rfl _ _ 44 rfl V0.heap.size 3 i0 _ 1 8 Try.underlying44 ki1 ki2 ki3 ki4 rfl (by decide) _ k _ rfl hlow ⟨W1.heap.size, 0, none⟩ 1 1 [.int .i64 (tl k % 141 - 70)] rfl rfl NW (by intro u hu; simp at hu; subst hu; rfl) (Nat.succ_pos 0) sm1 sm2 hsz _ rfl ?_; intro s cap W2 hown2 hg2 hat2 hlt2)
      have R := Lib.hid (hR.out _ _ hown2 (World.grownBy.trans (gaO (grO _ _) _) hg2))
      clear hown2 hg2 hat2 hR hlow NW
      go_wp2_with fail
      exact ⟨R.out, ltn hkm⟩
    · obtain rfl : k = m := by omega
      have hown3 : V.ownsRow V0.heap.size 3 1 u6 Q.length (ivals Q) := by rw [hQl]; exact hown
      obtain ⟨pa, pc, rfl, _, _, hLA⟩ := own_li hown3
      rw [hQl] at hLA ⊢
      have hk3 : k ≤ 3 := by have := Hm.out; omega
      have y1 := kc hB x1
      have HQ := Lib.hid hQ
      have HLA := Lib.hid hLA
      have hns : ∀ j, j < mo → ns j ≤ 70 := fun j hj => Nat.le_trans (HOK.out j hj).2.1 (by omega)
      have hpp : pre ns mo ≤ 1000000 := by
        have := pre_le hns
        have := hmo.out
        omega
      have DL := Lib.hid (Deltas_any oa' mo oc' ns g da dN dc dL dl k hk3 (by have := hmo.out; omega) hpp V (ot_below HOT.out hB) (lx_below HD.out (bt hb0 hB)))
      have hend := Hm.out
      clear hown hown3 hQ hLA hns hpp
      have hlast : (k : Int) < (tn : Int) → (k : Int) = 3 := by omega
      clear hend
      have hB0 := hB
      rcases Nat.lt_or_ge k tn with h1 | h1
      · obtain rfl : k = 3 := by have := hlast (natlt h1); omega
        have k5 := natlt h1
        clear hlast h1
        go_wp2_with fail
        refine DL.out.mono ?_
        rintro e W ⟨v, xs, d, Rb, Mb, rfl, hDO, hokd⟩
        obtain ⟨da', dc', rfl, hdc1, hdc2, hDA⟩ := do_da hDO
        have HDC := Lib.hid (And.intro hdc1 hdc2)
        clear hdc1 hdc2
        have hBW := hDO.be
        have hCA : CaseAt W oa' mo ns g da' (min dN 3) d pa 3 (fun i => Q.getD i 0) := ⟨hmo.out, HOK.out, ot_below HOT.out (bt hB hBW), by omega, hokd, hDA, (Nat.le_refl _), Ax.la_below HLA.out hBW, HQ.out⟩
        clear hDO DL hDA hokd
        go_wp2_with fail
        go_ret3
        exact ⟨_, _, _, _, _, _, _, _, _, _, _, _, _, rfl, hCA, HDC.out, bt hb0 (bt hB hBW)⟩
      · have k5 : ¬ (k : Int) < (tn : Int) := by omega
        have k6 : decide ((k : Int) < (tn : Int)) = false := decide_eq_false k5
        clear hlast h1
        go_wp2_with fail
        refine DL.out.mono ?_
        rintro e W ⟨v, xs, d, Rb, Mb, rfl, hDO, hokd⟩
        obtain ⟨da', dc', rfl, hdc1, hdc2, hDA⟩ := do_da hDO
        have HDC := Lib.hid (And.intro hdc1 hdc2)
        clear hdc1 hdc2
        have hBW := hDO.be
        have hCA : CaseAt W oa' mo ns g da' (min dN 3) d pa k (fun i => Q.getD i 0) := ⟨hmo.out, HOK.out, ot_below HOT.out (bt hB hBW), by omega, hokd, hDA, hk3, Ax.la_below HLA.out hBW, HQ.out⟩
        clear hDO DL hDA hokd
        go_wp2_with fail
        go_ret3
        exact ⟨_, _, _, _, _, _, _, _, _, _, _, _, _, rfl, hCA, HDC.out, bt hb0 (bt hB hBW)⟩
theorem made_any (oa : Option Addr) (oN oc : Nat) (oL : Nat → Nat) (ol : Nat → Nat → Int) (da : Option Addr) (dN dc : Nat) (dL : Nat → Nat) (dl : Nat → Nat → Int) (ta : Option Addr) (tn tc : Nat) (tl : Nat → Int) (hr : ∀ i, i < tn → R64 (tl i)) (w : World) (hO : LX w oa oN oL ol) (hD : LX w da dN dL dl) (hT : LA w ta tn tl) :
    Calls Try.prog 27 #[.agg #[.slice oa oN oc, .slice da dN dc, .slice ta tn tc]] w fun e w' =>
      ∃ oa oN oc ns g da dN dc d pa pn pc pl, e = .returned (.tuple #[.slice oa oN oc, .slice da dN dc, .slice pa pn pc]) ∧ CaseAt w' oa oN ns g da dN d pa pn pl ∧ Below w.heap.size w w' :=
  (made_all oa oN oc oL ol da dN dc dL dl ta tn tc tl hr w hO hD hT).mono (by
    rintro e w' ⟨x1, x2, x3, x4, x5, x6, x7, x8, x9, y1, y2, y3, y4, h1, h2, _, h3⟩
    exact ⟨x1, x2, x3, x4, x5, x6, x7, x8, x9, y1, y2, y3, y4, h1, h2, h3⟩)
end Go.Proofs.Ytcogoomajfahkaa.Ot
