/-
  Layer 6 (outline): OutlineStill, walked.
-/
import Derived.Test.YtcogoomajfahkaaOtSm
namespace Go.Proofs.Ytcogoomajfahkaa.Ot
open Go.RowKit
open Go.Proofs.Ytcogoomajfahkaa.Ax (Tns TA LA ps scal ratV rScalar_any infoI)
/-- Deltas that were put in front of others. -/
structure TW (w V : World) (v : Value) (k : Nat) (xs : List Value) (d : Nat → De) : Prop where
  ow : V.ownsRow w.heap.size 54 2 v k xs
  li : ∀ j, j < k → ∃ ra rc ma mc, xs[j * 2]? = some (.slice ra (d j).K rc) ∧ xs[j * 2 + 1]? = some (.slice ma (d j).M mc) ∧ (d j).K ≤ rc ∧ rc ≤ 9223372036854775807 ∧ (d j).M ≤ mc ∧ mc ≤ 9223372036854775807 ∧ TA w ra (d j).K (d j).r ∧ MA w ma (d j).M (d j).x (d j).y
  be : Below w.heap.size w V
theorem tw_da {w V : World} {v : Value} {k : Nat} {xs : List Value} {d : Nat → De} (h : TW w V v k xs d) : ∃ (a : Option Addr) (c : Nat), v = .slice a k c ∧ k ≤ c ∧ c ≤ 9223372036854775807 ∧ DA V a k d := by
  rcases h.ow.2 with ⟨rfl, rfl⟩ | ⟨b, cap, cur, rfl, hb, hh, hkc, hcm, _⟩
  · exact ⟨none, 0, rfl, Nat.le_refl _, by omega, fun i hi => absurd hi (by omega)⟩
  · unfold maxLen at hcm
    refine ⟨some ⟨b, 0, none⟩, cap, rfl, hkc, by omega, fun i hi => ?_⟩
    obtain ⟨ra, rc, ma, mc, h1, h2, h3, h4, h5, h6, h7, h8⟩ := h.li i hi
    have hl := h.ow.1
    exact ⟨b, 0, ra, rc, ma, mc, rfl, by rw [Nat.zero_add, h.ow.cellAt _ (by omega)]; exact h1, by rw [Nat.zero_add, h.ow.cellAt _ (by omega)]; exact h2, h3, h4, h5, h6, Ax.ta_below h7 h.be, ma_below h8 h.be⟩
theorem tw_one {w V : World} {v : Value} {k : Nat} {xs : List Value} {d : Nat → De} (h : TW w V v k xs d) : ∀ u ∈ xs, u.oneCell' = true := by
  intro u hu
  obtain ⟨j, hj, rfl⟩ := List.getElem_of_mem hu
  have hl := h.ow.1
  obtain ⟨ra, rc, ma, mc, h1, h2, _⟩ := h.li (j / 2) (by omega)
  have : j % 2 = 0 ∨ j % 2 = 1 := by omega
  rcases this with hr | hr
  · have ej : j / 2 * 2 = j := by omega
    rw [ej, List.getElem?_eq_getElem hj] at h1
    rw [Option.some.inj h1]; rfl
  · have ej : j / 2 * 2 + 1 = j := by omega
    rw [ej, List.getElem?_eq_getElem hj] at h2
    rw [Option.some.inj h2]; rfl
theorem run_pre_none (W : World) (b : Nat) (T : TypeId) : (Builtin.append_ #[47, 47] T #[.slice (some ⟨b, 0, none⟩) 1 1, .slice none 0 0]).run Try.prog W = .ok (.slice (some ⟨b, 0, none⟩) 1 1) W := by
  obtain ⟨i0, ki1, ki2, ki3, ki4⟩ := info_parts infoD
  simp [Builtin.append_, run_underlying Try.underlying47, sizeOf, typeInfo, ki1, Builtin.lenOf, Builtin.firstCells, loadCells, storeCells]
/-- append of deltas to one delta. -/
theorem wpList_pre {ops : Array Oper} {rest : List Oper} {o : Oper} {a : Act} {W : World} {Q : Exit → Act → World → Prop} (S b k : Nat) (v : Value) (ls xs : List Value) (hgd : o.guard = none) (s x : Operand)
    (ho : o.op = .call { callee := .builtin .append, args := #[s, x], argTypes := #[47, 47] })
    (hs : a.eval s = .slice (some ⟨b, 0, none⟩) 1 1) (hx : a.eval x = v)
    (hv : W.ownsRow S 54 2 (.slice (some ⟨b, 0, none⟩) 1 1) 1 ls) (hD : W.ownsRow S 54 2 v k xs) (h1 : ∀ u ∈ xs, u.oneCell' = true) (hn : k ≤ 1000) (hS : S ≤ W.heap.size)
    (hk : ∀ v' W', W'.ownsRow S 54 2 v' (1 + k) (ls ++ xs) → W.grownBy W' (some b) → wpList Try.prog ops Q rest (a.put o.dst v') W') : wpList Try.prog ops Q (o :: rest) a W := by
  rcases hD.2 with ⟨rfl, rfl⟩ | ⟨g, cap, cur, rfl, hb, hh, hkc, hcm, _⟩
  · refine wpList_plain hgd fun _ hK => ?_
    have hr := run_pre_none W b o.type
    have hxs : xs = [] := List.eq_nil_of_length_eq_zero (by simpa using hD.1)
    subst hxs
    unfold Oper.wp execOp
    simp only [ho, resolve, invoke, builtin, Sem.run_bind, Sem.run_pure, Result.andThen_ok, List.map_toArray, List.map_cons, List.map_nil, hs, hx, hr]
    exact hK _ _ (hk _ _ (by rw [List.append_nil]; exact hv) (gr _ _))
  · refine wpList_plain hgd fun _ hK => ?_
    obtain ⟨i0, ki1, ki2, ki3, ki4⟩ := info_parts infoD
    have hl := hD.1
    obtain ⟨v', W', hr, h2, h3, _, _⟩ := run_append_own_at (P := Try.prog) W S 47 o.type 54 i0 _ 2 48 Try.underlying47 ki1 ki2 ki3 ki4 rfl (by decide) _ 1 ls hv ⟨g, 0, none⟩ k cap xs hl (fun j u hj => by
      have hjl := (List.getElem?_eq_some_iff.1 hj).1
      have ha : ((⟨g, 0, none⟩ : Addr).add j) = ⟨g, j, none⟩ := by simp [Addr.add]; omega
      rw [ha, hD.cellAt j (by omega)]
      exact hj) h1 (by unfold maxLen; omega) (by omega) hS
    unfold Oper.wp execOp
    simp only [ho, resolve, invoke, builtin, Sem.run_bind, Sem.run_pure, Result.andThen_ok, List.map_toArray, List.map_cons, List.map_nil, hs, hx, hr]
    exact hK _ _ (hk v' W' h2 h3)
theorem tw_pre {w V W' : World} {v v' : Value} {k : Nat} {xs : List Value} {D d : Nat → De} {ra ma : Option Addr} {rc mc : Nat} (h : TW w V v k xs (rev D k)) (hd : d = rev D (k + 1))
    (h3 : (D k).K ≤ rc) (h4 : rc ≤ 9223372036854775807) (h5 : (D k).M ≤ mc) (h6 : mc ≤ 9223372036854775807) (h7 : TA w ra (D k).K (D k).r) (h8 : MA w ma (D k).M (D k).x (D k).y)
    (hown : W'.ownsRow w.heap.size 54 2 v' (1 + k) ([.slice ra (D k).K rc, .slice ma (D k).M mc] ++ xs)) (hB : Below w.heap.size w W') : TW w W' v' (k + 1) ([.slice ra (D k).K rc, .slice ma (D k).M mc] ++ xs) d := by
  subst hd
  refine ⟨by rw [Nat.add_comm]; exact hown, fun j hj => ?_, hB⟩
  rcases j with _ | j
  · exact ⟨ra, rc, ma, mc, rfl, rfl, h3, h4, h5, h6, h7, h8⟩
  · obtain ⟨a1, a2, a3, a4, e1, e2, e3⟩ := h.li j (by omega)
    have er : rev D (k + 1) (j + 1) = rev D k j := by unfold rev; congr 1; omega
    rw [er]
    refine ⟨a1, a2, a3, a4, ?_, ?_, e3⟩
    · rw [List.getElem?_append_right (by simp; omega)]
      have : (j + 1) * 2 - [Value.slice ra (D k).K rc, .slice ma (D k).M mc].length = j * 2 := by simp; omega
      rw [this]; exact e1
    · rw [List.getElem?_append_right (by simp; omega)]
      have : (j + 1) * 2 + 1 - [Value.slice ra (D k).K rc, .slice ma (D k).M mc].length = j * 2 + 1 := by simp; omega
      rw [this]; exact e2
set_option maxRecDepth 100000 in
theorem run_fieldN (W : World) (n d : Int) : (Instr.field 67 (.agg #[.int .i64 n, .int .i64 d]) 0).run Try.prog W = .ok (.int .i64 n) W := by
  go_simp
  try rfl
def StRel (W0 : World) (dN : Nat) (d : Nat → De) (q : Nat → Int) (s7 s8 s9 : Value) (V : World) : Prop := ∃ (k : Nat) (xs : List Value) (qb : Bool), s9 = .int .i64 (k : Int) ∧ s8 = .bool qb ∧ k ≤ dN ∧ TW W0 V s7 k xs (rev d k) ∧ (qb = true → ∀ j, j < k → (scal (d j).r (d j).K q).1 = 0)
def PkRel (W0 : World) (r : Nat → Tns) (K : Nat) (s14 s15 : Value) (V : World) : Prop := ∃ (k : Nat) (Q : List Int), s15 = .int .i64 (k : Int) ∧ k ≤ K ∧ Q.length = k ∧ V.ownsRow W0.heap.size 3 1 s14 k (ivals Q) ∧ (∀ i, i < k → Q.getD i 0 = (r i).p) ∧ Below W0.heap.size W0 V
theorem okP_next {Q : List Int} {r : Nat → Tns} (h : ∀ i, i < Q.length → Q.getD i 0 = (r i).p) : ∀ i, i < Q.length + 1 → (Q ++ [(r Q.length).p]).getD i 0 = (r i).p := fun i hi => by
  rcases getD_app Q (r Q.length).p 0 i (by simpa using hi) with ⟨e1, e⟩ | ⟨h1, e⟩
  · rw [e, e1]
  · rw [e]; exact h i h1
def NRel (WI : World) (ns : Nat → Nat) (N : Nat) (s18 s19 : Value) (V : World) : Prop := ∃ z : Nat, s19 = .int .i64 (z : Int) ∧ s18 = .int .i64 ((pre ns z : Nat) : Int) ∧ z ≤ N ∧ Below WI.heap.size WI V
def IRel (WI : World) (ns : Nat → Nat) (z : Nat) (s18 s20 : Value) (V : World) : Prop := ∃ i : Nat, s20 = .int .i64 (i : Int) ∧ s18 = .int .i64 ((pre ns z + i : Nat) : Int) ∧ i ≤ ns z ∧ Below WI.heap.size WI V
theorem pre_at {ns : Nat → Nat} {z i N : Nat} (hz : z < N) (hi : i < ns z) : pre ns z + i < pre ns N := by
  have h := pre_mono ns (k := z + 1) (n := N) hz
  have e : pre ns (z + 1) = pre ns z + ns z := rfl
  omega
theorem q_at {Q : List Int} {r : Nat → Tns} {K : Nat} (_ : Q.length = K) (hv : ∀ i, i < K → Q.getD i 0 = (r i).p) (hr : ∀ i, i < K → ∃ j, j < 6 ∧ r i = tn6 j) : ∀ i, i < K → ps K (fun i => Q.getD i 0) i = (r i).p := fun i hi => by
  obtain ⟨j, hj, e⟩ := hr i hi
  have hb : -64 ≤ (r i).p ∧ (r i).p ≤ 64 := by
    rw [e]
    have : j = 0 ∨ j = 1 ∨ j = 2 ∨ j = 3 ∨ j = 4 ∨ j = 5 := by omega
    rcases this with rfl | rfl | rfl | rfl | rfl | rfl <;> decide +kernel
  rw [ps_in (p := fun i => Q.getD i 0) hi (by rw [hv i hi]; exact hb)]
  exact hv i hi
theorem vt6 {r : Tns} (h : ∃ j, j < 6 ∧ r = tn6 j) : Ax.vt r = true := by
  obtain ⟨j, hj, rfl⟩ := h
  have : j = 0 ∨ j = 1 ∨ j = 2 ∨ j = 3 ∨ j = 4 ∨ j = 5 := by omega
  rcases this with rfl | rfl | rfl | rfl | rfl | rfl <;> decide +kernel
def WN (W : World) (t : Nat) (x y : Int) (o : Bool) : Prop := W.cell? ⟨t, 0, none⟩ = some (.int .i64 x) ∧ W.cell? ⟨t, 1, none⟩ = some (.int .i64 y) ∧ W.cell? ⟨t, 2, none⟩ = some (.bool o) ∧ W.frozen? ⟨t, 0, none⟩ = false ∧ W.frozen? ⟨t, 1, none⟩ = false
theorem wn_new (V : World) (x y : Int) (o : Bool) (T : TypeId) : WN (V.alloc (.cells #[.int .i64 x, .int .i64 y, .bool o] T)) V.heap.size x y o := ⟨by go_cell, by go_cell, by go_cell, by go_cell, by go_cell⟩
theorem wn_x {W : World} {t : Nat} {x y : Int} {o : Bool} (h : WN W t x y o) (q : Int) : WN (W.setCell ⟨t, 0, none⟩ (.int .i64 q)).drew t q y o := by
  obtain ⟨h1, h2, h3, h4, h5⟩ := h
  exact ⟨by go_cell, by go_cell, by go_cell, by go_cell, by go_cell⟩
theorem wn_y {W : World} {t : Nat} {x y : Int} {o : Bool} (h : WN W t x y o) (q : Int) : WN (W.setCell ⟨t, 1, none⟩ (.int .i64 q)).drew t x q o := by
  obtain ⟨h1, h2, h3, h4, h5⟩ := h
  exact ⟨by go_cell, by go_cell, by go_cell, by go_cell, by go_cell⟩
set_option maxRecDepth 100000 in
set_option maxHeartbeats 32000000 in
theorem Still_any (oa : Option Addr) (oN oc : Nat) (oL : Nat → Nat) (ol : Nat → Nat → Int) (da : Option Addr) (dN dc : Nat) (dL : Nat → Nat) (dl : Nat → Nat → Int) (ta : Option Addr) (tn tc : Nat) (tl : Nat → Int) (_ : tc ≤ 9223372036854775807) (hr : ∀ i, i < tn → R64 (tl i)) (w : World) (hO : LX w oa oN oL ol) (hD : LX w da dN dL dl) (hT : LA w ta tn tl) :
    Calls Try.prog 8 #[.agg #[.slice oa oN oc, .slice da dN dc, .slice ta tn tc]] w fun e w' => e = .returned (.bool true) ∧ Below w.heap.size w w' := by
  have MD := Lib.hid (fun V h => made_all oa oN oc oL ol da dN dc dL dl ta tn tc tl hr V (lx_below hO h) (lx_below hD h) (Ax.la_below hT h))
  obtain ⟨i0, ki1, ki2, ki3, ki4⟩ := info_parts infoI
  have KI := Lib.hid (And.intro ki1 (And.intro ki2 (And.intro ki3 ki4)))
  clear hO hD hT hr ki1 ki2 ki3 ki4
  have hb0 : Below w.heap.size w (w.alloc (.cells #[.slice oa oN oc, .slice da dN dc, .slice ta tn tc] 46)) := ba (Below.refl _ _) _
  have c0 : (w.alloc (.cells #[.slice oa oN oc, .slice da dN dc, .slice ta tn tc] 46)).cell? ⟨w.heap.size, 0, none⟩ = some (.slice oa oN oc) := by go_cell
  have c1 : (w.alloc (.cells #[.slice oa oN oc, .slice da dN dc, .slice ta tn tc] 46)).cell? ⟨w.heap.size, 1, none⟩ = some (.slice da dN dc) := by go_cell
  have c2 : (w.alloc (.cells #[.slice oa oN oc, .slice da dN dc, .slice ta tn tc] 46)).cell? ⟨w.heap.size, 2, none⟩ = some (.slice ta tn tc) := by go_cell
  go_enter Try.func8, Try.ntmps8
  go_wp2_with fail
  refine (sanity_any _).mono ?_
  rintro e V1 ⟨rfl, h1⟩
  replace c0 := kc h1 c0
  replace c1 := kc h1 c1
  replace c2 := kc h1 c2
  replace hb0 := bt hb0 h1
  clear h1
  go_wp2_with fail
  refine (MD.out _ hb0).mono ?_
  rintro e W0 ⟨oa', oN', oc', ns, g, da', dN', dc', d, pa, pn, pc, pl, rfl, hCA, hdc, h2⟩
  have HDC := Lib.hid hdc
  clear hdc
  have hbw := bt hb0 h2
  have CA := Lib.hid hCA
  have hd3 := hCA.d3
  clear h2 c0 c1 c2 MD hb0 hCA
  go_wp2_with fail
  go_loopw [7, 8, 9] (fun s7 s8 s9 V => StRel W0 dN' d (ps pn pl) s7 s8 s9 V) (fun _ _ s9 _ => dN' - (intOf s9).toNat)
  case atStart => exact ⟨0, [], true, rfl, rfl, Nat.zero_le _, ⟨World.ownsRow_nil _ _ _ _, fun j hj => absurd hj (Nat.not_lt_zero j), Below.refl _ _⟩, fun _ j hj => absurd hj (Nat.not_lt_zero j)⟩
  case round =>
    obtain ⟨k, xs, qb, rfl, rfl, hk, hM, hq⟩ := hrel
    rename World => V
    rcases Nat.lt_or_ge k dN' with hkN | hkN
    · obtain ⟨b, o, ra, rc, ma, mc, rfl, x0', x1', h3, h4, h5, h6, hTA, hMA⟩ := CA.out.da k hkN
      have x0 := kc hM.be x0'
      have x1 := kc hM.be x1'
      have k2 := nat0 k
      have k3 := natlt hkN
      have hlit : (V.alloc (.cells #[.slice ra (d k).K rc, .slice ma (d k).M mc] 54)).ownsRow W0.heap.size 54 2 (.slice (some ⟨V.heap.size, 0, none⟩) 1 1) 1 [.slice ra (d k).K rc, .slice ma (d k).M mc] := World.ownsRow_lit V #[.slice ra (d k).K rc, .slice ma (d k).M mc] 1 hM.be.size (by unfold maxLen; omega) rfl
      have hlow := own_keep hM.ow (ba (Below.refl _ V) (.cells #[.slice ra (d k).K rc, .slice ma (d k).M mc] 54))
      have h1c := tw_one hM
      have hsz : W0.heap.size ≤ (V.alloc (.cells #[.slice ra (d k).K rc, .slice ma (d k).M mc] 54)).heap.size := by rw [World.size_alloc]; exact Nat.le_succ_of_le hM.be.size
      have hT2 : Hid (∀ v' W', W'.ownsRow W0.heap.size 54 2 v' (1 + k) ([.slice ra (d k).K rc, .slice ma (d k).M mc] ++ xs) → Below W0.heap.size W0 W' → TW W0 W' v' (k + 1) ([.slice ra (d k).K rc, .slice ma (d k).M mc] ++ xs) (rev d (k + 1))) := Lib.hid (fun v' W' hown hB => tw_pre hM rfl h3 h4 h5 h6 hTA hMA hown hB)
      have hbe := hM.be
      have SC : Hid (∃ zN zD : Int, zN = (scal (d k).r (d k).K (ps pn pl)).1 ∧ ∀ V', Below W0.heap.size W0 V' → Calls Try.prog 32 #[.slice ra (d k).K rc, .slice pa pn pc] V' fun e w' => e = .returned (.agg #[.int .i64 zN, .int .i64 zD]) ∧ Below V'.heap.size V' w') := by
        have := fun V' h => rScalar_any ra (d k).K rc (d k).r pa pn pc pl (by have := (CA.out.dd k hkN).1; have := CA.out.p3; omega) V' (Ax.ta_below hTA h) (Ax.la_below CA.out.la h)
        unfold ratV at this
        exact Lib.hid ⟨_, _, rfl, this⟩
      have HQ := Lib.hid hq
      have hk9 : k ≤ 1000 := by omega
      clear hM hTA hMA x0' x1' hq hd3
      rcases qb with _ | _
      · have hR : Hid (∀ v' W1, TW W0 W1 v' (k + 1) ([.slice ra (d k).K rc, .slice ma (d k).M mc] ++ xs) (rev d (k + 1)) → StRel W0 dN' d (ps pn pl) v' (.bool false) (.int .i64 ((k : Int) + 1)) W1) := Lib.hid (fun v' W1 h => ⟨k + 1, _, false, rfl, rfl, hkN, h, fun h => Bool.noConfusion h⟩)
        go_wp2_with (at_builtin; refine wpList_pre W0.heap.size V.heap.size k u7 _ xs rfl _ _ rfl rfl rfl hlit hlow h1c hk9 hsz ?_; intro v' W1 hown9 hg9; have hB9 : Below W0.heap.size W0 W1 := gB (ba hbe _) hg9 hbe.size; have y0 := kc (gB (ba (Below.refl _ V) _) hg9 (Nat.le_refl _)) x0)
        have R := Lib.hid (hR.out _ _ (hT2.out _ _ hown9 hB9))
        exact ⟨R.out, ltn hkN⟩
      · replace HQ := Lib.hid (HQ.out rfl)
        go_wp2_with (at_builtin; refine wpList_pre W0.heap.size V.heap.size k u7 _ xs rfl _ _ rfl rfl rfl hlit hlow h1c hk9 hsz ?_; intro v' W1 hown9 hg9; have hB9 : Below W0.heap.size W0 W1 := gB (ba hbe _) hg9 hbe.size; have y0 := kc (gB (ba (Below.refl _ V) _) hg9 (Nat.le_refl _)) x0)
        obtain ⟨zN, zD, hzN, SCn⟩ := SC.out
        refine (SCn _ hB9).mono ?_
        rintro e W2 ⟨rfl, hb⟩
        have hT3 := hT2.out _ _ hown9 hB9
        have hT4 : TW W0 W2 v' (k + 1) ([.slice ra (d k).K rc, .slice ma (d k).M mc] ++ xs) (rev d (k + 1)) := ⟨own_keep hT3.ow hb, hT3.li, bt hB9 hb⟩
        by_cases hz : zN = 0
        · have q0 : (zN == 0) = true := by rw [hz]; rfl
          have R : Hid (StRel W0 dN' d (ps pn pl) v' (.bool true) (.int .i64 ((k : Int) + 1)) W2) := Lib.hid ⟨k + 1, _, true, rfl, rfl, hkN, hT4, fun _ j hj => by
            by_cases e : j = k
            · rw [e, ← hzN]; exact hz
            · exact HQ.out j (by omega)⟩
          clear hz hT3 hT4 hT2 hown9 hg9 hlit hlow SC SCn hzN
          go_wp2_with fail
          rw [run_fieldN]
          go_wp2_with fail
          exact ⟨R.out, ltn hkN⟩
        · have q0 : (zN == 0) = false := beq_eq_false_iff_ne.2 hz
          have R : Hid (StRel W0 dN' d (ps pn pl) v' (.bool false) (.int .i64 ((k : Int) + 1)) W2) := Lib.hid ⟨k + 1, _, false, rfl, rfl, hkN, hT4, fun h => Bool.noConfusion h⟩
          clear hz hT3 hT4 hT2 hown9 hg9 hlit hlow SC SCn hzN
          go_wp2_with fail
          rw [run_fieldN]
          go_wp2_with fail
          exact ⟨R.out, ltn hkN⟩
    · obtain rfl : k = dN' := by omega
      obtain ⟨a7, c7, rfl, _, _, hDA7⟩ := tw_da hM
      have hbe := hM.be
      obtain ⟨hs70, hp140⟩ := case_pre CA.out
      have hoN := CA.out.o2
      have hN6 : oN' ≤ 1000000 := by omega
      have hs6 : ∀ j, j < oN' → ns j ≤ 1000000 := fun j hj => by have := hs70 j hj; omega
      have hp6 : pre ns oN' ≤ 1000000 := by omega
      have hck := case_ck (dN := k) (by omega) CA.out.dd
      have hck2 : ckD (rev d k) k pn (pre ns oN' : Nat) = 0 := case_ck (by omega) (fun j hj => CA.out.dd (k - 1 - j) (by omega))
      have HQ := Lib.hid hq
      have HS6 := Lib.hid hs6
      have I1 := Lib.hid (Instance_yes oa' oN' oc' ns g da' k dc' d pa pn pc pl hN6 hp6 (by omega) V (ot_below CA.out.ot hbe) (da_below CA.out.da hbe) (Ax.la_below CA.out.la hbe) hck)
      have I2 := Lib.hid (fun W (h : Below V.heap.size V W) => Instance_yes oa' oN' oc' ns g a7 k c7 (rev d k) pa pn pc pl hN6 hp6 (by omega) W (ot_below (ot_below CA.out.ot hbe) h) (da_below hDA7 h) (Ax.la_below (Ax.la_below CA.out.la hbe) h) hck2)
      have RS := Lib.hid (fun (g' : Nat → Nat → Pt) W a1 c1 a2 c2 h1 h2 => x_rs (a := a1) (a' := a2) (c := c1) (c' := c2) (g := g') hN6 HS6.out W h1 h2)
      have HN6 := Lib.hid (And.intro hN6 hp6)
      have hd3' := Lib.hid hd3
      clear hM hDA7 hs70 hp140 hoN hN6 hs6 hp6 hck hck2 hq hk hkN hd3
      go_wp2_with fail
      refine I1.out.mono ?_
      rintro e W1 ⟨S1, B1, rfl, hO1, hb1⟩
      have ho1 := oo_ot hO1
      clear I1 hO1
      go_wp2_with fail
      refine (I2.out _ hb1).mono ?_
      rintro e W2 ⟨S2, B2, rfl, hO2, hb2⟩
      have ho2 := ot_congr (oo_ot hO2) (fun _ _ => rfl) (fun z _ i _ => inst_rev ns g d (ps pn pl) k z i)
      replace ho1 := ot_below ho1 hb2
      have hv2 := bt hb1 hb2
      clear I2 hO2
      go_wp2_with fail
      refine (RS.out _ _ _ _ _ _ ho1 ho2).mono ?_
      rintro e W3 ⟨rfl, hb3⟩
      replace ho1 := ot_below ho1 hb3
      have hv3 := bt hv2 hb3
      rcases qb with _ | _
      · have HVV := hv3
        clear ho1 hv3
        have hvW := bt hbe HVV
        have hbwW := bt hbw hvW
        clear HVV hv2
        rcases Nat.eq_zero_or_pos k with hk0 | hk0
        · subst hk0
          go_wp2_with fail
          go_ret
          exact ⟨rfl, hbwW⟩
        · have k1 : ((k : Int) == 0) = false := beq0 hk0
          have k2 : (0 : Int) < (k : Int) := by omega
          obtain ⟨bD, od, ra, rc, ma, mc, rfl, w0', w1', h3, h4, h5, h6, hTA, hMA⟩ := CA.out.da 0 hk0
          have w0 : W3.cell? ⟨bD, od, none⟩ = some (.slice ra (d 0).K rc) := kc hvW (by simpa using w0')
          have w1 : W3.cell? ⟨bD, od + 1, none⟩ = some (.slice ma (d 0).M mc) := kc hvW (by simpa using w1')
          have HTA := Lib.hid hTA
          have HMA := Lib.hid hMA
          have HK := Lib.hid (And.intro h3 (And.intro h4 (And.intro h5 h6)))
          have hK3 : (d 0).K ≤ 3 := by rw [(CA.out.dd 0 hk0).1]; exact CA.out.p3
          clear w0' w1' h3 h4 h5 h6 hTA hMA
          go_wp2_with fail
          go_loopw [14, 15] (fun s14 s15 V => PkRel W3 (d 0).r (d 0).K s14 s15 V) (fun _ s15 _ => (d 0).K - (intOf s15).toNat)
          case atStart => exact ⟨0, [], rfl, Nat.zero_le _, rfl, World.ownsRow_nil _ _ _ _, fun i hi => absurd hi (Nat.not_lt_zero i), Below.refl _ _⟩
          case round =>
            obtain ⟨j, Q, rfl, hj, hQl, hQo, hQv, hB⟩ := hrel
            rename World => V2
            replace w0 := kc hB w0
            replace w1 := kc hB w1
            rcases Nat.lt_or_ge j (d 0).K with hjK | hjK
            · obtain ⟨bt1, ot1, rfl, htn⟩ := HTA.out j hjK
              have hbe2 := bt hvW hB
              have y1 := kc hbe2 htn.2.1
              have j2 := nat0 j
              have j3 := natlt hjK
              obtain ⟨sm1, sm2⟩ := sml 8 (Nat.le_of_ble_eq_true rfl) hjK (by omega)
              have hR : Hid (∀ v' V', V'.ownsRow W3.heap.size 3 1 v' (j + 1) (ivals Q ++ [.int .i64 ((d 0).r j).p]) → V2.grownBy V' u14.ownBlock → PkRel W3 (d 0).r (d 0).K v' (.int .i64 ((j : Int) + 1)) V') :=
                Lib.hid (fun v' V' h3 h4 => ⟨j + 1, Q ++ [((d 0).r j).p], rfl, hjK, by rw [List.length_append, hQl]; rfl, by simpa [ivals] using h3, by rw [← hQl]; exact okP_next (by rw [hQl]; exact hQv), gBo hB h4 (fun q e => (hQo.lt q e).1)⟩)
              obtain ⟨ki1, ki2, ki3, ki4⟩ := KI.out
              have NW := news_one V2 (.int .i64 ((d 0).r j).p) 3
              have hlow := (own_keep hQo (ba (Below.refl _ V2) (.cells #[.int .i64 ((d 0).r j).p] 3)))
              have hsz : W3.heap.size ≤ (V2.alloc (.cells #[.int .i64 ((d 0).r j).p] 3)).heap.size := by rw [World.size_alloc]; exact Nat.le_succ_of_le hB.size
              clear hQv hQo htn hbe2
              go_wp2_with (at_builtin; refine wpList_append_lies _ rfl _ _ 44 rfl W3.heap.size 3 i0 _ 1 8 Try.underlying44 ki1 ki2 ki3 ki4 rfl (by decide) _ j _ rfl hlow ⟨V2.heap.size, 0, none⟩ 1 1 [.int .i64 ((d 0).r j).p] rfl rfl NW (by intro u hu; simp at hu; subst hu; rfl) (Nat.succ_pos 0) sm1 sm2 hsz _ rfl ?_; intro s cap Z2 hown2 hg2 hat2 hlt2)
              have R := Lib.hid (hR.out _ _ hown2 (World.grownBy.trans (gaO (grO _ _) _) hg2))
              clear hown2 hg2 hat2 hR hlow NW
              go_wp2_with fail
              exact ⟨R.out, ltn hjK⟩
            · obtain rfl : j = (d 0).K := by omega
              have hown3 : V2.ownsRow W3.heap.size 3 1 u14 Q.length (ivals Q) := by rw [hQl]; exact hQo
              obtain ⟨qa, qc, rfl, _, _, hLA⟩ := own_li hown3
              rw [hQl] at hLA ⊢
              have hbe2 := bt hvW hB
              have hbw2 := bt hbw hbe2
              have hck3 : ckD d 1 (d 0).K (pre ns oN' : Nat) = 0 := by
                rw [(CA.out.dd 0 hk0).1]
                exact case_ck (by omega) (fun j hj => CA.out.dd j (by omega))
              have DCK := Lib.hid HDC.out.2
              have dc1 : (1 : Int) ≤ (dc' : Int) := by have := HDC.out.1; omega
              have I3 := Lib.hid (Instance_yes oa' oN' oc' ns g (some ⟨bD, od, none⟩) 1 dc' d qa (d 0).K qc (fun i => Q.getD i 0) HN6.out.1 HN6.out.2 (by omega) V2 (ot_below CA.out.ot hbe2) (da_less (da_below CA.out.da hbe2) hk0) hLA hck3)
              have HQ2 := Lib.hid (q_at hQl hQv (by rw [(CA.out.dd 0 hk0).1]; exact (CA.out.dd 0 hk0).2.2.1))
              clear hown3 hQo hLA hck3 hQv hj hQl
              go_wp2_with fail
              refine I3.out.mono ?_
              rintro e WI ⟨S3, B3, rfl, hO3, hb3⟩
              have hvI := bt hbe2 hb3
              have hbwI := bt hbw2 hb3
              replace w0 := kc hb3 w0
              replace w1 := kc hb3 w1
              have hw := oo_ot hO3
              have HW := Lib.hid (ot_congr hw (fun _ _ => rfl) (fun z hz i hi => inst_whole (ns := ns) (g := g) (d := d) (q := ps (d 0).K (fun i => Q.getD i 0)) (k := z) (i := i) (fun i hi => vt6 ((CA.out.dd 0 hk0).2.2.1 i (by rw [← (CA.out.dd 0 hk0).1]; exact hi))) HQ2.out ((CA.out.dd 0 hk0).2.2.2 _ (pre_at hz hi))))
              clear hO3 hw I3
              generalize (some (⟨S3, 0, none⟩ : Addr)) = wa at *
              go_wp2_with fail
              go_loopw [18, 19, 20, 21] (fun s18 s19 _ _ V => NRel WI ns oN' s18 s19 V) (fun _ s19 _ _ _ => oN' - (intOf s19).toNat)
              case atStart => exact ⟨0, rfl, rfl, Nat.zero_le _, Below.refl _ _⟩
              case round =>
                obtain ⟨z, rfl, rfl, hz, hB⟩ := hrel
                rename World => V3
                rcases Nat.lt_or_ge z oN' with hzN | hzN
                · obtain ⟨bo, oo, ao, co, rfl, o0', o1, o2, hop⟩ := ot_below CA.out.ot hvI z hzN
                  obtain ⟨bw, ow, aw, cw, rfl, p0', p1, p2, hwp⟩ := HW.out z hzN
                  have HOP := Lib.hid hop
                  have HWP := Lib.hid hwp
                  have O0 := kc hB o0'
                  have P0 := kc hB p0'
                  have z2 := nat0 z
                  have z3 := natlt hzN
                  have z5 : z ≤ 1000 := by have := CA.out.o2; omega
                  have hns : ns z ≤ 70 := (case_pre CA.out).1 z hzN
                  have hRo : Hid (∀ V' (m : Nat), m = pre ns z + ns z → Below WI.heap.size WI V' → NRel WI ns oN' (.int .i64 (m : Int)) (.int .i64 ((z : Int) + 1)) V') := Lib.hid (fun V' m hm h => ⟨z + 1, rfl, by rw [hm]; rfl, hzN, h⟩)
                  have hPM : Hid (∀ i, i < ns z → pre ns z + i < (d 0).M ∧ (d 0).M ≤ 1000000) := Lib.hid (fun i hi => by rw [(CA.out.dd 0 hk0).2.1]; exact ⟨pre_at hzN hi, HN6.out.2⟩)
                  clear hop hwp
                  go_upto_region 28 with (fail)
                  go_quiet (fail)
                  go_wp2_with fail
                  go_loopw [18, 20, 21] (fun s18 s20 _ V => IRel WI ns z s18 s20 V) (fun _ s20 _ _ => ns z - (intOf s20).toNat)
                  case atStart => exact ⟨0, rfl, rfl, Nat.zero_le _, bd hB _⟩
                  case round =>
                    clear hB O0 P0
                    obtain ⟨i, rfl, rfl, hi, hB⟩ := hrel
                    rename World => V4
                    have O0 := kc hB o0'
                    have P0 := kc hB p0'
                    have i2 := nat0 i
                    rcases Nat.lt_or_ge i (ns z) with hin | hin
                    · obtain ⟨bp, op, rfl, f0, f1, f2⟩ := HOP.out i hin
                      obtain ⟨bq, oq, rfl, g0, g1, g2⟩ := HWP.out i hin
                      have hmM := hPM.out i hin
                      obtain ⟨bm, om, rfl, v0, v1⟩ := ma_below HMA.out hvI (pre ns z + i) hmM.1
                      have i3 := natlt hin
                      obtain ⟨qx, hqx⟩ : ∃ qx, wrap64 ((g z i).x + (d 0).x (pre ns z + i)) = qx := ⟨_, rfl⟩
                      obtain ⟨qy, hqy⟩ : ∃ qy, wrap64 ((g z i).y + (d 0).y (pre ns z + i)) = qy := ⟨_, rfl⟩
                      have G0 : V4.cell? ⟨bq, oq + i * 3, none⟩ = some (.int .i64 qx) := (kc hB g0).trans (by rw [← hqx])
                      have G1 : V4.cell? ⟨bq, oq + i * 3 + 1, none⟩ = some (.int .i64 qy) := (kc hB g1).trans (by rw [← hqy])
                      have G2 : V4.cell? ⟨bq, oq + i * 3 + 2, none⟩ = some (.bool (g z i).o) := kc hB g2
                      have F0 := kc hB f0
                      have F1 := kc hB f1
                      have F2 := kc hB f2
                      have N0 := kc hB v0
                      have N1 := kc hB v1
                      have w14 := kc hB w1
                      have HX := Lib.hid ((IntWalk.i64_left _).trans hqx)
                      have HY := Lib.hid ((IntWalk.i64_left _).trans hqy)
                      have hRi : Hid (∀ V' (m : Nat), m = pre ns z + i → Below WI.heap.size WI V' → IRel WI ns z (.int .i64 ((m : Int) + 1)) (.int .i64 ((i : Int) + 1)) V') := Lib.hid (fun V' m hm h => ⟨i + 1, rfl, by rw [hm]; rfl, hin, h⟩)
                      clear f0 f1 f2 g0 g1 g2 v0 v1 hqx hqy hPM hRo
                      generalize (g z i).x = px at *
                      generalize (g z i).y = py at *
                      generalize (g z i).o = po at *
                      generalize hmm : pre ns z + i = m at *
                      generalize (d 0).x m = dx at *
                      generalize (d 0).y m = dy at *
                      have m2 := nat0 m
                      have m3 := natlt hmM.1
                      have m5 := hmM.2
                      go_upto_region 34 with (fail)
                      have hN5 := wn_new V4 px py po 62
                      have hB5 : Below V4.heap.size V4 (V4.alloc (.cells #[.int .i64 px, .int .i64 py, .bool po] 62)) := ba (Below.refl _ _) _
                      generalize V4.alloc (.cells #[.int .i64 px, .int .i64 py, .bool po] 62) = V5 at *
                      have nD : bD ≠ V4.heap.size := Nat.ne_of_lt (block_lt_of_cell w14)
                      have nM : bm ≠ V4.heap.size := Nat.ne_of_lt (block_lt_of_cell N0)
                      have W5 := kc hB5 w14
                      have M0 := kc hB5 N0
                      have M1 := kc hB5 N1
                      have HXo := HX.out
                      have SW : ∀ w', V5.grownBy w' (some V4.heap.size) → w'.cell? ⟨bD, od + 1, none⟩ = some (.slice (some ⟨bm, om, none⟩) (d 0).M mc) := fun _ h => gc h W5 nD
                      have SM : ∀ w', V5.grownBy w' (some V4.heap.size) → w'.cell? ⟨bm, om + m * 2, none⟩ = some (.int .i64 dx) := fun _ h => gc h M0 nM
                      have SM1 := Lib.hid (fun w' (h : V5.grownBy w' (some V4.heap.size)) => gc h M1 nM)
                      have GG : Hid (∀ W, Below V4.heap.size V4 W → W.cell? ⟨bw, ow + z, none⟩ = some (.slice (some ⟨bq, oq, none⟩) (ns z) cw) ∧ W.cell? ⟨bq, oq + i * 3, none⟩ = some (.int .i64 qx) ∧ W.cell? ⟨bq, oq + i * 3 + 1, none⟩ = some (.int .i64 qy) ∧ W.cell? ⟨bq, oq + i * 3 + 2, none⟩ = some (.bool po)) := Lib.hid (fun W h => ⟨kc h P0, kc h G0, kc h G1, kc h G2⟩)
                      obtain ⟨c0, c1, c2, f0, f1⟩ := id hN5
                      clear N0 N1 w14 G0 G1 G2 P0 F0 F1 F2 W5 M0 M1 O0 w0 w1 HX nD nM
                      refine wp_region_held_drew (S := fun w' => V5.grownBy w' (some V4.heap.size)) (by kernel_rfl) (gd1 (gr _ _)) (fun hHeld => ?_)
                      refine wpAnyH_take (i := 0) (v := ?_) rfl (by kernel_rfl) (by kernel_rfl) (by kernel_rfl) (fun _ _ _ h => h) (Or.inl ⟨by rfl, ?_⟩) (by assumption) ?_
                      rotate_left
                      · intro w hSw; (try dsimp only at hSw); go_simp; try with_reducible rfl
                      try simp only [Act.put, List.setIfInBounds_toArray]
                      refine wpAnyH_take (i := 2) (v := ?_) rfl (by kernel_rfl) (by kernel_rfl) (by kernel_rfl) (fun _ _ _ h => h) (Or.inl ⟨by rfl, ?_⟩) (by assumption) ?_
                      rotate_left
                      · intro w hSw; (try dsimp only at hSw); go_simp; try with_reducible rfl
                      try simp only [Act.put]
                      refine wpAnyH_take (i := 3) (v := ?_) rfl (by kernel_rfl) (by kernel_rfl) (by kernel_rfl) (fun _ _ _ h => h) (Or.inl ⟨by rfl, ?_⟩) (by assumption) ?_
                      rotate_left
                      · intro w hSw; (try dsimp only at hSw); go_simp; try with_reducible rfl
                      try simp only [Act.put]
                      refine wpAnyH_take (i := 4) (v := ?_) rfl (by kernel_rfl) (by kernel_rfl) (by kernel_rfl) (fun _ _ _ h => h) (Or.inl ⟨by rfl, ?_⟩) (by assumption) ?_
                      rotate_left
                      · intro w hSw; (try dsimp only at hSw); go_simp; try with_reducible rfl
                      try simp only [Act.put]
                      refine wpAnyH_take (i := 5) (v := ?_) rfl (by kernel_rfl) (by kernel_rfl) (by kernel_rfl) (fun _ _ _ h => h) (Or.inl ⟨by rfl, ?_⟩) (by assumption) ?_
                      rotate_left
                      · intro w hSw; (try dsimp only at hSw); go_simp; try with_reducible rfl
                      try simp only [Act.put]
                      refine wpAnyH_take (i := 6) (v := ?_) rfl (by kernel_rfl) (by kernel_rfl) (by kernel_rfl) (fun _ _ _ h => h) (Or.inl ⟨by rfl, ?_⟩) (by assumption) ?_
                      rotate_left
                      · intro w hSw; (try dsimp only at hSw); go_simp; try with_reducible rfl
                      try simp only [Act.put]
                      refine wpAnyH_take (i := 7) (v := ?_) rfl (by kernel_rfl) (by kernel_rfl) (by kernel_rfl) (fun _ _ _ h => h) (Or.inl ⟨by rfl, ?_⟩) (by assumption) ?_
                      rotate_left
                      · intro w hSw; (try dsimp only at hSw); go_simp; try with_reducible rfl
                      try simp only [Act.put]
                      refine wpAnyH_take (i := 8) (v := ?_) rfl (by kernel_rfl) (by kernel_rfl) (by kernel_rfl) (fun _ _ _ h => h) (Or.inl ⟨by rfl, ?_⟩) (by assumption) ?_
                      rotate_left
                      · intro w hSw; (try dsimp only at hSw); go_simp; try with_reducible rfl
                      try simp only [Act.put]
                      refine wpAnyH_take (i := 9) (v := ?_) rfl (by kernel_rfl) (by kernel_rfl) (by kernel_rfl) (fun _ _ _ h => h) (Or.inl ⟨by rfl, ?_⟩) (by assumption) ?_
                      rotate_left
                      · intro w hSw; (try dsimp only at hSw); go_simp; try with_reducible rfl
                      try simp only [Act.put]
                      refine wpAnyH_ready (rs := [1]) (by kernel_rfl) (by simp) ?_
                      refine AllReadyH.cons rfl (fun K hK => ?_) AllReadyH.nil
                      go_simp
                      try dsimp only
                      refine hK.out _ _ (hHeld) (fun hHeld => ?_)
                      clear hK K
                      try simp only [Act.put, List.setIfInBounds_toArray, List.set_cons_zero, List.set_cons_succ]
                      refine wpAnyH_take (i := 10) (v := ?_) rfl (by kernel_rfl) (by kernel_rfl) (by kernel_rfl) (fun _ _ _ h => h) (Or.inl ⟨by rfl, ?_⟩) (by assumption) ?_
                      rotate_left
                      · intro w hSw; (try dsimp only at hSw); go_simp; try with_reducible rfl
                      try simp only [Act.put, List.setIfInBounds_toArray]
                      refine wpAnyH_take (i := 11) (v := ?_) rfl (by kernel_rfl) (by kernel_rfl) (by kernel_rfl) (fun _ _ _ h => h) (Or.inl ⟨by rfl, ?_⟩) (by assumption) ?_
                      rotate_left
                      · intro w hSw; (try dsimp only at hSw); go_simp; try with_reducible rfl
                      try simp only [Act.put]
                      refine wpAnyH_ready (rs := [12]) (by kernel_rfl) (by simp) ?_
                      refine AllReadyH.cons rfl (fun K hK => ?_) AllReadyH.nil
                      go_simp
                      try dsimp only
                      refine hK.out _ _ (gs hHeld _) (fun hHeld => ?_)
                      clear hK K
                      try simp only [Act.put, List.setIfInBounds_toArray, List.set_cons_zero, List.set_cons_succ]
                      refine wpAnyH_done (by kernel_rfl) ?_ _
                      have hG8 : V5.grownBy (V5.setCell ⟨V4.heap.size, 0, none⟩ (.int .i64 qx)).drew (some V4.heap.size) := by with_reducible assumption
                      have hN8 := wn_x hN5 qx
                      generalize (V5.setCell ⟨V4.heap.size, 0, none⟩ (.int .i64 qx)).drew = V8 at *
                      clear c0 c1 c2 f0 f1 SM HXo hN5
                      obtain ⟨c0, c1, c2, f0, f1⟩ := id hN8
                      have SW1 : ∀ w', V8.grownBy w' (some V4.heap.size) → w'.cell? ⟨bD, od + 1, none⟩ = some (.slice (some ⟨bm, om, none⟩) (d 0).M mc) := fun _ h => SW _ (World.grownBy.trans hG8 h)
                      have SM2 : ∀ w', V8.grownBy w' (some V4.heap.size) → w'.cell? ⟨bm, om + m * 2 + 1, none⟩ = some (.int .i64 dy) := fun _ h => SM1.out _ (World.grownBy.trans hG8 h)
                      have HYo := HY.out
                      have hG8' := Lib.hid hG8
                      clear SW SM1 hG8 HY
                      go_upto_region 35 with (fail)
                      refine wp_region_held_drew (S := fun w' => V8.grownBy w' (some V4.heap.size)) (by kernel_rfl) (gd1 (gr _ _)) (fun hHeld => ?_)
                      refine wpAnyH_take (i := 0) (v := ?_) rfl (by kernel_rfl) (by kernel_rfl) (by kernel_rfl) (fun _ _ _ h => h) (Or.inl ⟨by rfl, ?_⟩) (by assumption) ?_
                      rotate_left
                      · intro w hSw; (try dsimp only at hSw); go_simp; try with_reducible rfl
                      try simp only [Act.put, List.setIfInBounds_toArray]
                      refine wpAnyH_take (i := 2) (v := ?_) rfl (by kernel_rfl) (by kernel_rfl) (by kernel_rfl) (fun _ _ _ h => h) (Or.inl ⟨by rfl, ?_⟩) (by assumption) ?_
                      rotate_left
                      · intro w hSw; (try dsimp only at hSw); go_simp; try with_reducible rfl
                      try simp only [Act.put]
                      refine wpAnyH_take (i := 3) (v := ?_) rfl (by kernel_rfl) (by kernel_rfl) (by kernel_rfl) (fun _ _ _ h => h) (Or.inl ⟨by rfl, ?_⟩) (by assumption) ?_
                      rotate_left
                      · intro w hSw; (try dsimp only at hSw); go_simp; try with_reducible rfl
                      try simp only [Act.put]
                      refine wpAnyH_take (i := 4) (v := ?_) rfl (by kernel_rfl) (by kernel_rfl) (by kernel_rfl) (fun _ _ _ h => h) (Or.inl ⟨by rfl, ?_⟩) (by assumption) ?_
                      rotate_left
                      · intro w hSw; (try dsimp only at hSw); go_simp; try with_reducible rfl
                      try simp only [Act.put]
                      refine wpAnyH_take (i := 5) (v := ?_) rfl (by kernel_rfl) (by kernel_rfl) (by kernel_rfl) (fun _ _ _ h => h) (Or.inl ⟨by rfl, ?_⟩) (by assumption) ?_
                      rotate_left
                      · intro w hSw; (try dsimp only at hSw); go_simp; try with_reducible rfl
                      try simp only [Act.put]
                      refine wpAnyH_take (i := 6) (v := ?_) rfl (by kernel_rfl) (by kernel_rfl) (by kernel_rfl) (fun _ _ _ h => h) (Or.inl ⟨by rfl, ?_⟩) (by assumption) ?_
                      rotate_left
                      · intro w hSw; (try dsimp only at hSw); go_simp; try with_reducible rfl
                      try simp only [Act.put]
                      refine wpAnyH_take (i := 7) (v := ?_) rfl (by kernel_rfl) (by kernel_rfl) (by kernel_rfl) (fun _ _ _ h => h) (Or.inl ⟨by rfl, ?_⟩) (by assumption) ?_
                      rotate_left
                      · intro w hSw; (try dsimp only at hSw); go_simp; try with_reducible rfl
                      try simp only [Act.put]
                      refine wpAnyH_take (i := 8) (v := ?_) rfl (by kernel_rfl) (by kernel_rfl) (by kernel_rfl) (fun _ _ _ h => h) (Or.inl ⟨by rfl, ?_⟩) (by assumption) ?_
                      rotate_left
                      · intro w hSw; (try dsimp only at hSw); go_simp; try with_reducible rfl
                      try simp only [Act.put]
                      refine wpAnyH_take (i := 9) (v := ?_) rfl (by kernel_rfl) (by kernel_rfl) (by kernel_rfl) (fun _ _ _ h => h) (Or.inl ⟨by rfl, ?_⟩) (by assumption) ?_
                      rotate_left
                      · intro w hSw; (try dsimp only at hSw); go_simp; try with_reducible rfl
                      try simp only [Act.put]
                      refine wpAnyH_ready (rs := [1]) (by kernel_rfl) (by simp) ?_
                      refine AllReadyH.cons rfl (fun K hK => ?_) AllReadyH.nil
                      go_simp
                      try dsimp only
                      refine hK.out _ _ (hHeld) (fun hHeld => ?_)
                      clear hK K
                      try simp only [Act.put, List.setIfInBounds_toArray, List.set_cons_zero, List.set_cons_succ]
                      refine wpAnyH_take (i := 10) (v := ?_) rfl (by kernel_rfl) (by kernel_rfl) (by kernel_rfl) (fun _ _ _ h => h) (Or.inl ⟨by rfl, ?_⟩) (by assumption) ?_
                      rotate_left
                      · intro w hSw; (try dsimp only at hSw); go_simp; try with_reducible rfl
                      try simp only [Act.put, List.setIfInBounds_toArray]
                      refine wpAnyH_take (i := 11) (v := ?_) rfl (by kernel_rfl) (by kernel_rfl) (by kernel_rfl) (fun _ _ _ h => h) (Or.inl ⟨by rfl, ?_⟩) (by assumption) ?_
                      rotate_left
                      · intro w hSw; (try dsimp only at hSw); go_simp; try with_reducible rfl
                      try simp only [Act.put]
                      refine wpAnyH_ready (rs := [12]) (by kernel_rfl) (by simp) ?_
                      refine AllReadyH.cons rfl (fun K hK => ?_) AllReadyH.nil
                      go_simp
                      try dsimp only
                      refine hK.out _ _ (gs hHeld _) (fun hHeld => ?_)
                      clear hK K
                      try simp only [Act.put, List.setIfInBounds_toArray, List.set_cons_zero, List.set_cons_succ]
                      refine wpAnyH_done (by kernel_rfl) ?_ _
                      have hG9 : V8.grownBy (V8.setCell ⟨V4.heap.size, 1, none⟩ (.int .i64 qy)).drew (some V4.heap.size) := by with_reducible assumption
                      have hN9 := wn_y hN8 qy
                      generalize (V8.setCell ⟨V4.heap.size, 1, none⟩ (.int .i64 qy)).drew = V9 at *
                      have hB9 : Below V4.heap.size V4 V9 := gB hB5 (World.grownBy.trans hG8'.out hG9) (Nat.le_refl _)
                      have hBI := bt hB hB9
                      obtain ⟨P0, G0, G1, G2⟩ := GG.out _ hB9
                      clear c0 c1 c2 f0 f1 SW1 SM2 HYo hN8 hG8' hG9 GG
                      obtain ⟨c0, c1, c2, f0, f1⟩ := hN9
                      have R := Lib.hid (fun q => hRi.out (V9.drewN q) m rfl (bd hBI q))
                      clear hRi hmm
                      go_upto_region 36 with (fail)
                      go_quiet (fail)
                      go_wp2_with fail
                      exact ⟨R.out _, ltn hin⟩
                    · obtain rfl : i = ns z := by omega
                      have R := Lib.hid (hRo.out _ _ rfl hB)
                      clear hRo hPM
                      generalize pre ns z + ns z = m at *
                      go_wp2_with fail
                      exact ⟨R.out, ltn hzN⟩
                · obtain rfl : z = oN' := by omega
                  have hend := bt hbwI hB
                  go_wp2_with fail
                  go_ret
                  exact ⟨rfl, hend⟩
      · have hq1 := HQ.out rfl
        replace ho1 := ot_congr ho1 (fun _ _ => rfl) (fun z hz i hi => inst_quiet (ns := ns) (g := g) (k := z) (i := i) hq1 (by have := ((CA.out.oo z hz).2.2.2 i hi).1; have := ((CA.out.oo z hz).2.2.2 i hi).2.1; unfold R64; omega) (by have := ((CA.out.oo z hz).2.2.2 i hi).2.2.1; have := ((CA.out.oo z hz).2.2.2 i hi).2.2.2; unfold R64; omega))
        have hoo := ot_below CA.out.ot (bt hbe hv3)
        clear hq1
        go_wp2_with fail
        refine (RS.out _ _ _ _ _ _ ho1 hoo).mono ?_
        rintro e W4 ⟨rfl, hb4⟩
        have HVV := bt hv3 hb4
        clear ho1 hoo hv3
        have hvW := bt hbe HVV
        have hbwW := bt hbw hvW
        clear HVV hv2
        rcases Nat.eq_zero_or_pos k with hk0 | hk0
        · subst hk0
          go_wp2_with fail
          go_ret
          exact ⟨rfl, hbwW⟩
        · have k1 : ((k : Int) == 0) = false := beq0 hk0
          have k2 : (0 : Int) < (k : Int) := by omega
          obtain ⟨bD, od, ra, rc, ma, mc, rfl, w0', w1', h3, h4, h5, h6, hTA, hMA⟩ := CA.out.da 0 hk0
          have w0 : W4.cell? ⟨bD, od, none⟩ = some (.slice ra (d 0).K rc) := kc hvW (by simpa using w0')
          have w1 : W4.cell? ⟨bD, od + 1, none⟩ = some (.slice ma (d 0).M mc) := kc hvW (by simpa using w1')
          have HTA := Lib.hid hTA
          have HMA := Lib.hid hMA
          have HK := Lib.hid (And.intro h3 (And.intro h4 (And.intro h5 h6)))
          have hK3 : (d 0).K ≤ 3 := by rw [(CA.out.dd 0 hk0).1]; exact CA.out.p3
          clear w0' w1' h3 h4 h5 h6 hTA hMA
          go_wp2_with fail
          go_loopw [14, 15] (fun s14 s15 V => PkRel W4 (d 0).r (d 0).K s14 s15 V) (fun _ s15 _ => (d 0).K - (intOf s15).toNat)
          case atStart => exact ⟨0, [], rfl, Nat.zero_le _, rfl, World.ownsRow_nil _ _ _ _, fun i hi => absurd hi (Nat.not_lt_zero i), Below.refl _ _⟩
          case round =>
            obtain ⟨j, Q, rfl, hj, hQl, hQo, hQv, hB⟩ := hrel
            rename World => V2
            replace w0 := kc hB w0
            replace w1 := kc hB w1
            rcases Nat.lt_or_ge j (d 0).K with hjK | hjK
            · obtain ⟨bt1, ot1, rfl, htn⟩ := HTA.out j hjK
              have hbe2 := bt hvW hB
              have y1 := kc hbe2 htn.2.1
              have j2 := nat0 j
              have j3 := natlt hjK
              obtain ⟨sm1, sm2⟩ := sml 8 (Nat.le_of_ble_eq_true rfl) hjK (by omega)
              have hR : Hid (∀ v' V', V'.ownsRow W4.heap.size 3 1 v' (j + 1) (ivals Q ++ [.int .i64 ((d 0).r j).p]) → V2.grownBy V' u14.ownBlock → PkRel W4 (d 0).r (d 0).K v' (.int .i64 ((j : Int) + 1)) V') :=
                Lib.hid (fun v' V' h3 h4 => ⟨j + 1, Q ++ [((d 0).r j).p], rfl, hjK, by rw [List.length_append, hQl]; rfl, by simpa [ivals] using h3, by rw [← hQl]; exact okP_next (by rw [hQl]; exact hQv), gBo hB h4 (fun q e => (hQo.lt q e).1)⟩)
              obtain ⟨ki1, ki2, ki3, ki4⟩ := KI.out
              have NW := news_one V2 (.int .i64 ((d 0).r j).p) 3
              have hlow := (own_keep hQo (ba (Below.refl _ V2) (.cells #[.int .i64 ((d 0).r j).p] 3)))
              have hsz : W4.heap.size ≤ (V2.alloc (.cells #[.int .i64 ((d 0).r j).p] 3)).heap.size := by rw [World.size_alloc]; exact Nat.le_succ_of_le hB.size
              clear hQv hQo htn hbe2
              go_wp2_with (at_builtin; refine wpList_append_lies _ rfl _ _ 44 rfl W4.heap.size 3 i0 _ 1 8 Try.underlying44 ki1 ki2 ki3 ki4 rfl (by decide) _ j _ rfl hlow ⟨V2.heap.size, 0, none⟩ 1 1 [.int .i64 ((d 0).r j).p] rfl rfl NW (by intro u hu; simp at hu; subst hu; rfl) (Nat.succ_pos 0) sm1 sm2 hsz _ rfl ?_; intro s cap Z2 hown2 hg2 hat2 hlt2)
              have R := Lib.hid (hR.out _ _ hown2 (World.grownBy.trans (gaO (grO _ _) _) hg2))
              clear hown2 hg2 hat2 hR hlow NW
              go_wp2_with fail
              exact ⟨R.out, ltn hjK⟩
            · obtain rfl : j = (d 0).K := by omega
              have hown3 : V2.ownsRow W4.heap.size 3 1 u14 Q.length (ivals Q) := by rw [hQl]; exact hQo
              obtain ⟨qa, qc, rfl, _, _, hLA⟩ := own_li hown3
              rw [hQl] at hLA ⊢
              have hbe2 := bt hvW hB
              have hbw2 := bt hbw hbe2
              have hck3 : ckD d 1 (d 0).K (pre ns oN' : Nat) = 0 := by
                rw [(CA.out.dd 0 hk0).1]
                exact case_ck (by omega) (fun j hj => CA.out.dd j (by omega))
              have DCK := Lib.hid HDC.out.2
              have dc1 : (1 : Int) ≤ (dc' : Int) := by have := HDC.out.1; omega
              have I3 := Lib.hid (Instance_yes oa' oN' oc' ns g (some ⟨bD, od, none⟩) 1 dc' d qa (d 0).K qc (fun i => Q.getD i 0) HN6.out.1 HN6.out.2 (by omega) V2 (ot_below CA.out.ot hbe2) (da_less (da_below CA.out.da hbe2) hk0) hLA hck3)
              have HQ2 := Lib.hid (q_at hQl hQv (by rw [(CA.out.dd 0 hk0).1]; exact (CA.out.dd 0 hk0).2.2.1))
              clear hown3 hQo hLA hck3 hQv hj hQl
              go_wp2_with fail
              refine I3.out.mono ?_
              rintro e WI ⟨S3, B3, rfl, hO3, hb3⟩
              have hvI := bt hbe2 hb3
              have hbwI := bt hbw2 hb3
              replace w0 := kc hb3 w0
              replace w1 := kc hb3 w1
              have hw := oo_ot hO3
              have HW := Lib.hid (ot_congr hw (fun _ _ => rfl) (fun z hz i hi => inst_whole (ns := ns) (g := g) (d := d) (q := ps (d 0).K (fun i => Q.getD i 0)) (k := z) (i := i) (fun i hi => vt6 ((CA.out.dd 0 hk0).2.2.1 i (by rw [← (CA.out.dd 0 hk0).1]; exact hi))) HQ2.out ((CA.out.dd 0 hk0).2.2.2 _ (pre_at hz hi))))
              clear hO3 hw I3
              generalize (some (⟨S3, 0, none⟩ : Addr)) = wa at *
              go_wp2_with fail
              go_loopw [18, 19, 20, 21] (fun s18 s19 _ _ V => NRel WI ns oN' s18 s19 V) (fun _ s19 _ _ _ => oN' - (intOf s19).toNat)
              case atStart => exact ⟨0, rfl, rfl, Nat.zero_le _, Below.refl _ _⟩
              case round =>
                obtain ⟨z, rfl, rfl, hz, hB⟩ := hrel
                rename World => V3
                rcases Nat.lt_or_ge z oN' with hzN | hzN
                · obtain ⟨bo, oo, ao, co, rfl, o0', o1, o2, hop⟩ := ot_below CA.out.ot hvI z hzN
                  obtain ⟨bw, ow, aw, cw, rfl, p0', p1, p2, hwp⟩ := HW.out z hzN
                  have HOP := Lib.hid hop
                  have HWP := Lib.hid hwp
                  have O0 := kc hB o0'
                  have P0 := kc hB p0'
                  have z2 := nat0 z
                  have z3 := natlt hzN
                  have z5 : z ≤ 1000 := by have := CA.out.o2; omega
                  have hns : ns z ≤ 70 := (case_pre CA.out).1 z hzN
                  have hRo : Hid (∀ V' (m : Nat), m = pre ns z + ns z → Below WI.heap.size WI V' → NRel WI ns oN' (.int .i64 (m : Int)) (.int .i64 ((z : Int) + 1)) V') := Lib.hid (fun V' m hm h => ⟨z + 1, rfl, by rw [hm]; rfl, hzN, h⟩)
                  have hPM : Hid (∀ i, i < ns z → pre ns z + i < (d 0).M ∧ (d 0).M ≤ 1000000) := Lib.hid (fun i hi => by rw [(CA.out.dd 0 hk0).2.1]; exact ⟨pre_at hzN hi, HN6.out.2⟩)
                  clear hop hwp
                  go_upto_region 28 with (fail)
                  go_quiet (fail)
                  go_wp2_with fail
                  go_loopw [18, 20, 21] (fun s18 s20 _ V => IRel WI ns z s18 s20 V) (fun _ s20 _ _ => ns z - (intOf s20).toNat)
                  case atStart => exact ⟨0, rfl, rfl, Nat.zero_le _, bd hB _⟩
                  case round =>
                    clear hB O0 P0
                    obtain ⟨i, rfl, rfl, hi, hB⟩ := hrel
                    rename World => V4
                    have O0 := kc hB o0'
                    have P0 := kc hB p0'
                    have i2 := nat0 i
                    rcases Nat.lt_or_ge i (ns z) with hin | hin
                    · obtain ⟨bp, op, rfl, f0, f1, f2⟩ := HOP.out i hin
                      obtain ⟨bq, oq, rfl, g0, g1, g2⟩ := HWP.out i hin
                      have hmM := hPM.out i hin
                      obtain ⟨bm, om, rfl, v0, v1⟩ := ma_below HMA.out hvI (pre ns z + i) hmM.1
                      have i3 := natlt hin
                      obtain ⟨qx, hqx⟩ : ∃ qx, wrap64 ((g z i).x + (d 0).x (pre ns z + i)) = qx := ⟨_, rfl⟩
                      obtain ⟨qy, hqy⟩ : ∃ qy, wrap64 ((g z i).y + (d 0).y (pre ns z + i)) = qy := ⟨_, rfl⟩
                      have G0 : V4.cell? ⟨bq, oq + i * 3, none⟩ = some (.int .i64 qx) := (kc hB g0).trans (by rw [← hqx])
                      have G1 : V4.cell? ⟨bq, oq + i * 3 + 1, none⟩ = some (.int .i64 qy) := (kc hB g1).trans (by rw [← hqy])
                      have G2 : V4.cell? ⟨bq, oq + i * 3 + 2, none⟩ = some (.bool (g z i).o) := kc hB g2
                      have F0 := kc hB f0
                      have F1 := kc hB f1
                      have F2 := kc hB f2
                      have N0 := kc hB v0
                      have N1 := kc hB v1
                      have w14 := kc hB w1
                      have HX := Lib.hid ((IntWalk.i64_left _).trans hqx)
                      have HY := Lib.hid ((IntWalk.i64_left _).trans hqy)
                      have hRi : Hid (∀ V' (m : Nat), m = pre ns z + i → Below WI.heap.size WI V' → IRel WI ns z (.int .i64 ((m : Int) + 1)) (.int .i64 ((i : Int) + 1)) V') := Lib.hid (fun V' m hm h => ⟨i + 1, rfl, by rw [hm]; rfl, hin, h⟩)
                      clear f0 f1 f2 g0 g1 g2 v0 v1 hqx hqy hPM hRo
                      generalize (g z i).x = px at *
                      generalize (g z i).y = py at *
                      generalize (g z i).o = po at *
                      generalize hmm : pre ns z + i = m at *
                      generalize (d 0).x m = dx at *
                      generalize (d 0).y m = dy at *
                      have m2 := nat0 m
                      have m3 := natlt hmM.1
                      have m5 := hmM.2
                      go_upto_region 34 with (fail)
                      have hN5 := wn_new V4 px py po 62
                      have hB5 : Below V4.heap.size V4 (V4.alloc (.cells #[.int .i64 px, .int .i64 py, .bool po] 62)) := ba (Below.refl _ _) _
                      generalize V4.alloc (.cells #[.int .i64 px, .int .i64 py, .bool po] 62) = V5 at *
                      have nD : bD ≠ V4.heap.size := Nat.ne_of_lt (block_lt_of_cell w14)
                      have nM : bm ≠ V4.heap.size := Nat.ne_of_lt (block_lt_of_cell N0)
                      have W5 := kc hB5 w14
                      have M0 := kc hB5 N0
                      have M1 := kc hB5 N1
                      have HXo := HX.out
                      have SW : ∀ w', V5.grownBy w' (some V4.heap.size) → w'.cell? ⟨bD, od + 1, none⟩ = some (.slice (some ⟨bm, om, none⟩) (d 0).M mc) := fun _ h => gc h W5 nD
                      have SM : ∀ w', V5.grownBy w' (some V4.heap.size) → w'.cell? ⟨bm, om + m * 2, none⟩ = some (.int .i64 dx) := fun _ h => gc h M0 nM
                      have SM1 := Lib.hid (fun w' (h : V5.grownBy w' (some V4.heap.size)) => gc h M1 nM)
                      have GG : Hid (∀ W, Below V4.heap.size V4 W → W.cell? ⟨bw, ow + z, none⟩ = some (.slice (some ⟨bq, oq, none⟩) (ns z) cw) ∧ W.cell? ⟨bq, oq + i * 3, none⟩ = some (.int .i64 qx) ∧ W.cell? ⟨bq, oq + i * 3 + 1, none⟩ = some (.int .i64 qy) ∧ W.cell? ⟨bq, oq + i * 3 + 2, none⟩ = some (.bool po)) := Lib.hid (fun W h => ⟨kc h P0, kc h G0, kc h G1, kc h G2⟩)
                      obtain ⟨c0, c1, c2, f0, f1⟩ := id hN5
                      clear N0 N1 w14 G0 G1 G2 P0 F0 F1 F2 W5 M0 M1 O0 w0 w1 HX nD nM
                      refine wp_region_held_drew (S := fun w' => V5.grownBy w' (some V4.heap.size)) (by kernel_rfl) (gd1 (gr _ _)) (fun hHeld => ?_)
                      refine wpAnyH_take (i := 0) (v := ?_) rfl (by kernel_rfl) (by kernel_rfl) (by kernel_rfl) (fun _ _ _ h => h) (Or.inl ⟨by rfl, ?_⟩) (by assumption) ?_
                      rotate_left
                      · intro w hSw; (try dsimp only at hSw); go_simp; try with_reducible rfl
                      try simp only [Act.put, List.setIfInBounds_toArray]
                      refine wpAnyH_take (i := 2) (v := ?_) rfl (by kernel_rfl) (by kernel_rfl) (by kernel_rfl) (fun _ _ _ h => h) (Or.inl ⟨by rfl, ?_⟩) (by assumption) ?_
                      rotate_left
                      · intro w hSw; (try dsimp only at hSw); go_simp; try with_reducible rfl
                      try simp only [Act.put]
                      refine wpAnyH_take (i := 3) (v := ?_) rfl (by kernel_rfl) (by kernel_rfl) (by kernel_rfl) (fun _ _ _ h => h) (Or.inl ⟨by rfl, ?_⟩) (by assumption) ?_
                      rotate_left
                      · intro w hSw; (try dsimp only at hSw); go_simp; try with_reducible rfl
                      try simp only [Act.put]
                      refine wpAnyH_take (i := 4) (v := ?_) rfl (by kernel_rfl) (by kernel_rfl) (by kernel_rfl) (fun _ _ _ h => h) (Or.inl ⟨by rfl, ?_⟩) (by assumption) ?_
                      rotate_left
                      · intro w hSw; (try dsimp only at hSw); go_simp; try with_reducible rfl
                      try simp only [Act.put]
                      refine wpAnyH_take (i := 5) (v := ?_) rfl (by kernel_rfl) (by kernel_rfl) (by kernel_rfl) (fun _ _ _ h => h) (Or.inl ⟨by rfl, ?_⟩) (by assumption) ?_
                      rotate_left
                      · intro w hSw; (try dsimp only at hSw); go_simp; try with_reducible rfl
                      try simp only [Act.put]
                      refine wpAnyH_take (i := 6) (v := ?_) rfl (by kernel_rfl) (by kernel_rfl) (by kernel_rfl) (fun _ _ _ h => h) (Or.inl ⟨by rfl, ?_⟩) (by assumption) ?_
                      rotate_left
                      · intro w hSw; (try dsimp only at hSw); go_simp; try with_reducible rfl
                      try simp only [Act.put]
                      refine wpAnyH_take (i := 7) (v := ?_) rfl (by kernel_rfl) (by kernel_rfl) (by kernel_rfl) (fun _ _ _ h => h) (Or.inl ⟨by rfl, ?_⟩) (by assumption) ?_
                      rotate_left
                      · intro w hSw; (try dsimp only at hSw); go_simp; try with_reducible rfl
                      try simp only [Act.put]
                      refine wpAnyH_take (i := 8) (v := ?_) rfl (by kernel_rfl) (by kernel_rfl) (by kernel_rfl) (fun _ _ _ h => h) (Or.inl ⟨by rfl, ?_⟩) (by assumption) ?_
                      rotate_left
                      · intro w hSw; (try dsimp only at hSw); go_simp; try with_reducible rfl
                      try simp only [Act.put]
                      refine wpAnyH_take (i := 9) (v := ?_) rfl (by kernel_rfl) (by kernel_rfl) (by kernel_rfl) (fun _ _ _ h => h) (Or.inl ⟨by rfl, ?_⟩) (by assumption) ?_
                      rotate_left
                      · intro w hSw; (try dsimp only at hSw); go_simp; try with_reducible rfl
                      try simp only [Act.put]
                      refine wpAnyH_ready (rs := [1]) (by kernel_rfl) (by simp) ?_
                      refine AllReadyH.cons rfl (fun K hK => ?_) AllReadyH.nil
                      go_simp
                      try dsimp only
                      refine hK.out _ _ (hHeld) (fun hHeld => ?_)
                      clear hK K
                      try simp only [Act.put, List.setIfInBounds_toArray, List.set_cons_zero, List.set_cons_succ]
                      refine wpAnyH_take (i := 10) (v := ?_) rfl (by kernel_rfl) (by kernel_rfl) (by kernel_rfl) (fun _ _ _ h => h) (Or.inl ⟨by rfl, ?_⟩) (by assumption) ?_
                      rotate_left
                      · intro w hSw; (try dsimp only at hSw); go_simp; try with_reducible rfl
                      try simp only [Act.put, List.setIfInBounds_toArray]
                      refine wpAnyH_take (i := 11) (v := ?_) rfl (by kernel_rfl) (by kernel_rfl) (by kernel_rfl) (fun _ _ _ h => h) (Or.inl ⟨by rfl, ?_⟩) (by assumption) ?_
                      rotate_left
                      · intro w hSw; (try dsimp only at hSw); go_simp; try with_reducible rfl
                      try simp only [Act.put]
                      refine wpAnyH_ready (rs := [12]) (by kernel_rfl) (by simp) ?_
                      refine AllReadyH.cons rfl (fun K hK => ?_) AllReadyH.nil
                      go_simp
                      try dsimp only
                      refine hK.out _ _ (gs hHeld _) (fun hHeld => ?_)
                      clear hK K
                      try simp only [Act.put, List.setIfInBounds_toArray, List.set_cons_zero, List.set_cons_succ]
                      refine wpAnyH_done (by kernel_rfl) ?_ _
                      have hG8 : V5.grownBy (V5.setCell ⟨V4.heap.size, 0, none⟩ (.int .i64 qx)).drew (some V4.heap.size) := by with_reducible assumption
                      have hN8 := wn_x hN5 qx
                      generalize (V5.setCell ⟨V4.heap.size, 0, none⟩ (.int .i64 qx)).drew = V8 at *
                      clear c0 c1 c2 f0 f1 SM HXo hN5
                      obtain ⟨c0, c1, c2, f0, f1⟩ := id hN8
                      have SW1 : ∀ w', V8.grownBy w' (some V4.heap.size) → w'.cell? ⟨bD, od + 1, none⟩ = some (.slice (some ⟨bm, om, none⟩) (d 0).M mc) := fun _ h => SW _ (World.grownBy.trans hG8 h)
                      have SM2 : ∀ w', V8.grownBy w' (some V4.heap.size) → w'.cell? ⟨bm, om + m * 2 + 1, none⟩ = some (.int .i64 dy) := fun _ h => SM1.out _ (World.grownBy.trans hG8 h)
                      have HYo := HY.out
                      have hG8' := Lib.hid hG8
                      clear SW SM1 hG8 HY
                      go_upto_region 35 with (fail)
                      refine wp_region_held_drew (S := fun w' => V8.grownBy w' (some V4.heap.size)) (by kernel_rfl) (gd1 (gr _ _)) (fun hHeld => ?_)
                      refine wpAnyH_take (i := 0) (v := ?_) rfl (by kernel_rfl) (by kernel_rfl) (by kernel_rfl) (fun _ _ _ h => h) (Or.inl ⟨by rfl, ?_⟩) (by assumption) ?_
                      rotate_left
                      · intro w hSw; (try dsimp only at hSw); go_simp; try with_reducible rfl
                      try simp only [Act.put, List.setIfInBounds_toArray]
                      refine wpAnyH_take (i := 2) (v := ?_) rfl (by kernel_rfl) (by kernel_rfl) (by kernel_rfl) (fun _ _ _ h => h) (Or.inl ⟨by rfl, ?_⟩) (by assumption) ?_
                      rotate_left
                      · intro w hSw; (try dsimp only at hSw); go_simp; try with_reducible rfl
                      try simp only [Act.put]
                      refine wpAnyH_take (i := 3) (v := ?_) rfl (by kernel_rfl) (by kernel_rfl) (by kernel_rfl) (fun _ _ _ h => h) (Or.inl ⟨by rfl, ?_⟩) (by assumption) ?_
                      rotate_left
                      · intro w hSw; (try dsimp only at hSw); go_simp; try with_reducible rfl
                      try simp only [Act.put]
                      refine wpAnyH_take (i := 4) (v := ?_) rfl (by kernel_rfl) (by kernel_rfl) (by kernel_rfl) (fun _ _ _ h => h) (Or.inl ⟨by rfl, ?_⟩) (by assumption) ?_
                      rotate_left
                      · intro w hSw; (try dsimp only at hSw); go_simp; try with_reducible rfl
                      try simp only [Act.put]
                      refine wpAnyH_take (i := 5) (v := ?_) rfl (by kernel_rfl) (by kernel_rfl) (by kernel_rfl) (fun _ _ _ h => h) (Or.inl ⟨by rfl, ?_⟩) (by assumption) ?_
                      rotate_left
                      · intro w hSw; (try dsimp only at hSw); go_simp; try with_reducible rfl
                      try simp only [Act.put]
                      refine wpAnyH_take (i := 6) (v := ?_) rfl (by kernel_rfl) (by kernel_rfl) (by kernel_rfl) (fun _ _ _ h => h) (Or.inl ⟨by rfl, ?_⟩) (by assumption) ?_
                      rotate_left
                      · intro w hSw; (try dsimp only at hSw); go_simp; try with_reducible rfl
                      try simp only [Act.put]
                      refine wpAnyH_take (i := 7) (v := ?_) rfl (by kernel_rfl) (by kernel_rfl) (by kernel_rfl) (fun _ _ _ h => h) (Or.inl ⟨by rfl, ?_⟩) (by assumption) ?_
                      rotate_left
                      · intro w hSw; (try dsimp only at hSw); go_simp; try with_reducible rfl
                      try simp only [Act.put]
                      refine wpAnyH_take (i := 8) (v := ?_) rfl (by kernel_rfl) (by kernel_rfl) (by kernel_rfl) (fun _ _ _ h => h) (Or.inl ⟨by rfl, ?_⟩) (by assumption) ?_
                      rotate_left
                      · intro w hSw; (try dsimp only at hSw); go_simp; try with_reducible rfl
                      try simp only [Act.put]
                      refine wpAnyH_take (i := 9) (v := ?_) rfl (by kernel_rfl) (by kernel_rfl) (by kernel_rfl) (fun _ _ _ h => h) (Or.inl ⟨by rfl, ?_⟩) (by assumption) ?_
                      rotate_left
                      · intro w hSw; (try dsimp only at hSw); go_simp; try with_reducible rfl
                      try simp only [Act.put]
                      refine wpAnyH_ready (rs := [1]) (by kernel_rfl) (by simp) ?_
                      refine AllReadyH.cons rfl (fun K hK => ?_) AllReadyH.nil
                      go_simp
                      try dsimp only
                      refine hK.out _ _ (hHeld) (fun hHeld => ?_)
                      clear hK K
                      try simp only [Act.put, List.setIfInBounds_toArray, List.set_cons_zero, List.set_cons_succ]
                      refine wpAnyH_take (i := 10) (v := ?_) rfl (by kernel_rfl) (by kernel_rfl) (by kernel_rfl) (fun _ _ _ h => h) (Or.inl ⟨by rfl, ?_⟩) (by assumption) ?_
                      rotate_left
                      · intro w hSw; (try dsimp only at hSw); go_simp; try with_reducible rfl
                      try simp only [Act.put, List.setIfInBounds_toArray]
                      refine wpAnyH_take (i := 11) (v := ?_) rfl (by kernel_rfl) (by kernel_rfl) (by kernel_rfl) (fun _ _ _ h => h) (Or.inl ⟨by rfl, ?_⟩) (by assumption) ?_
                      rotate_left
                      · intro w hSw; (try dsimp only at hSw); go_simp; try with_reducible rfl
                      try simp only [Act.put]
                      refine wpAnyH_ready (rs := [12]) (by kernel_rfl) (by simp) ?_
                      refine AllReadyH.cons rfl (fun K hK => ?_) AllReadyH.nil
                      go_simp
                      try dsimp only
                      refine hK.out _ _ (gs hHeld _) (fun hHeld => ?_)
                      clear hK K
                      try simp only [Act.put, List.setIfInBounds_toArray, List.set_cons_zero, List.set_cons_succ]
                      refine wpAnyH_done (by kernel_rfl) ?_ _
                      have hG9 : V8.grownBy (V8.setCell ⟨V4.heap.size, 1, none⟩ (.int .i64 qy)).drew (some V4.heap.size) := by with_reducible assumption
                      have hN9 := wn_y hN8 qy
                      generalize (V8.setCell ⟨V4.heap.size, 1, none⟩ (.int .i64 qy)).drew = V9 at *
                      have hB9 : Below V4.heap.size V4 V9 := gB hB5 (World.grownBy.trans hG8'.out hG9) (Nat.le_refl _)
                      have hBI := bt hB hB9
                      obtain ⟨P0, G0, G1, G2⟩ := GG.out _ hB9
                      clear c0 c1 c2 f0 f1 SW1 SM2 HYo hN8 hG8' hG9 GG
                      obtain ⟨c0, c1, c2, f0, f1⟩ := hN9
                      have R := Lib.hid (fun q => hRi.out (V9.drewN q) m rfl (bd hBI q))
                      clear hRi hmm
                      go_upto_region 36 with (fail)
                      go_quiet (fail)
                      go_wp2_with fail
                      exact ⟨R.out _, ltn hin⟩
                    · obtain rfl : i = ns z := by omega
                      have R := Lib.hid (hRo.out _ _ rfl hB)
                      clear hRo hPM
                      generalize pre ns z + ns z = m at *
                      go_wp2_with fail
                      exact ⟨R.out, ltn hzN⟩
                · obtain rfl : z = oN' := by omega
                  have hend := bt hbwI hB
                  go_wp2_with fail
                  go_ret
                  exact ⟨rfl, hend⟩
end Go.Proofs.Ytcogoomajfahkaa.Ot
