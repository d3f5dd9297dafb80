/-
  Layer 6 (outline): Deltas of the document's own.
-/
import Derived.Test.YtcogoomajfahkaaOtDm
import Derived.Test.YtcogoomajfahkaaOtH
namespace Go.Proofs.Ytcogoomajfahkaa.Ot
open Go.RowKit
open Go.Proofs.Ytcogoomajfahkaa.Ax (Tns TA TnAt LA DW Next_w fit vt vts)
/-- Deltas of a call's own. -/
structure DO (w V : World) (v : Value) (k : Nat) (xs : List Value) (d : Nat → De) (Rb Mb : Nat → Nat) : Prop where
  ow : V.ownsRow w.heap.size 54 2 v k xs
  li : ∀ j, j < k → ∃ ra rc ma mc, xs[j * 2]? = some (.slice ra (d j).K rc) ∧ xs[j * 2 + 1]? = some (.slice ma (d j).M mc) ∧ (d j).K ≤ rc ∧ rc ≤ 9223372036854775807 ∧ (d j).M ≤ mc ∧ mc ≤ 9223372036854775807 ∧ (0 < (d j).K → ra = some ⟨Rb j, 0, none⟩) ∧ (0 < (d j).M → ma = some ⟨Mb j, 0, none⟩)
  rt : ∀ j, j < k → TP V (Rb j) (d j).K (d j).r
  mt : ∀ j, j < k → MP V (Mb j) (d j).M (d j).x (d j).y
  far : ∀ j, j < k → (0 < (d j).K → w.heap.size ≤ Rb j ∧ v.ownBlock ≠ some (Rb j)) ∧ (0 < (d j).M → w.heap.size ≤ Mb j ∧ v.ownBlock ≠ some (Mb j))
  be : Below w.heap.size w V
theorem do_nil (w : World) (d : Nat → De) : DO w w (.slice none 0 0) 0 [] d (fun _ => 0) (fun _ => 0) :=
  ⟨World.ownsRow_nil _ _ _ _, fun k hk => absurd hk (by omega), fun k hk => absurd hk (by omega), fun k hk => absurd hk (by omega), fun k hk => absurd hk (by omega), Below.refl _ _⟩
theorem do_below {w V V' : World} {v : Value} {k : Nat} {xs : List Value} {d : Nat → De} {Rb Mb : Nat → Nat} (h : DO w V v k xs d Rb Mb) (hB : Below V.heap.size V V') : DO w V' v k xs d Rb Mb :=
  ⟨own_keep h.ow hB, h.li, fun j hj => tp_below (h.rt j hj) hB, fun j hj => mp_below (h.mt j hj) hB, h.far, bt h.be hB⟩
theorem do_app {w V W W' : World} {v : Value} {k s cap : Nat} {xs : List Value} {d : Nat → De} {Rb Mb : Nat → Nat} {ra ma : Option Addr} {rc mc rb mb : Nat} {e : De} (h : DO w V v k xs d Rb Mb) (hVW : Below V.heap.size V W)
    (hr1 : e.K ≤ rc) (hr2 : rc ≤ 9223372036854775807) (hr3 : 0 < e.K → ra = some ⟨rb, 0, none⟩) (hr4 : 0 < e.K → V.heap.size ≤ rb) (hr5 : TP W rb e.K e.r)
    (hm1 : e.M ≤ mc) (hm2 : mc ≤ 9223372036854775807) (hm3 : 0 < e.M → ma = some ⟨mb, 0, none⟩) (hm4 : 0 < e.M → V.heap.size ≤ mb) (hm5 : MP W mb e.M e.x e.y)
    (hown : W'.ownsRow w.heap.size 54 2 (.slice (some ⟨s, 0, none⟩) (k + 1) cap) (k + 1) (xs ++ [.slice ra e.K rc, .slice ma e.M mc])) (hg : W.grownBy W' v.ownBlock) (hs : v.ownBlock = some s ∨ s = W.heap.size) :
    DO w W' (.slice (some ⟨s, 0, none⟩) (k + 1) cap) (k + 1) (xs ++ [.slice ra e.K rc, .slice ma e.M mc]) (fun j => if j = k then e else d j) (fun j => if j = k then rb else Rb j) (fun j => if j = k then mb else Mb j) := by
  have hlen : xs.length = k * 2 := h.ow.1
  have hrow : ∀ q, v.ownBlock = some q → w.heap.size ≤ q ∧ q < V.heap.size := fun q hq => h.ow.lt q hq
  have hw := h.be.size
  have hVs := hVW.size
  have hne : ∀ q, q < W.heap.size → v.ownBlock ≠ some q → (Value.slice (some ⟨s, 0, none⟩) (k + 1) cap).ownBlock ≠ some q := by
    intro q hq hq2 he
    have : s = q := by simpa [Value.ownBlock] using he
    subst this
    rcases hs with h1 | h1
    · exact hq2 h1
    · omega
  refine ⟨hown, fun j hj => ?_, fun j hj => ?_, fun j hj => ?_, fun j hj => ?_, gBo (bt h.be hVW) hg (fun q hq => (hrow q hq).1)⟩
  · by_cases e1 : j = k
    · subst e1
      simp only [if_true]
      exact ⟨ra, rc, ma, mc, by rw [List.getElem?_append_right (by omega), hlen, Nat.sub_self]; rfl, by rw [List.getElem?_append_right (by omega), hlen, show j * 2 + 1 - j * 2 = 1 by omega]; rfl, hr1, hr2, hm1, hm2, hr3, hm3⟩
    · simp only [if_neg e1]
      obtain ⟨a1, a2, a3, a4, h1, h2, h3⟩ := h.li j (by omega)
      exact ⟨a1, a2, a3, a4, by rw [List.getElem?_append_left (by omega)]; exact h1, by rw [List.getElem?_append_left (by omega)]; exact h2, h3⟩
  · by_cases e1 : j = k
    · subst e1
      simp only [if_true]
      exact tp_row hr5 hg (fun h0 hq => by have := (hrow rb hq).2; have := hr4 h0; omega)
    · simp only [if_neg e1]
      exact tp_row (tp_below (h.rt j (by omega)) hVW) hg (fun h0 => ((h.far j (by omega)).1 h0).2)
  · by_cases e1 : j = k
    · subst e1
      simp only [if_true]
      exact mp_row hm5 hg (fun h0 hq => by have := (hrow mb hq).2; have := hm4 h0; omega)
    · simp only [if_neg e1]
      exact mp_row (mp_below (h.mt j (by omega)) hVW) hg (fun h0 => ((h.far j (by omega)).2 h0).2)
  · by_cases e1 : j = k
    · subst e1
      simp only [if_true]
      refine ⟨fun h0 => ?_, fun h0 => ?_⟩
      · have hb := hr4 h0
        have hlt := block_lt_of_cell (hr5 0 h0).1
        exact ⟨by omega, hne rb hlt (fun hq => by have := (hrow rb hq).2; omega)⟩
      · have hb := hm4 h0
        have hlt := block_lt_of_cell (hm5 0 h0).1
        exact ⟨by omega, hne mb hlt (fun hq => by have := (hrow mb hq).2; omega)⟩
    · simp only [if_neg e1]
      obtain ⟨f1, f2⟩ := h.far j (by omega)
      refine ⟨fun h0 => ⟨(f1 h0).1, hne _ ?_ (f1 h0).2⟩, fun h0 => ⟨(f2 h0).1, hne _ ?_ (f2 h0).2⟩⟩
      · exact Nat.lt_of_lt_of_le (block_lt_of_cell (h.rt j (by omega) 0 h0).1) hVs
      · exact Nat.lt_of_lt_of_le (block_lt_of_cell (h.mt j (by omega) 0 h0).1) hVs
/-- What a value that owns deltas reads as. -/
theorem do_da {w V : World} {v : Value} {k : Nat} {xs : List Value} {d : Nat → De} {Rb Mb : Nat → Nat} (h : DO w V v k xs d Rb Mb) : ∃ (a : Option Addr) (c : Nat), v = .slice a k c ∧ k ≤ c ∧ c ≤ 9223372036854775807 ∧ DA V a k d := by
  rcases h.ow.2 with ⟨rfl, rfl⟩ | ⟨b, cap, cur, rfl, hb, hh, hkc, hcm, _⟩
  · exact ⟨none, 0, rfl, Nat.le_refl _, by omega, fun i hi => absurd hi (by omega)⟩
  · unfold maxLen at hcm
    refine ⟨some ⟨b, 0, none⟩, cap, rfl, hkc, by omega, fun i hi => ?_⟩
    obtain ⟨ra, rc, ma, mc, h1, h2, h3, h4, h5, h6, h7, h8⟩ := h.li i hi
    have hl := h.ow.1
    refine ⟨b, 0, ra, rc, ma, mc, rfl, by rw [Nat.zero_add, h.ow.cellAt _ (by omega)]; exact h1, by rw [Nat.zero_add, h.ow.cellAt _ (by omega)]; exact h2, h3, h4, h5, h6, fun j hj => ⟨Rb i, 0, h7 (by omega), by rw [Nat.zero_add]; exact h.rt i hi j hj⟩, fun j hj => ⟨Mb i, 0, h8 (by omega), by rw [Nat.zero_add]; exact h.mt i hi j hj⟩⟩
/-- What a made delta is like. -/
def okD (ax P : Nat) (e : De) : Prop := e.K = ax ∧ e.M = P ∧ (∀ i, i < ax → ∃ j, j < 6 ∧ e.r i = tn6 j) ∧ ∀ i, i < P → -8 ≤ e.x i ∧ e.x i ≤ 8 ∧ -8 ≤ e.y i ∧ e.y i ≤ 8
theorem di_ne {V0 V : World} {n₀ : Nat} {T : TypeId} {sz : Nat} {a : Option Addr} {L c : Nat} {l : Nat → Int} {v : Value} {k : Nat} {xs : List Value} {o o' : Nat} {u : Value} (h : DI V0 V n₀ T sz a L c l v k xs o o' u) : v.ownBlock ≠ some (V0.heap.size + 1) := fun e => by
  have := (h.ow.lt _ e).1
  have := h.n0.1
  omega
theorem news_two (W : World) (u v : Value) (T : TypeId) : ∀ j z, [u, v][j]? = some z → (W.alloc (.cells #[u, v] T)).cell? ((⟨W.heap.size, 0, none⟩ : Addr).add j) = some z := by
  intro j z hj
  match j, hj with
  | 0, hj => simp at hj; subst hj; simp [Addr.add]
  | 1, hj => simp at hj; subst hj; simp [Addr.add]
def okT (Q : List Tns) : Prop := ∀ i, i < Q.length → ∃ j, j < 6 ∧ Q.getD i t0 = tn6 j
def okM (Q : List (Int × Int)) : Prop := ∀ i, i < Q.length → -8 ≤ (Q.getD i (0, 0)).1 ∧ (Q.getD i (0, 0)).1 ≤ 8 ∧ -8 ≤ (Q.getD i (0, 0)).2 ∧ (Q.getD i (0, 0)).2 ≤ 8
theorem getD_app {α : Type} (Q : List α) (q z : α) (i : Nat) (h : i < (Q ++ [q]).length) : (i = Q.length ∧ (Q ++ [q]).getD i z = q) ∨ (i < Q.length ∧ (Q ++ [q]).getD i z = Q.getD i z) := by
  rw [List.length_append] at h
  simp only [List.length_cons, List.length_nil] at h
  by_cases e : i = Q.length
  · left
    refine ⟨e, ?_⟩
    rw [List.getD_eq_getElem?_getD, List.getElem?_append_right (by omega), e, Nat.sub_self]; rfl
  · right
    refine ⟨by omega, ?_⟩
    rw [List.getD_eq_getElem?_getD, List.getElem?_append_left (by omega), ← List.getD_eq_getElem?_getD]
theorem okT_next {Q : List Tns} (h : okT Q) {j : Nat} (hj : j < 6) : okT (Q ++ [tn6 j]) := fun i hi => by
  rcases getD_app Q (tn6 j) t0 i hi with ⟨_, e⟩ | ⟨h1, e⟩
  · exact ⟨j, hj, e⟩
  · rw [e]; exact h i h1
theorem okM_next {Q : List (Int × Int)} (h : okM Q) {q : Int × Int} (hq : -8 ≤ q.1 ∧ q.1 ≤ 8 ∧ -8 ≤ q.2 ∧ q.2 ≤ 8) : okM (Q ++ [q]) := fun i hi => by
  rcases getD_app Q q (0, 0) i hi with ⟨_, e⟩ | ⟨h1, e⟩
  · rw [e]; exact hq
  · rw [e]; exact h i h1
theorem sub8 {v : Nat} (h : (v : Int) < 17) : wrap64 ((v : Int) - 8) = (v : Int) - 8 := w6 ⟨by omega, by omega⟩
theorem in8 {p q : Nat} (h1 : (p : Int) < 17) (h2 : (q : Int) < 17) : -8 ≤ (p : Int) - 8 ∧ (p : Int) - 8 ≤ 8 ∧ -8 ≤ (q : Int) - 8 ∧ (q : Int) - 8 ≤ 8 := by omega
theorem lt6 {v : Nat} (h : (v : Int) < 6) : v < 6 := by omega
theorem sml {i n : Nat} (b : Nat) (hb : b ≤ 48) (h1 : i < n) (h2 : n ≤ 1000000) : i + 1 ≤ maxLen ∧ (i + 1) * b ≤ 140737488355328 := by
  refine ⟨by unfold maxLen; omega, Nat.le_trans (Nat.mul_le_mul (show i + 1 ≤ 1000000 by omega) hb) (by omega)⟩
/-- What stands behind some rounds. -/
def DsRel (w : World) (m ax P : Nat) (s7 s8 : Value) (V : World) : Prop := ∃ (k : Nat) (xs : List Value) (d : Nat → De) (Rb Mb : Nat → Nat), s8 = .int .i64 (k : Int) ∧ k ≤ m ∧ DO w V s7 k xs d Rb Mb ∧ ∀ j, j < k → okD ax P (d j)
def DtRel (V0 : World) (a : Option Addr) (L c : Nat) (l : Nat → Int) (ax : Nat) (v : Value) (V : World) : Prop := ∃ (i : Nat) (Q : List Tns) (vr : Value), v = .int .i64 (i : Int) ∧ i ≤ ax ∧ Q.length = i ∧ DI V0 V (V0.heap.size + 2) 70 3 a L c l vr i (tvals Q) 0 1 (.slice none 0 0) ∧ okT Q
def DvRel (V0 : World) (n₀ : Nat) (a : Option Addr) (L c : Nat) (l : Nat → Int) (P : Nat) (u : Value) (rb K : Nat) (r : Nat → Tns) (v : Value) (V : World) : Prop := ∃ (i : Nat) (Q : List (Int × Int)) (vm : Value), v = .int .i64 (i : Int) ∧ i ≤ P ∧ Q.length = i ∧ DI V0 V n₀ 39 2 a L c l vm i (mvals Q) 1 0 u ∧ TP V rb K r ∧ okM Q
set_option maxRecDepth 100000 in
set_option maxHeartbeats 16000000 in
theorem Deltas_any (oa : Option Addr) (oN oc : Nat) (ns : Nat → Nat) (g : Nat → Nat → Pt) (la : Option Addr) (N c : Nat) (L : Nat → Nat) (l : Nat → Nat → Int) (ax : Nat) (hax : ax ≤ 3) (hoN : oN ≤ 1000000) (hP : pre ns oN ≤ 1000000) (w : World) (hO : OT w oa oN ns g) (hA : LX w la N L l) :
    Calls Try.prog 46 #[.slice oa oN oc, .slice la N c, .int .i64 (ax : Int)] w fun e w' => ∃ v xs d Rb Mb, e = .returned v ∧ DO w w' v (min N 3) xs d Rb Mb ∧ ∀ j, j < min N 3 → okD ax (pre ns oN) (d j) := by
  have HA := Lib.hid hA
  have CO := Lib.hid (fun V h => rCount_any oa oN oc ns g hoN hP V (ot_below hO h))
  obtain ⟨i0, ki1, ki2, ki3, ki4⟩ := info_parts infoT
  obtain ⟨i1, li1, li2, li3, li4⟩ := info_parts infoM
  obtain ⟨i2, mi1, mi2, mi3, mi4⟩ := info_parts infoD
  have KI := Lib.hid (And.intro ki1 (And.intro ki2 (And.intro ki3 ki4)))
  have KJ := Lib.hid (And.intro li1 (And.intro li2 (And.intro li3 li4)))
  have KK := Lib.hid (And.intro mi1 (And.intro mi2 (And.intro mi3 mi4)))
  have HPp := Lib.hid hP
  have Hax := Lib.hid hax
  generalize pre ns oN = P at *
  clear hA hO ki1 ki2 ki3 ki4 li1 li2 li3 li4 mi1 mi2 mi3 mi4 hP hax hoN
  obtain ⟨m, hm⟩ : ∃ m, min N 3 = m := ⟨_, rfl⟩
  rw [hm]
  have Hm := Lib.hid hm
  clear hm
  go_enter Try.func46, Try.ntmps46
  go_wp2_with fail
  go_loopw [7, 8] (fun s7 s8 V => DsRel w m ax P s7 s8 V) (fun _ s8 _ => m - (intOf s8).toNat)
  case atStart => exact ⟨0, [], fun _ => ⟨0, fun _ => t0, 0, fun _ => 0, fun _ => 0⟩, fun _ => 0, fun _ => 0, rfl, Nat.zero_le _, do_nil w _, fun j hj => absurd hj (Nat.not_lt_zero j)⟩
  case round =>
    obtain ⟨k, xs, d, Rb, Mb, rfl, hk, hD, hok⟩ := hrel
    rename World => V
    rcases Nat.lt_or_ge k m with hkm | hkm
    · have hkN : k < N ∧ k < 3 := by
        have := Hm.out
        omega
      obtain ⟨b, off, a', c', rfl, hc, h1, h2, hp, hr⟩ := lx_below HA.out hD.be k hkN.1
      have hne : ∀ q, a' = some q → 0 < L k → q.block ≠ V.heap.size := by
        intro q hq h0
        obtain ⟨b, o, e, hc⟩ := hp 0 h0
        rw [hq] at e
        cases e
        have := block_lt_of_cell hc
        simp only at this ⊢
        omega
      have NX : Hid (∀ (n : Int), 1 ≤ n → n ≤ 1000000 → ∀ V', DW V' V.heap.size a' (L k) c' (l k) → _) := Lib.hid (fun n h3 h4 V' h => Next_w V.heap.size a' (L k) c' (l k) n ⟨h3, h4⟩ (by omega) hr hne V' h)
      have N6 := Lib.hid (NX.out 6 (by omega) (by omega))
      have N17 := Lib.hid (NX.out 17 (by omega) (by omega))
      have HL := Lib.hid hp
      have k2 := nat0 k
      have k3 := natlt hkN.1
      have k4 : (k : Int) < 3 := natlt hkN.2
      have hVs := hD.be.size
      have HD := Lib.hid hD
      have HOK := Lib.hid hok
      have hDI : DI V ((V.alloc (.cells #[.slice a' (L k) c', .int .i64 0] 76)).alloc (.cells #[.slice none 0 0, .slice none 0 0] 54)) (V.heap.size + 2) 70 3 a' (L k) c' (l k) (.slice none 0 0) 0 (tvals []) 0 1 (.slice none 0 0) :=
        ⟨⟨⟨0, by omega, ⟨by go_cell, by go_cell, by go_cell⟩⟩, Ax.la_below hp (ba (ba (Below.refl _ _) _) _)⟩, ⟨by simp [tvals], .inl ⟨rfl, rfl⟩⟩, by go_cell, by go_cell, by go_cell, by go_cell, ba (ba (Below.refl _ _) _) _, ⟨Nat.le_refl _, by simp⟩⟩
      clear NX hp hr hne hD hok hkN
      go_wp2_with fail
      generalize ((V.alloc (.cells #[.slice a' (L k) c', .int .i64 0] 76)).alloc (.cells #[.slice none 0 0, .slice none 0 0] 54)) = V1 at *
      go_loopw [11] (fun v V' => DtRel V a' (L k) c' (l k) ax v V') (fun v _ => ax - (intOf v).toNat)
      case atStart => exact ⟨0, [], _, rfl, Nat.zero_le _, rfl, hDI, fun i hi => absurd hi (Nat.not_lt_zero i)⟩
      case round =>
        clear hDI
        obtain ⟨i, Q, vr, rfl, hi, hQl, hDI, hQ⟩ := hrel
        rename World => V2
        rcases Nat.lt_or_ge i ax with hin | hin
        · have i2 := nat0 i
          have i3 := natlt hin
          have hR : Hid (∀ (v' : Value) (V' : World) (xs' : List Value) (j : Nat), j < 6 → xs' = tvals Q ++ tnVs (tn6 j) → DI V V' (V.heap.size + 2) 70 3 a' (L k) c' (l k) v' (i + 1) xs' 0 1 (.slice none 0 0) → DtRel V a' (L k) c' (l k) ax (.int .i64 ((i : Int) + 1)) V') :=
            Lib.hid (fun v' V' xs' j h3 h4 h5 => ⟨i + 1, Q ++ [tn6 j], v', rfl, hin, by rw [List.length_append, hQl]; rfl, by rw [tvals_app]; rw [h4] at h5; simpa [tvals] using h5, okT_next hQ h3⟩)
          obtain ⟨ki1, ki2, ki3, ki4⟩ := KI.out
          obtain ⟨sm1, sm2⟩ := sml 24 (Nat.le_of_ble_eq_true rfl) hin (Nat.le_trans Hax.out (Nat.le_of_ble_eq_true rfl))
          have hc0 := hDI.cl
          go_upto_region 10 with (fail)
          clear hin hi hQ
          have hDI1 := di_drew hDI
          refine wp_region_held_drew (S := fun _ => True) (by kernel_rfl) trivial (fun hHeld => ?_)
          refine wpAnyH_take (i := 0) (v := ?_) rfl (by kernel_rfl) (by kernel_rfl) (by kernel_rfl) (fun _ _ _ h => h) (Or.inl ⟨by rfl, ?_⟩) (by assumption) ?_
          rotate_left
          · intro w hSw; (try dsimp only at hSw); go_simp; try with_reducible rfl
          try simp only [Act.put, List.setIfInBounds_toArray]
          refine wpAnyH_take (i := 3) (v := ?_) rfl (by kernel_rfl) (by kernel_rfl) (by kernel_rfl) (fun _ _ _ h => h) (Or.inl ⟨by rfl, ?_⟩) (by assumption) ?_
          rotate_left
          · intro w hSw; (try dsimp only at hSw); go_simp; try with_reducible rfl
          try simp only [Act.put]
          refine wpAnyH_ready (rs := [1, 2]) (by kernel_rfl) (by simp) ?_
          refine AllReadyH.cons rfl (fun K hK => ?_) (AllReadyH.cons rfl (fun K hK => ?_) AllReadyH.nil)
          · go_simp
            try dsimp only
            refine hK.out _ _ (trivial) (fun hHeld => ?_)
            clear hK K
            try simp only [Act.put, List.setIfInBounds_toArray, List.set_cons_zero, List.set_cons_succ]
            refine wpAnyH_ready (rs := [2]) (by kernel_rfl) (by simp) ?_
            refine AllReadyH.cons rfl (fun K hK => ?_) AllReadyH.nil
            go_simp
            refine (tents_any _).mono ?_
            rintro e W1 ⟨bt6, rfl, hbt, hT6, hb1⟩
            try dsimp only
            refine hK.out _ _ (trivial) (fun hHeld => ?_)
            clear hK K
            try simp only [Act.put, List.setIfInBounds_toArray, List.set_cons_zero, List.set_cons_succ]
            have hDI2 := di_below hDI1 hb1
            have hc2 := hDI2.cl
            refine wpAnyH_ready (rs := [4]) (by kernel_rfl) (by simp) ?_
            refine AllReadyH.cons rfl (fun K hK => ?_) AllReadyH.nil
            go_simp
            refine (N6.out _ hDI2.dw).mono ?_
            rintro e W2 ⟨v6, rfl, hv6, hd, hg⟩
            try dsimp only
            refine hK.out _ _ (trivial) (fun hHeld => ?_)
            clear hK K
            try simp only [Act.put, List.setIfInBounds_toArray, List.set_cons_zero, List.set_cons_succ]
            have hDI3 := di_next hDI2 hd hg
            have hc3 := hDI3.cl
            have hvl := lt6 hv6
            have v60 := nat0 v6
            have hq6 := hDI1.be.size
            obtain ⟨t1, t2, t3⟩ := tp_row hT6 hg (fun _ e => by injection e with e; have := hDI1.n0; omega) v6 hvl
            have hX3 := di_below hDI3 (ba (Below.refl _ _) (.cells #[.int .i64 (tn6 v6).l, .int .i64 (tn6 v6).p, .int .i64 (tn6 v6).h] 70))
            have hc4 := hX3.cl
            have NW := news_tn W2 (tn6 v6) 70
            have hn3 := hX3.n0.2
            refine wpAnyH_take (i := 5) (v := ?_) rfl (by kernel_rfl) (by kernel_rfl) (by kernel_rfl) (fun _ _ _ h => h) (Or.inl ⟨by rfl, ?_⟩) (by assumption) ?_
            rotate_left
            · intro w hSw; (try dsimp only at hSw); go_simp; try with_reducible rfl
            try simp only [Act.put, List.setIfInBounds_toArray]
            refine wpAnyH_ready (rs := [6]) (by kernel_rfl) (by simp) ?_
            refine AllReadyH.cons rfl (fun K hK => ?_) AllReadyH.nil
            go_simp
            try dsimp only
            refine hK.out _ _ (trivial) (fun hHeld => ?_)
            clear hK K
            try simp only [Act.put, List.setIfInBounds_toArray, List.set_cons_zero, List.set_cons_succ]
            refine wpAnyH_ready (rs := [7]) (by kernel_rfl) (by simp) ?_
            refine AllReadyH.cons rfl (fun K hK => ?_) AllReadyH.nil
            go_simp
            try dsimp only
            refine hK.out _ _ (trivial) (fun hHeld => ?_)
            clear hK K
            try simp only [Act.put, List.setIfInBounds_toArray, List.set_cons_zero, List.set_cons_succ]
            refine wpAnyH_ready (rs := [8]) (by kernel_rfl) (by simp) ?_
            refine AllReadyH.cons rfl (fun K hK => ?_) AllReadyH.nil
            refine step_append_lies _ (by rfl) _ _ 51 (by rfl) (V.heap.size + 2) 70 i0 _ 3 24 Try.underlying51 ki1 ki2 ki3 ki4 rfl (by decide) _ i _ (by rfl) hX3.ow ⟨W2.heap.size, 0, none⟩ 1 1 (tnVs (tn6 v6)) (by rfl) rfl NW (by intro u hu; simp [tnVs] at hu; rcases hu with rfl | rfl | rfl <;> rfl) (Nat.succ_pos 0) sm1 sm2 hn3 _ rfl ?_
            intro g9 cap9 W9 hown9 hgrow9 hat9 hlt9
            try dsimp only
            refine hK.out _ _ (trivial) (fun hHeld => ?_)
            clear hK K
            try simp only [Act.put, List.setIfInBounds_toArray]
            have hDI9 := di_app hX3 HL.out hown9 hgrow9 (Nat.zero_ne_one)
            have R := Lib.hid (hR.out _ _ _ v6 hvl rfl hDI9)
            have s0 := far hgrow9 (di_ne hX3) hX3.cl
            have s1 : W9.frozen? ⟨V.heap.size + 1, 0, none⟩ = false := by rw [hgrow9.frozen_far ⟨V.heap.size + 1, 0, none⟩ (block_lt_of_cell hX3.cl) (fun e => di_ne hX3 e.symm)]; exact hX3.fz
            clear hown9 hgrow9 hat9 hDI9 hR hX3 hDI3 hDI2 hDI1 NW
            refine wpAnyH_take (i := 9) (v := ?_) rfl (by kernel_rfl) (by kernel_rfl) (by kernel_rfl) (fun _ _ _ h => h) (Or.inl ⟨by rfl, ?_⟩) (by assumption) ?_
            rotate_left
            · intro w hSw; (try dsimp only at hSw); go_simp; try with_reducible rfl
            try simp only [Act.put]
            refine wpAnyH_ready (rs := [10]) (by kernel_rfl) (by simp) ?_
            refine AllReadyH.cons rfl (fun K hK => ?_) AllReadyH.nil
            go_simp
            try dsimp only
            refine hK.out _ _ (trivial) (fun hHeld => ?_)
            clear hK K
            try simp only [Act.put, List.setIfInBounds_toArray, List.set_cons_zero, List.set_cons_succ]
            refine wpAnyH_done (by kernel_rfl) ?_ _
            clear t1 t2 t3 hT6
            go_wp2_with fail
            exact ⟨R.out, ltn (Int.ofNat_lt.1 i3)⟩
          · go_simp
            refine (tents_any _).mono ?_
            rintro e W1 ⟨bt6, rfl, hbt, hT6, hb1⟩
            try dsimp only
            refine hK.out _ _ (trivial) (fun hHeld => ?_)
            clear hK K
            try simp only [Act.put, List.setIfInBounds_toArray, List.set_cons_zero, List.set_cons_succ]
            have hDI2 := di_below hDI1 hb1
            have hc2 := hDI2.cl
            refine wpAnyH_ready (rs := [1, 4]) (by kernel_rfl) (by simp) ?_
            refine AllReadyH.cons rfl (fun K hK => ?_) (AllReadyH.cons rfl (fun K hK => ?_) AllReadyH.nil)
            · go_simp
              try dsimp only
              refine hK.out _ _ (trivial) (fun hHeld => ?_)
              clear hK K
              try simp only [Act.put, List.setIfInBounds_toArray, List.set_cons_zero, List.set_cons_succ]
              refine wpAnyH_ready (rs := [4]) (by kernel_rfl) (by simp) ?_
              refine AllReadyH.cons rfl (fun K hK => ?_) AllReadyH.nil
              go_simp
              refine (N6.out _ hDI2.dw).mono ?_
              rintro e W2 ⟨v6, rfl, hv6, hd, hg⟩
              try dsimp only
              refine hK.out _ _ (trivial) (fun hHeld => ?_)
              clear hK K
              try simp only [Act.put, List.setIfInBounds_toArray, List.set_cons_zero, List.set_cons_succ]
              have hDI3 := di_next hDI2 hd hg
              have hc3 := hDI3.cl
              have hvl := lt6 hv6
              have v60 := nat0 v6
              have hq6 := hDI1.be.size
              obtain ⟨t1, t2, t3⟩ := tp_row hT6 hg (fun _ e => by injection e with e; have := hDI1.n0; omega) v6 hvl
              have hX3 := di_below hDI3 (ba (Below.refl _ _) (.cells #[.int .i64 (tn6 v6).l, .int .i64 (tn6 v6).p, .int .i64 (tn6 v6).h] 70))
              have hc4 := hX3.cl
              have NW := news_tn W2 (tn6 v6) 70
              have hn3 := hX3.n0.2
              refine wpAnyH_take (i := 5) (v := ?_) rfl (by kernel_rfl) (by kernel_rfl) (by kernel_rfl) (fun _ _ _ h => h) (Or.inl ⟨by rfl, ?_⟩) (by assumption) ?_
              rotate_left
              · intro w hSw; (try dsimp only at hSw); go_simp; try with_reducible rfl
              try simp only [Act.put, List.setIfInBounds_toArray]
              refine wpAnyH_ready (rs := [6]) (by kernel_rfl) (by simp) ?_
              refine AllReadyH.cons rfl (fun K hK => ?_) AllReadyH.nil
              go_simp
              try dsimp only
              refine hK.out _ _ (trivial) (fun hHeld => ?_)
              clear hK K
              try simp only [Act.put, List.setIfInBounds_toArray, List.set_cons_zero, List.set_cons_succ]
              refine wpAnyH_ready (rs := [7]) (by kernel_rfl) (by simp) ?_
              refine AllReadyH.cons rfl (fun K hK => ?_) AllReadyH.nil
              go_simp
              try dsimp only
              refine hK.out _ _ (trivial) (fun hHeld => ?_)
              clear hK K
              try simp only [Act.put, List.setIfInBounds_toArray, List.set_cons_zero, List.set_cons_succ]
              refine wpAnyH_ready (rs := [8]) (by kernel_rfl) (by simp) ?_
              refine AllReadyH.cons rfl (fun K hK => ?_) AllReadyH.nil
              refine step_append_lies _ (by rfl) _ _ 51 (by rfl) (V.heap.size + 2) 70 i0 _ 3 24 Try.underlying51 ki1 ki2 ki3 ki4 rfl (by decide) _ i _ (by rfl) hX3.ow ⟨W2.heap.size, 0, none⟩ 1 1 (tnVs (tn6 v6)) (by rfl) rfl NW (by intro u hu; simp [tnVs] at hu; rcases hu with rfl | rfl | rfl <;> rfl) (Nat.succ_pos 0) sm1 sm2 hn3 _ rfl ?_
              intro g9 cap9 W9 hown9 hgrow9 hat9 hlt9
              try dsimp only
              refine hK.out _ _ (trivial) (fun hHeld => ?_)
              clear hK K
              try simp only [Act.put, List.setIfInBounds_toArray]
              have hDI9 := di_app hX3 HL.out hown9 hgrow9 (Nat.zero_ne_one)
              have R := Lib.hid (hR.out _ _ _ v6 hvl rfl hDI9)
              have s0 := far hgrow9 (di_ne hX3) hX3.cl
              have s1 : W9.frozen? ⟨V.heap.size + 1, 0, none⟩ = false := by rw [hgrow9.frozen_far ⟨V.heap.size + 1, 0, none⟩ (block_lt_of_cell hX3.cl) (fun e => di_ne hX3 e.symm)]; exact hX3.fz
              clear hown9 hgrow9 hat9 hDI9 hR hX3 hDI3 hDI2 hDI1 NW
              refine wpAnyH_take (i := 9) (v := ?_) rfl (by kernel_rfl) (by kernel_rfl) (by kernel_rfl) (fun _ _ _ h => h) (Or.inl ⟨by rfl, ?_⟩) (by assumption) ?_
              rotate_left
              · intro w hSw; (try dsimp only at hSw); go_simp; try with_reducible rfl
              try simp only [Act.put]
              refine wpAnyH_ready (rs := [10]) (by kernel_rfl) (by simp) ?_
              refine AllReadyH.cons rfl (fun K hK => ?_) AllReadyH.nil
              go_simp
              try dsimp only
              refine hK.out _ _ (trivial) (fun hHeld => ?_)
              clear hK K
              try simp only [Act.put, List.setIfInBounds_toArray, List.set_cons_zero, List.set_cons_succ]
              refine wpAnyH_done (by kernel_rfl) ?_ _
              clear t1 t2 t3 hT6
              go_wp2_with fail
              exact ⟨R.out, ltn (Int.ofNat_lt.1 i3)⟩
            · go_simp
              refine (N6.out _ hDI2.dw).mono ?_
              rintro e W2 ⟨v6, rfl, hv6, hd, hg⟩
              try dsimp only
              refine hK.out _ _ (trivial) (fun hHeld => ?_)
              clear hK K
              try simp only [Act.put, List.setIfInBounds_toArray, List.set_cons_zero, List.set_cons_succ]
              have hDI3 := di_next hDI2 hd hg
              have hc3 := hDI3.cl
              have hvl := lt6 hv6
              have v60 := nat0 v6
              have hq6 := hDI1.be.size
              obtain ⟨t1, t2, t3⟩ := tp_row hT6 hg (fun _ e => by injection e with e; have := hDI1.n0; omega) v6 hvl
              have hX3 := di_below hDI3 (ba (Below.refl _ _) (.cells #[.int .i64 (tn6 v6).l, .int .i64 (tn6 v6).p, .int .i64 (tn6 v6).h] 70))
              have hc4 := hX3.cl
              have NW := news_tn W2 (tn6 v6) 70
              have hn3 := hX3.n0.2
              refine wpAnyH_take (i := 5) (v := ?_) rfl (by kernel_rfl) (by kernel_rfl) (by kernel_rfl) (fun _ _ _ h => h) (Or.inl ⟨by rfl, ?_⟩) (by assumption) ?_
              rotate_left
              · intro w hSw; (try dsimp only at hSw); go_simp; try with_reducible rfl
              try simp only [Act.put, List.setIfInBounds_toArray]
              refine wpAnyH_ready (rs := [1, 6]) (by kernel_rfl) (by simp) ?_
              refine AllReadyH.cons rfl (fun K hK => ?_) (AllReadyH.cons rfl (fun K hK => ?_) AllReadyH.nil)
              · go_simp
                try dsimp only
                refine hK.out _ _ (trivial) (fun hHeld => ?_)
                clear hK K
                try simp only [Act.put, List.setIfInBounds_toArray, List.set_cons_zero, List.set_cons_succ]
                refine wpAnyH_ready (rs := [6]) (by kernel_rfl) (by simp) ?_
                refine AllReadyH.cons rfl (fun K hK => ?_) AllReadyH.nil
                go_simp
                try dsimp only
                refine hK.out _ _ (trivial) (fun hHeld => ?_)
                clear hK K
                try simp only [Act.put, List.setIfInBounds_toArray, List.set_cons_zero, List.set_cons_succ]
                refine wpAnyH_ready (rs := [7]) (by kernel_rfl) (by simp) ?_
                refine AllReadyH.cons rfl (fun K hK => ?_) AllReadyH.nil
                go_simp
                try dsimp only
                refine hK.out _ _ (trivial) (fun hHeld => ?_)
                clear hK K
                try simp only [Act.put, List.setIfInBounds_toArray, List.set_cons_zero, List.set_cons_succ]
                refine wpAnyH_ready (rs := [8]) (by kernel_rfl) (by simp) ?_
                refine AllReadyH.cons rfl (fun K hK => ?_) AllReadyH.nil
                refine step_append_lies _ (by rfl) _ _ 51 (by rfl) (V.heap.size + 2) 70 i0 _ 3 24 Try.underlying51 ki1 ki2 ki3 ki4 rfl (by decide) _ i _ (by rfl) hX3.ow ⟨W2.heap.size, 0, none⟩ 1 1 (tnVs (tn6 v6)) (by rfl) rfl NW (by intro u hu; simp [tnVs] at hu; rcases hu with rfl | rfl | rfl <;> rfl) (Nat.succ_pos 0) sm1 sm2 hn3 _ rfl ?_
                intro g9 cap9 W9 hown9 hgrow9 hat9 hlt9
                try dsimp only
                refine hK.out _ _ (trivial) (fun hHeld => ?_)
                clear hK K
                try simp only [Act.put, List.setIfInBounds_toArray]
                have hDI9 := di_app hX3 HL.out hown9 hgrow9 (Nat.zero_ne_one)
                have R := Lib.hid (hR.out _ _ _ v6 hvl rfl hDI9)
                have s0 := far hgrow9 (di_ne hX3) hX3.cl
                have s1 : W9.frozen? ⟨V.heap.size + 1, 0, none⟩ = false := by rw [hgrow9.frozen_far ⟨V.heap.size + 1, 0, none⟩ (block_lt_of_cell hX3.cl) (fun e => di_ne hX3 e.symm)]; exact hX3.fz
                clear hown9 hgrow9 hat9 hDI9 hR hX3 hDI3 hDI2 hDI1 NW
                refine wpAnyH_take (i := 9) (v := ?_) rfl (by kernel_rfl) (by kernel_rfl) (by kernel_rfl) (fun _ _ _ h => h) (Or.inl ⟨by rfl, ?_⟩) (by assumption) ?_
                rotate_left
                · intro w hSw; (try dsimp only at hSw); go_simp; try with_reducible rfl
                try simp only [Act.put]
                refine wpAnyH_ready (rs := [10]) (by kernel_rfl) (by simp) ?_
                refine AllReadyH.cons rfl (fun K hK => ?_) AllReadyH.nil
                go_simp
                try dsimp only
                refine hK.out _ _ (trivial) (fun hHeld => ?_)
                clear hK K
                try simp only [Act.put, List.setIfInBounds_toArray, List.set_cons_zero, List.set_cons_succ]
                refine wpAnyH_done (by kernel_rfl) ?_ _
                clear t1 t2 t3 hT6
                go_wp2_with fail
                exact ⟨R.out, ltn (Int.ofNat_lt.1 i3)⟩
              · go_simp
                try dsimp only
                refine hK.out _ _ (trivial) (fun hHeld => ?_)
                clear hK K
                try simp only [Act.put, List.setIfInBounds_toArray, List.set_cons_zero, List.set_cons_succ]
                refine wpAnyH_ready (rs := [1, 7]) (by kernel_rfl) (by simp) ?_
                refine AllReadyH.cons rfl (fun K hK => ?_) (AllReadyH.cons rfl (fun K hK => ?_) AllReadyH.nil)
                · go_simp
                  try dsimp only
                  refine hK.out _ _ (trivial) (fun hHeld => ?_)
                  clear hK K
                  try simp only [Act.put, List.setIfInBounds_toArray, List.set_cons_zero, List.set_cons_succ]
                  refine wpAnyH_ready (rs := [7]) (by kernel_rfl) (by simp) ?_
                  refine AllReadyH.cons rfl (fun K hK => ?_) AllReadyH.nil
                  go_simp
                  try dsimp only
                  refine hK.out _ _ (trivial) (fun hHeld => ?_)
                  clear hK K
                  try simp only [Act.put, List.setIfInBounds_toArray, List.set_cons_zero, List.set_cons_succ]
                  refine wpAnyH_ready (rs := [8]) (by kernel_rfl) (by simp) ?_
                  refine AllReadyH.cons rfl (fun K hK => ?_) AllReadyH.nil
                  refine step_append_lies _ (by rfl) _ _ 51 (by rfl) (V.heap.size + 2) 70 i0 _ 3 24 Try.underlying51 ki1 ki2 ki3 ki4 rfl (by decide) _ i _ (by rfl) hX3.ow ⟨W2.heap.size, 0, none⟩ 1 1 (tnVs (tn6 v6)) (by rfl) rfl NW (by intro u hu; simp [tnVs] at hu; rcases hu with rfl | rfl | rfl <;> rfl) (Nat.succ_pos 0) sm1 sm2 hn3 _ rfl ?_
                  intro g9 cap9 W9 hown9 hgrow9 hat9 hlt9
                  try dsimp only
                  refine hK.out _ _ (trivial) (fun hHeld => ?_)
                  clear hK K
                  try simp only [Act.put, List.setIfInBounds_toArray]
                  have hDI9 := di_app hX3 HL.out hown9 hgrow9 (Nat.zero_ne_one)
                  have R := Lib.hid (hR.out _ _ _ v6 hvl rfl hDI9)
                  have s0 := far hgrow9 (di_ne hX3) hX3.cl
                  have s1 : W9.frozen? ⟨V.heap.size + 1, 0, none⟩ = false := by rw [hgrow9.frozen_far ⟨V.heap.size + 1, 0, none⟩ (block_lt_of_cell hX3.cl) (fun e => di_ne hX3 e.symm)]; exact hX3.fz
                  clear hown9 hgrow9 hat9 hDI9 hR hX3 hDI3 hDI2 hDI1 NW
                  refine wpAnyH_take (i := 9) (v := ?_) rfl (by kernel_rfl) (by kernel_rfl) (by kernel_rfl) (fun _ _ _ h => h) (Or.inl ⟨by rfl, ?_⟩) (by assumption) ?_
                  rotate_left
                  · intro w hSw; (try dsimp only at hSw); go_simp; try with_reducible rfl
                  try simp only [Act.put]
                  refine wpAnyH_ready (rs := [10]) (by kernel_rfl) (by simp) ?_
                  refine AllReadyH.cons rfl (fun K hK => ?_) AllReadyH.nil
                  go_simp
                  try dsimp only
                  refine hK.out _ _ (trivial) (fun hHeld => ?_)
                  clear hK K
                  try simp only [Act.put, List.setIfInBounds_toArray, List.set_cons_zero, List.set_cons_succ]
                  refine wpAnyH_done (by kernel_rfl) ?_ _
                  clear t1 t2 t3 hT6
                  go_wp2_with fail
                  exact ⟨R.out, ltn (Int.ofNat_lt.1 i3)⟩
                · go_simp
                  try dsimp only
                  refine hK.out _ _ (trivial) (fun hHeld => ?_)
                  clear hK K
                  try simp only [Act.put, List.setIfInBounds_toArray, List.set_cons_zero, List.set_cons_succ]
                  refine wpAnyH_ready (rs := [1]) (by kernel_rfl) (by simp) ?_
                  refine AllReadyH.cons rfl (fun K hK => ?_) AllReadyH.nil
                  go_simp
                  try dsimp only
                  refine hK.out _ _ (trivial) (fun hHeld => ?_)
                  clear hK K
                  try simp only [Act.put, List.setIfInBounds_toArray, List.set_cons_zero, List.set_cons_succ]
                  refine wpAnyH_ready (rs := [8]) (by kernel_rfl) (by simp) ?_
                  refine AllReadyH.cons rfl (fun K hK => ?_) AllReadyH.nil
                  refine step_append_lies _ (by rfl) _ _ 51 (by rfl) (V.heap.size + 2) 70 i0 _ 3 24 Try.underlying51 ki1 ki2 ki3 ki4 rfl (by decide) _ i _ (by rfl) hX3.ow ⟨W2.heap.size, 0, none⟩ 1 1 (tnVs (tn6 v6)) (by rfl) rfl NW (by intro u hu; simp [tnVs] at hu; rcases hu with rfl | rfl | rfl <;> rfl) (Nat.succ_pos 0) sm1 sm2 hn3 _ rfl ?_
                  intro g9 cap9 W9 hown9 hgrow9 hat9 hlt9
                  try dsimp only
                  refine hK.out _ _ (trivial) (fun hHeld => ?_)
                  clear hK K
                  try simp only [Act.put, List.setIfInBounds_toArray]
                  have hDI9 := di_app hX3 HL.out hown9 hgrow9 (Nat.zero_ne_one)
                  have R := Lib.hid (hR.out _ _ _ v6 hvl rfl hDI9)
                  have s0 := far hgrow9 (di_ne hX3) hX3.cl
                  have s1 : W9.frozen? ⟨V.heap.size + 1, 0, none⟩ = false := by rw [hgrow9.frozen_far ⟨V.heap.size + 1, 0, none⟩ (block_lt_of_cell hX3.cl) (fun e => di_ne hX3 e.symm)]; exact hX3.fz
                  clear hown9 hgrow9 hat9 hDI9 hR hX3 hDI3 hDI2 hDI1 NW
                  refine wpAnyH_take (i := 9) (v := ?_) rfl (by kernel_rfl) (by kernel_rfl) (by kernel_rfl) (fun _ _ _ h => h) (Or.inl ⟨by rfl, ?_⟩) (by assumption) ?_
                  rotate_left
                  · intro w hSw; (try dsimp only at hSw); go_simp; try with_reducible rfl
                  try simp only [Act.put]
                  refine wpAnyH_ready (rs := [10]) (by kernel_rfl) (by simp) ?_
                  refine AllReadyH.cons rfl (fun K hK => ?_) AllReadyH.nil
                  go_simp
                  try dsimp only
                  refine hK.out _ _ (trivial) (fun hHeld => ?_)
                  clear hK K
                  try simp only [Act.put, List.setIfInBounds_toArray, List.set_cons_zero, List.set_cons_succ]
                  refine wpAnyH_done (by kernel_rfl) ?_ _
                  clear t1 t2 t3 hT6
                  go_wp2_with fail
                  exact ⟨R.out, ltn (Int.ofNat_lt.1 i3)⟩
        · obtain rfl : i = ax := by omega
          go_wp2_with fail
          have hown3 : V2.ownsRow (V.heap.size + 2) 70 3 vr Q.length (tvals Q) := by rw [hQl]; exact hDI.ow
          obtain ⟨ra, rc, rb, rfl, q1, q2, q3, q4, q5⟩ := own_tp hown3
          rw [hQl] at q1 q3 q4 q5
          have hdi2 : DI V V2 V2.heap.size 39 2 a' (L k) c' (l k) (.slice none 0 0) 0 (mvals []) 1 0 (.slice ra i rc) :=
            ⟨hDI.dw, ⟨by simp [mvals], .inl ⟨rfl, rfl⟩⟩, hDI.ot, hDI.fz1, by rw [← hQl]; exact hDI.cl, hDI.fz, hDI.be, ⟨Nat.le_trans hDI.n0.1 hDI.n0.2, Nat.le_refl _⟩⟩
          have HQ := Lib.hid hQ
          have hrb : Hid (0 < i → V.heap.size + 2 ≤ rb ∧ rb < V2.heap.size) := Lib.hid (fun h0 => ⟨(q5 h0).1, block_lt_of_cell (q3 0 h0).1⟩)
          have HTP := Lib.hid q3
          have Hq4 := Lib.hid q4
          have HQl0 := Lib.hid hQl
          clear hDI hown3 hQ q3 q4 q5 hQl hi hin
          go_loopw [12] (fun v V' => DvRel V V2.heap.size a' (L k) c' (l k) P (.slice ra i rc) rb i (fun x => Q.getD x t0) v V') (fun v _ => P - (intOf v).toNat)
          case atStart => exact ⟨0, [], _, rfl, Nat.zero_le _, rfl, hdi2, HTP.out, fun i hi => absurd hi (Nat.not_lt_zero i)⟩
          case round =>
            clear hdi2
            obtain ⟨j, Qm, vm, rfl, hj, hQl, hDI, hTP, hQm⟩ := hrel
            rename World => V3
            rcases Nat.lt_or_ge j P with hjn | hjn
            · have i2 := nat0 j
              have i3 := natlt hjn
              have hCO := Lib.hid (CO.out V3 (bt HD.out.be hDI.be))
              have hR : Hid (∀ (v' : Value) (V' : World) (xs' : List Value) (q : Int × Int), (-8 ≤ q.1 ∧ q.1 ≤ 8 ∧ -8 ≤ q.2 ∧ q.2 ≤ 8) → xs' = mvals Qm ++ mvVs q → DI V V' V2.heap.size 39 2 a' (L k) c' (l k) v' (j + 1) xs' 1 0 (.slice ra i rc) → TP V' rb i (fun x => Q.getD x t0) → DvRel V V2.heap.size a' (L k) c' (l k) P (.slice ra i rc) rb i (fun x => Q.getD x t0) (.int .i64 ((j : Int) + 1)) V') :=
                Lib.hid (fun v' V' xs' q h3 h4 h5 h6 => ⟨j + 1, Qm ++ [q], v', rfl, hjn, by rw [List.length_append, hQl]; rfl, by rw [mvals_app]; rw [h4] at h5; simpa [mvals] using h5, h6, okM_next hQm h3⟩)
              obtain ⟨li1, li2, li3, li4⟩ := KJ.out
              obtain ⟨sm1, sm2⟩ := sml 16 (Nat.le_of_ble_eq_true rfl) hjn HPp.out
              have hc0 := hDI.cl
              have HTV := Lib.hid hTP
              clear hjn hj hQm hTP
              go_wp2_with fail
              refine hCO.out.mono ?_
              rintro e W0 ⟨rfl, rfl⟩
              go_upto_region 14 with (fail)
              have hDI1 := di_drew hDI
              refine wp_region_held_drew (S := fun _ => True) (by kernel_rfl) trivial (fun hHeld => ?_)
              refine wpAnyH_take (i := 0) (v := ?_) rfl (by kernel_rfl) (by kernel_rfl) (by kernel_rfl) (fun _ _ _ h => h) (Or.inl ⟨by rfl, ?_⟩) (by assumption) ?_
              rotate_left
              · intro w hSw; (try dsimp only at hSw); go_simp; try with_reducible rfl
              try simp only [Act.put, List.setIfInBounds_toArray]
              refine wpAnyH_take (i := 2) (v := ?_) rfl (by kernel_rfl) (by kernel_rfl) (by kernel_rfl) (fun _ _ _ h => h) (Or.inl ⟨by rfl, ?_⟩) (by assumption) ?_
              rotate_left
              · intro w hSw; (try dsimp only at hSw); go_simp; try with_reducible rfl
              try simp only [Act.put]
              refine wpAnyH_take (i := 5) (v := ?_) rfl (by kernel_rfl) (by kernel_rfl) (by kernel_rfl) (fun _ _ _ h => h) (Or.inl ⟨by rfl, ?_⟩) (by assumption) ?_
              rotate_left
              · intro w hSw; (try dsimp only at hSw); go_simp; try with_reducible rfl
              try simp only [Act.put]
              refine wpAnyH_ready (rs := [1, 3]) (by kernel_rfl) (by simp) ?_
              refine AllReadyH.cons rfl (fun K hK => ?_) (AllReadyH.cons rfl (fun K hK => ?_) AllReadyH.nil)
              · go_simp
                try dsimp only
                refine hK.out _ _ (trivial) (fun hHeld => ?_)
                clear hK K
                try simp only [Act.put, List.setIfInBounds_toArray, List.set_cons_zero, List.set_cons_succ]
                refine wpAnyH_ready (rs := [3]) (by kernel_rfl) (by simp) ?_
                refine AllReadyH.cons rfl (fun K hK => ?_) AllReadyH.nil
                go_simp
                refine (N17.out _ hDI1.dw).mono ?_
                rintro e W1 ⟨p1, rfl, hp1, hd1, hg1⟩
                try dsimp only
                refine hK.out _ _ (trivial) (fun hHeld => ?_)
                clear hK K
                try simp only [Act.put, List.setIfInBounds_toArray, List.set_cons_zero, List.set_cons_succ]
                have hDI2 := di_next hDI1 hd1 hg1
                have hc2 := hDI2.cl
                have e1 := sub8 hp1
                have e1' : IntKind.i64.wrap ((p1 : Int) - 8) = (p1 : Int) - 8 := (IntWalk.i64_left _).trans e1
                refine wpAnyH_take (i := 4) (v := ?_) rfl (by kernel_rfl) (by kernel_rfl) (by kernel_rfl) (fun _ _ _ h => h) (Or.inl ⟨by rfl, ?_⟩) (by assumption) ?_
                rotate_left
                · intro w hSw; (try dsimp only at hSw); go_simp; try with_reducible rfl
                try simp only [Act.put, List.setIfInBounds_toArray]
                refine wpAnyH_ready (rs := [6]) (by kernel_rfl) (by simp) ?_
                refine AllReadyH.cons rfl (fun K hK => ?_) AllReadyH.nil
                go_simp
                refine (N17.out _ hDI2.dw).mono ?_
                rintro e W2 ⟨p2, rfl, hp2, hd2, hg2⟩
                try dsimp only
                refine hK.out _ _ (trivial) (fun hHeld => ?_)
                clear hK K
                try simp only [Act.put, List.setIfInBounds_toArray, List.set_cons_zero, List.set_cons_succ]
                have hDI3 := di_next hDI2 hd2 hg2
                have hc3 := hDI3.cl
                have e2 := sub8 hp2
                have e2' : IntKind.i64.wrap ((p2 : Int) - 8) = (p2 : Int) - 8 := (IntWalk.i64_left _).trans e2
                have hX3 := di_below hDI3 (ba (Below.refl _ _) (.cells #[.int .i64 ((p1 : Int) - 8), .int .i64 ((p2 : Int) - 8)] 39))
                have hc4 := hX3.cl
                have NW := news_mv W2 ((p1 : Int) - 8, (p2 : Int) - 8) 39
                have hn3 := hX3.n0.2
                have hT3 := Lib.hid (tp_below (tp_row (tp_row (show TP V3.drew rb i (fun x => Q.getD x t0) from HTV.out) hg1 (fun h0 e => by have := hrb.out h0; injection e with e; omega)) hg2 (fun h0 e => by have := hrb.out h0; injection e with e; omega)) (ba (Below.refl _ _) (.cells #[.int .i64 ((p1 : Int) - 8), .int .i64 ((p2 : Int) - 8)] 39)))
                refine wpAnyH_take (i := 7) (v := ?_) rfl (by kernel_rfl) (by kernel_rfl) (by kernel_rfl) (fun _ _ _ h => h) (Or.inl ⟨by rfl, ?_⟩) (by assumption) ?_
                rotate_left
                · intro w hSw; (try dsimp only at hSw); go_simp; try with_reducible rfl
                try simp only [Act.put, List.setIfInBounds_toArray]
                refine wpAnyH_take (i := 8) (v := ?_) rfl (by kernel_rfl) (by kernel_rfl) (by kernel_rfl) (fun _ _ _ h => h) (Or.inl ⟨by rfl, ?_⟩) (by assumption) ?_
                rotate_left
                · intro w hSw; (try dsimp only at hSw); go_simp; try with_reducible rfl
                try simp only [Act.put]
                refine wpAnyH_ready (rs := [9]) (by kernel_rfl) (by simp) ?_
                refine AllReadyH.cons rfl (fun K hK => ?_) AllReadyH.nil
                go_simp
                try dsimp only
                refine hK.out _ _ (trivial) (fun hHeld => ?_)
                clear hK K
                try simp only [Act.put, List.setIfInBounds_toArray, List.set_cons_zero, List.set_cons_succ]
                refine wpAnyH_ready (rs := [10]) (by kernel_rfl) (by simp) ?_
                refine AllReadyH.cons rfl (fun K hK => ?_) AllReadyH.nil
                refine step_append_lies _ (by rfl) _ _ 52 (by rfl) V2.heap.size 39 i1 _ 2 16 Try.underlying52 li1 li2 li3 li4 rfl (by decide) _ j _ (by rfl) hX3.ow ⟨W2.heap.size, 0, none⟩ 1 1 (mvVs ((p1 : Int) - 8, (p2 : Int) - 8)) (by rfl) rfl NW (by intro u hu; simp [mvVs] at hu; rcases hu with rfl | rfl <;> rfl) (Nat.succ_pos 0) sm1 sm2 hn3 _ rfl ?_
                intro g9 cap9 W9 hown9 hgrow9 hat9 hlt9
                try dsimp only
                refine hK.out _ _ (trivial) (fun hHeld => ?_)
                clear hK K
                try simp only [Act.put, List.setIfInBounds_toArray]
                have hDI9 := di_app hX3 HL.out hown9 hgrow9 (Nat.one_ne_zero)
                have hT9 := tp_row (tp_row hT3.out hgrow9 (fun h0 e => by have := hrb.out h0; have := (hX3.ow.lt _ e).1; omega)) (gs (gr W9 (V.heap.size + 1)) (o := 1) (.slice (some ⟨g9, 0, none⟩) (j + 1) cap9)) (fun h0 e => by have := hrb.out h0; injection e with e; omega)
                have R := Lib.hid (hR.out _ _ _ _ (in8 hp1 hp2) rfl hDI9 hT9)
                have s0 := far hgrow9 (di_ne hX3) hX3.cl
                have s1 : W9.frozen? ⟨V.heap.size + 1, 1, none⟩ = false := by rw [hgrow9.frozen_far ⟨V.heap.size + 1, 1, none⟩ (block_lt_of_cell hX3.cl) (fun e => di_ne hX3 e.symm)]; exact hX3.fz
                clear hown9 hgrow9 hat9 hDI9 hT9 hT3 hR hX3 hDI3 hDI2 hDI1 NW e1 e1' e2 e2'
                refine wpAnyH_take (i := 11) (v := ?_) rfl (by kernel_rfl) (by kernel_rfl) (by kernel_rfl) (fun _ _ _ h => h) (Or.inl ⟨by rfl, ?_⟩) (by assumption) ?_
                rotate_left
                · intro w hSw; (try dsimp only at hSw); go_simp; try with_reducible rfl
                try simp only [Act.put]
                refine wpAnyH_ready (rs := [12]) (by kernel_rfl) (by simp) ?_
                refine AllReadyH.cons rfl (fun K hK => ?_) AllReadyH.nil
                go_simp
                try dsimp only
                refine hK.out _ _ (trivial) (fun hHeld => ?_)
                clear hK K
                try simp only [Act.put, List.setIfInBounds_toArray, List.set_cons_zero, List.set_cons_succ]
                refine wpAnyH_done (by kernel_rfl) ?_ _
                go_wp2_with fail
                exact ⟨R.out, ltn (Int.ofNat_lt.1 i3)⟩
              · go_simp
                refine (N17.out _ hDI1.dw).mono ?_
                rintro e W1 ⟨p1, rfl, hp1, hd1, hg1⟩
                try dsimp only
                refine hK.out _ _ (trivial) (fun hHeld => ?_)
                clear hK K
                try simp only [Act.put, List.setIfInBounds_toArray, List.set_cons_zero, List.set_cons_succ]
                have hDI2 := di_next hDI1 hd1 hg1
                have hc2 := hDI2.cl
                have e1 := sub8 hp1
                have e1' : IntKind.i64.wrap ((p1 : Int) - 8) = (p1 : Int) - 8 := (IntWalk.i64_left _).trans e1
                refine wpAnyH_take (i := 4) (v := ?_) rfl (by kernel_rfl) (by kernel_rfl) (by kernel_rfl) (fun _ _ _ h => h) (Or.inl ⟨by rfl, ?_⟩) (by assumption) ?_
                rotate_left
                · intro w hSw; (try dsimp only at hSw); go_simp; try with_reducible rfl
                try simp only [Act.put, List.setIfInBounds_toArray]
                refine wpAnyH_ready (rs := [1, 6]) (by kernel_rfl) (by simp) ?_
                refine AllReadyH.cons rfl (fun K hK => ?_) (AllReadyH.cons rfl (fun K hK => ?_) AllReadyH.nil)
                · go_simp
                  try dsimp only
                  refine hK.out _ _ (trivial) (fun hHeld => ?_)
                  clear hK K
                  try simp only [Act.put, List.setIfInBounds_toArray, List.set_cons_zero, List.set_cons_succ]
                  refine wpAnyH_ready (rs := [6]) (by kernel_rfl) (by simp) ?_
                  refine AllReadyH.cons rfl (fun K hK => ?_) AllReadyH.nil
                  go_simp
                  refine (N17.out _ hDI2.dw).mono ?_
                  rintro e W2 ⟨p2, rfl, hp2, hd2, hg2⟩
                  try dsimp only
                  refine hK.out _ _ (trivial) (fun hHeld => ?_)
                  clear hK K
                  try simp only [Act.put, List.setIfInBounds_toArray, List.set_cons_zero, List.set_cons_succ]
                  have hDI3 := di_next hDI2 hd2 hg2
                  have hc3 := hDI3.cl
                  have e2 := sub8 hp2
                  have e2' : IntKind.i64.wrap ((p2 : Int) - 8) = (p2 : Int) - 8 := (IntWalk.i64_left _).trans e2
                  have hX3 := di_below hDI3 (ba (Below.refl _ _) (.cells #[.int .i64 ((p1 : Int) - 8), .int .i64 ((p2 : Int) - 8)] 39))
                  have hc4 := hX3.cl
                  have NW := news_mv W2 ((p1 : Int) - 8, (p2 : Int) - 8) 39
                  have hn3 := hX3.n0.2
                  have hT3 := Lib.hid (tp_below (tp_row (tp_row (show TP V3.drew rb i (fun x => Q.getD x t0) from HTV.out) hg1 (fun h0 e => by have := hrb.out h0; injection e with e; omega)) hg2 (fun h0 e => by have := hrb.out h0; injection e with e; omega)) (ba (Below.refl _ _) (.cells #[.int .i64 ((p1 : Int) - 8), .int .i64 ((p2 : Int) - 8)] 39)))
                  refine wpAnyH_take (i := 7) (v := ?_) rfl (by kernel_rfl) (by kernel_rfl) (by kernel_rfl) (fun _ _ _ h => h) (Or.inl ⟨by rfl, ?_⟩) (by assumption) ?_
                  rotate_left
                  · intro w hSw; (try dsimp only at hSw); go_simp; try with_reducible rfl
                  try simp only [Act.put, List.setIfInBounds_toArray]
                  refine wpAnyH_take (i := 8) (v := ?_) rfl (by kernel_rfl) (by kernel_rfl) (by kernel_rfl) (fun _ _ _ h => h) (Or.inl ⟨by rfl, ?_⟩) (by assumption) ?_
                  rotate_left
                  · intro w hSw; (try dsimp only at hSw); go_simp; try with_reducible rfl
                  try simp only [Act.put]
                  refine wpAnyH_ready (rs := [9]) (by kernel_rfl) (by simp) ?_
                  refine AllReadyH.cons rfl (fun K hK => ?_) AllReadyH.nil
                  go_simp
                  try dsimp only
                  refine hK.out _ _ (trivial) (fun hHeld => ?_)
                  clear hK K
                  try simp only [Act.put, List.setIfInBounds_toArray, List.set_cons_zero, List.set_cons_succ]
                  refine wpAnyH_ready (rs := [10]) (by kernel_rfl) (by simp) ?_
                  refine AllReadyH.cons rfl (fun K hK => ?_) AllReadyH.nil
                  refine step_append_lies _ (by rfl) _ _ 52 (by rfl) V2.heap.size 39 i1 _ 2 16 Try.underlying52 li1 li2 li3 li4 rfl (by decide) _ j _ (by rfl) hX3.ow ⟨W2.heap.size, 0, none⟩ 1 1 (mvVs ((p1 : Int) - 8, (p2 : Int) - 8)) (by rfl) rfl NW (by intro u hu; simp [mvVs] at hu; rcases hu with rfl | rfl <;> rfl) (Nat.succ_pos 0) sm1 sm2 hn3 _ rfl ?_
                  intro g9 cap9 W9 hown9 hgrow9 hat9 hlt9
                  try dsimp only
                  refine hK.out _ _ (trivial) (fun hHeld => ?_)
                  clear hK K
                  try simp only [Act.put, List.setIfInBounds_toArray]
                  have hDI9 := di_app hX3 HL.out hown9 hgrow9 (Nat.one_ne_zero)
                  have hT9 := tp_row (tp_row hT3.out hgrow9 (fun h0 e => by have := hrb.out h0; have := (hX3.ow.lt _ e).1; omega)) (gs (gr W9 (V.heap.size + 1)) (o := 1) (.slice (some ⟨g9, 0, none⟩) (j + 1) cap9)) (fun h0 e => by have := hrb.out h0; injection e with e; omega)
                  have R := Lib.hid (hR.out _ _ _ _ (in8 hp1 hp2) rfl hDI9 hT9)
                  have s0 := far hgrow9 (di_ne hX3) hX3.cl
                  have s1 : W9.frozen? ⟨V.heap.size + 1, 1, none⟩ = false := by rw [hgrow9.frozen_far ⟨V.heap.size + 1, 1, none⟩ (block_lt_of_cell hX3.cl) (fun e => di_ne hX3 e.symm)]; exact hX3.fz
                  clear hown9 hgrow9 hat9 hDI9 hT9 hT3 hR hX3 hDI3 hDI2 hDI1 NW e1 e1' e2 e2'
                  refine wpAnyH_take (i := 11) (v := ?_) rfl (by kernel_rfl) (by kernel_rfl) (by kernel_rfl) (fun _ _ _ h => h) (Or.inl ⟨by rfl, ?_⟩) (by assumption) ?_
                  rotate_left
                  · intro w hSw; (try dsimp only at hSw); go_simp; try with_reducible rfl
                  try simp only [Act.put]
                  refine wpAnyH_ready (rs := [12]) (by kernel_rfl) (by simp) ?_
                  refine AllReadyH.cons rfl (fun K hK => ?_) AllReadyH.nil
                  go_simp
                  try dsimp only
                  refine hK.out _ _ (trivial) (fun hHeld => ?_)
                  clear hK K
                  try simp only [Act.put, List.setIfInBounds_toArray, List.set_cons_zero, List.set_cons_succ]
                  refine wpAnyH_done (by kernel_rfl) ?_ _
                  go_wp2_with fail
                  exact ⟨R.out, ltn (Int.ofNat_lt.1 i3)⟩
                · go_simp
                  refine (N17.out _ hDI2.dw).mono ?_
                  rintro e W2 ⟨p2, rfl, hp2, hd2, hg2⟩
                  try dsimp only
                  refine hK.out _ _ (trivial) (fun hHeld => ?_)
                  clear hK K
                  try simp only [Act.put, List.setIfInBounds_toArray, List.set_cons_zero, List.set_cons_succ]
                  have hDI3 := di_next hDI2 hd2 hg2
                  have hc3 := hDI3.cl
                  have e2 := sub8 hp2
                  have e2' : IntKind.i64.wrap ((p2 : Int) - 8) = (p2 : Int) - 8 := (IntWalk.i64_left _).trans e2
                  have hX3 := di_below hDI3 (ba (Below.refl _ _) (.cells #[.int .i64 ((p1 : Int) - 8), .int .i64 ((p2 : Int) - 8)] 39))
                  have hc4 := hX3.cl
                  have NW := news_mv W2 ((p1 : Int) - 8, (p2 : Int) - 8) 39
                  have hn3 := hX3.n0.2
                  have hT3 := Lib.hid (tp_below (tp_row (tp_row (show TP V3.drew rb i (fun x => Q.getD x t0) from HTV.out) hg1 (fun h0 e => by have := hrb.out h0; injection e with e; omega)) hg2 (fun h0 e => by have := hrb.out h0; injection e with e; omega)) (ba (Below.refl _ _) (.cells #[.int .i64 ((p1 : Int) - 8), .int .i64 ((p2 : Int) - 8)] 39)))
                  refine wpAnyH_take (i := 7) (v := ?_) rfl (by kernel_rfl) (by kernel_rfl) (by kernel_rfl) (fun _ _ _ h => h) (Or.inl ⟨by rfl, ?_⟩) (by assumption) ?_
                  rotate_left
                  · intro w hSw; (try dsimp only at hSw); go_simp; try with_reducible rfl
                  try simp only [Act.put, List.setIfInBounds_toArray]
                  refine wpAnyH_take (i := 8) (v := ?_) rfl (by kernel_rfl) (by kernel_rfl) (by kernel_rfl) (fun _ _ _ h => h) (Or.inl ⟨by rfl, ?_⟩) (by assumption) ?_
                  rotate_left
                  · intro w hSw; (try dsimp only at hSw); go_simp; try with_reducible rfl
                  try simp only [Act.put]
                  refine wpAnyH_ready (rs := [1, 9]) (by kernel_rfl) (by simp) ?_
                  refine AllReadyH.cons rfl (fun K hK => ?_) (AllReadyH.cons rfl (fun K hK => ?_) AllReadyH.nil)
                  · go_simp
                    try dsimp only
                    refine hK.out _ _ (trivial) (fun hHeld => ?_)
                    clear hK K
                    try simp only [Act.put, List.setIfInBounds_toArray, List.set_cons_zero, List.set_cons_succ]
                    refine wpAnyH_ready (rs := [9]) (by kernel_rfl) (by simp) ?_
                    refine AllReadyH.cons rfl (fun K hK => ?_) AllReadyH.nil
                    go_simp
                    try dsimp only
                    refine hK.out _ _ (trivial) (fun hHeld => ?_)
                    clear hK K
                    try simp only [Act.put, List.setIfInBounds_toArray, List.set_cons_zero, List.set_cons_succ]
                    refine wpAnyH_ready (rs := [10]) (by kernel_rfl) (by simp) ?_
                    refine AllReadyH.cons rfl (fun K hK => ?_) AllReadyH.nil
                    refine step_append_lies _ (by rfl) _ _ 52 (by rfl) V2.heap.size 39 i1 _ 2 16 Try.underlying52 li1 li2 li3 li4 rfl (by decide) _ j _ (by rfl) hX3.ow ⟨W2.heap.size, 0, none⟩ 1 1 (mvVs ((p1 : Int) - 8, (p2 : Int) - 8)) (by rfl) rfl NW (by intro u hu; simp [mvVs] at hu; rcases hu with rfl | rfl <;> rfl) (Nat.succ_pos 0) sm1 sm2 hn3 _ rfl ?_
                    intro g9 cap9 W9 hown9 hgrow9 hat9 hlt9
                    try dsimp only
                    refine hK.out _ _ (trivial) (fun hHeld => ?_)
                    clear hK K
                    try simp only [Act.put, List.setIfInBounds_toArray]
                    have hDI9 := di_app hX3 HL.out hown9 hgrow9 (Nat.one_ne_zero)
                    have hT9 := tp_row (tp_row hT3.out hgrow9 (fun h0 e => by have := hrb.out h0; have := (hX3.ow.lt _ e).1; omega)) (gs (gr W9 (V.heap.size + 1)) (o := 1) (.slice (some ⟨g9, 0, none⟩) (j + 1) cap9)) (fun h0 e => by have := hrb.out h0; injection e with e; omega)
                    have R := Lib.hid (hR.out _ _ _ _ (in8 hp1 hp2) rfl hDI9 hT9)
                    have s0 := far hgrow9 (di_ne hX3) hX3.cl
                    have s1 : W9.frozen? ⟨V.heap.size + 1, 1, none⟩ = false := by rw [hgrow9.frozen_far ⟨V.heap.size + 1, 1, none⟩ (block_lt_of_cell hX3.cl) (fun e => di_ne hX3 e.symm)]; exact hX3.fz
                    clear hown9 hgrow9 hat9 hDI9 hT9 hT3 hR hX3 hDI3 hDI2 hDI1 NW e1 e1' e2 e2'
                    refine wpAnyH_take (i := 11) (v := ?_) rfl (by kernel_rfl) (by kernel_rfl) (by kernel_rfl) (fun _ _ _ h => h) (Or.inl ⟨by rfl, ?_⟩) (by assumption) ?_
                    rotate_left
                    · intro w hSw; (try dsimp only at hSw); go_simp; try with_reducible rfl
                    try simp only [Act.put]
                    refine wpAnyH_ready (rs := [12]) (by kernel_rfl) (by simp) ?_
                    refine AllReadyH.cons rfl (fun K hK => ?_) AllReadyH.nil
                    go_simp
                    try dsimp only
                    refine hK.out _ _ (trivial) (fun hHeld => ?_)
                    clear hK K
                    try simp only [Act.put, List.setIfInBounds_toArray, List.set_cons_zero, List.set_cons_succ]
                    refine wpAnyH_done (by kernel_rfl) ?_ _
                    go_wp2_with fail
                    exact ⟨R.out, ltn (Int.ofNat_lt.1 i3)⟩
                  · go_simp
                    try dsimp only
                    refine hK.out _ _ (trivial) (fun hHeld => ?_)
                    clear hK K
                    try simp only [Act.put, List.setIfInBounds_toArray, List.set_cons_zero, List.set_cons_succ]
                    refine wpAnyH_ready (rs := [1]) (by kernel_rfl) (by simp) ?_
                    refine AllReadyH.cons rfl (fun K hK => ?_) AllReadyH.nil
                    go_simp
                    try dsimp only
                    refine hK.out _ _ (trivial) (fun hHeld => ?_)
                    clear hK K
                    try simp only [Act.put, List.setIfInBounds_toArray, List.set_cons_zero, List.set_cons_succ]
                    refine wpAnyH_ready (rs := [10]) (by kernel_rfl) (by simp) ?_
                    refine AllReadyH.cons rfl (fun K hK => ?_) AllReadyH.nil
                    refine step_append_lies _ (by rfl) _ _ 52 (by rfl) V2.heap.size 39 i1 _ 2 16 Try.underlying52 li1 li2 li3 li4 rfl (by decide) _ j _ (by rfl) hX3.ow ⟨W2.heap.size, 0, none⟩ 1 1 (mvVs ((p1 : Int) - 8, (p2 : Int) - 8)) (by rfl) rfl NW (by intro u hu; simp [mvVs] at hu; rcases hu with rfl | rfl <;> rfl) (Nat.succ_pos 0) sm1 sm2 hn3 _ rfl ?_
                    intro g9 cap9 W9 hown9 hgrow9 hat9 hlt9
                    try dsimp only
                    refine hK.out _ _ (trivial) (fun hHeld => ?_)
                    clear hK K
                    try simp only [Act.put, List.setIfInBounds_toArray]
                    have hDI9 := di_app hX3 HL.out hown9 hgrow9 (Nat.one_ne_zero)
                    have hT9 := tp_row (tp_row hT3.out hgrow9 (fun h0 e => by have := hrb.out h0; have := (hX3.ow.lt _ e).1; omega)) (gs (gr W9 (V.heap.size + 1)) (o := 1) (.slice (some ⟨g9, 0, none⟩) (j + 1) cap9)) (fun h0 e => by have := hrb.out h0; injection e with e; omega)
                    have R := Lib.hid (hR.out _ _ _ _ (in8 hp1 hp2) rfl hDI9 hT9)
                    have s0 := far hgrow9 (di_ne hX3) hX3.cl
                    have s1 : W9.frozen? ⟨V.heap.size + 1, 1, none⟩ = false := by rw [hgrow9.frozen_far ⟨V.heap.size + 1, 1, none⟩ (block_lt_of_cell hX3.cl) (fun e => di_ne hX3 e.symm)]; exact hX3.fz
                    clear hown9 hgrow9 hat9 hDI9 hT9 hT3 hR hX3 hDI3 hDI2 hDI1 NW e1 e1' e2 e2'
                    refine wpAnyH_take (i := 11) (v := ?_) rfl (by kernel_rfl) (by kernel_rfl) (by kernel_rfl) (fun _ _ _ h => h) (Or.inl ⟨by rfl, ?_⟩) (by assumption) ?_
                    rotate_left
                    · intro w hSw; (try dsimp only at hSw); go_simp; try with_reducible rfl
                    try simp only [Act.put]
                    refine wpAnyH_ready (rs := [12]) (by kernel_rfl) (by simp) ?_
                    refine AllReadyH.cons rfl (fun K hK => ?_) AllReadyH.nil
                    go_simp
                    try dsimp only
                    refine hK.out _ _ (trivial) (fun hHeld => ?_)
                    clear hK K
                    try simp only [Act.put, List.setIfInBounds_toArray, List.set_cons_zero, List.set_cons_succ]
                    refine wpAnyH_done (by kernel_rfl) ?_ _
                    go_wp2_with fail
                    exact ⟨R.out, ltn (Int.ofNat_lt.1 i3)⟩
            · obtain rfl : j = P := by omega
              have hCO := Lib.hid (CO.out V3 (bt HD.out.be hDI.be))
              go_wp2_with fail
              refine hCO.out.mono ?_
              rintro e W0 ⟨rfl, rfl⟩
              have hown3 : V3.ownsRow V2.heap.size 39 2 vm Qm.length (mvals Qm) := by rw [hQl]; exact hDI.ow
              obtain ⟨ma, mc, mb, rfl, p1, p2, p3, p4, p5⟩ := own_mp hown3
              rw [hQl] at p1 p3 p4 p5
              have hc0 := hDI.cl
              have hc1 := hDI.ot
              rw [hQl] at hc0
              obtain ⟨mi1, mi2, mi3, mi4⟩ := KK.out
              have hB3 := hDI.be
              have hV2 := hDI.n0
              have NW := news_two V3 (.slice ra i rc) (.slice ma j mc) 54
              have hlow := (do_below HD.out (ba hB3 (.cells #[.slice ra i rc, .slice ma j mc] 54))).ow
              obtain ⟨sm1, sm2⟩ := sml 48 (Nat.le_refl _) hkm (by have := Hm.out; omega)
              have hsz : w.heap.size ≤ (V3.alloc (.cells #[.slice ra i rc, .slice ma j mc] 54)).heap.size := by rw [World.size_alloc]; exact Nat.le_succ_of_le (Nat.le_trans hVs hB3.size)
              have hok9 : okD i j ⟨i, fun x => Q.getD x t0, j, fun x => (Qm.getD x (0, 0)).1, fun x => (Qm.getD x (0, 0)).2⟩ := ⟨rfl, rfl, fun x hx => HQ.out x (by rw [HQl0.out]; exact hx), fun x hx => hQm x (by rw [hQl]; exact hx)⟩
              have hR : Hid (∀ v' V' xs' d' Rb' Mb', DO w V' v' (k + 1) xs' d' Rb' Mb' → (∀ x, x < k + 1 → okD i j (d' x)) → DsRel w m i j v' (.int .i64 ((k : Int) + 1)) V') := Lib.hid (fun v' V' xs' d' Rb' Mb' h3 h4 => ⟨k + 1, xs', d', Rb', Mb', rfl, hkm, h3, h4⟩)
              have HX := Lib.hid (fun W' s cap (hown : W'.ownsRow w.heap.size 54 2 (.slice (some ⟨s, 0, none⟩) (k + 1) cap) (k + 1) (xs ++ [.slice ra i rc, .slice ma j mc])) hg hs => do_app (W := V3.alloc (.cells #[.slice ra i rc, .slice ma j mc] 54)) (W' := W') (s := s) (cap := cap) (rb := rb) (mb := mb) (e := ⟨i, fun x => Q.getD x t0, j, fun x => (Qm.getD x (0, 0)).1, fun x => (Qm.getD x (0, 0)).2⟩) HD.out (ba hB3 _) q1 q2 Hq4.out (fun h0 => by have := hrb.out h0; omega) (tp_below hTP (ba (Below.refl _ _) _)) p1 p2 p4 (fun h0 => by have := (p5 h0).1; omega) (mp_below p3 (ba (Below.refl _ _) _)) hown hg hs)
              clear hDI hown3 hQm hTP p3 p4 p5 hV2 hj hjn
              go_wp2_with (at_builtin; refine wpList_append_lies _ rfl _ _ 47 rfl w.heap.size 54 i2 _ 2 48 Try.underlying47 mi1 mi2 mi3 mi4 rfl (by decide) _ k xs rfl hlow ⟨V3.heap.size, 0, none⟩ 1 1 [.slice ra i rc, .slice ma j mc] rfl rfl NW (by intro u hu; simp at hu; rcases hu with rfl | rfl <;> rfl) (Nat.succ_pos 0) sm1 sm2 hsz _ rfl ?_; intro s cap W9 hown9 hg9 hat9 hlt9)
              have R := Lib.hid (hR.out _ _ _ _ _ _ (HX.out _ _ _ hown9 hg9 hat9) (fun x hx => by
                by_cases e : x = k
                · subst e
                  simp only [if_true]
                  exact hok9
                · simp only [if_neg e]
                  exact HOK.out x (by omega)))
              clear hown9 hg9 hat9 HX hR hlow NW hok9
              go_wp2_with fail
              exact ⟨R.out, ltn hkm⟩
    · obtain rfl : k = m := by omega
      have hO := Lib.hid hD
      have hO2 := Lib.hid hok
      clear hD hok
      have hmm := Hm.out
      rcases Nat.lt_or_ge N 3 with h2 | h2
      · obtain rfl : k = N := by omega
        clear hmm
        go_wp2_with fail
        go_ret
        exact ⟨_, _, _, _, _, rfl, hO.out, hO2.out⟩
      · obtain rfl : k = 3 := by omega
        clear hmm Hm
        rcases Nat.eq_or_lt_of_le h2 with h11 | h11
        · subst h11
          go_wp2_with fail
          go_ret
          exact ⟨_, _, _, _, _, rfl, hO.out, hO2.out⟩
        · have k5 : (3 : Int) < (N : Int) := by omega
          go_wp2_with fail
          go_ret
          exact ⟨_, _, _, _, _, rfl, hO.out, hO2.out⟩
end Go.Proofs.Ytcogoomajfahkaa.Ot
