/-
  Layer 6 (outline): outlines that grow by append; Copy of the document's own.
-/
import Derived.Test.YtdgagjcocohnnaaOtT
namespace Go.Proofs.Ytdgagjcocohnnaa.Ot
open Go.RowKit
theorem po_row {w W : World} {b n : Nat} {f : Nat → Pt} {row : Option Nat} (h : PO w b n f) (hG : w.grownBy W row) (hn : 0 < n → row ≠ some b) : PO W b n f := fun i hi => by
  obtain ⟨⟨h1, h2, h3⟩, f1, f2, f3⟩ := h i hi
  have hn := hn (by omega)
  have l1 := block_lt_of_cell h1
  have e : ∀ o, W.cell? ⟨b, o, none⟩ = w.cell? ⟨b, o, none⟩ := fun o => hG.cell_far ⟨b, o, none⟩ l1 (fun h => hn h.symm)
  have e2 : ∀ o, W.frozen? ⟨b, o, none⟩ = w.frozen? ⟨b, o, none⟩ := fun o => hG.frozen_far ⟨b, o, none⟩ l1 (fun h => hn h.symm)
  exact ⟨⟨(e _).trans h1, (e _).trans h2, (e _).trans h3⟩, (e2 _).trans f1, (e2 _).trans f2, (e2 _).trans f3⟩
/-- An outline that is being made: a slice of the call's own, each list in a block of its own. -/
structure MO (w V : World) (v : Value) (k : Nat) (xs : List Value) (ns B : Nat → Nat) (g : Nat → Nat → Pt) : Prop where
  ow : V.ownsRow w.heap.size 32 1 v k xs
  li : ∀ j, j < k → ∃ a c, xs[j]? = some (.slice a (ns j) c) ∧ ns j ≤ c ∧ c ≤ 9223372036854775807 ∧ (0 < ns j → a = some ⟨B j, 0, none⟩)
  pt : ∀ j, j < k → PO V (B j) (ns j) (g j)
  far : ∀ j, j < k → 0 < ns j → w.heap.size ≤ B j ∧ v.ownBlock ≠ some (B j)
  own : ∀ j l, j < k → l < k → 0 < ns j → 0 < ns l → B j = B l → j = l
  be : Below w.heap.size w V
theorem mo_nil (w : World) (ns : Nat → Nat) (g : Nat → Nat → Pt) : MO w w (.slice none 0 0) 0 [] ns (fun _ => 0) g :=
  ⟨World.ownsRow_nil _ _ _ _, fun k hk => absurd hk (by omega), fun k hk => absurd hk (by omega), fun k hk => absurd hk (by omega), fun k l hk => absurd hk (by omega), Below.refl _ _⟩
theorem mo_below {w V V' : World} {v : Value} {k : Nat} {xs : List Value} {ns B : Nat → Nat} {g : Nat → Nat → Pt} (h : MO w V v k xs ns B g) (hB : Below V.heap.size V V') : MO w V' v k xs ns B g :=
  ⟨own_keep h.ow hB, h.li, fun j hj => po_below (h.pt j hj) hB, h.far, h.own, bt h.be hB⟩
theorem mo_app {w V W W' : World} {v : Value} {k s cap : Nat} {xs : List Value} {ns B : Nat → Nat} {g : Nat → Nat → Pt} {a : Option Addr} {n c b : Nat} (h : MO w V v k xs ns B g) (hVW : Below V.heap.size V W)
    (hn : n = ns k) (hc : n ≤ c) (hc2 : c ≤ 9223372036854775807) (ha : 0 < n → a = some ⟨b, 0, none⟩) (hb : 0 < n → V.heap.size ≤ b) (hP : PO W b n (g k))
    (hown : W'.ownsRow w.heap.size 32 1 (.slice (some ⟨s, 0, none⟩) (k + 1) cap) (k + 1) (xs ++ [.slice a n c])) (hg : W.grownBy W' v.ownBlock) (hs : v.ownBlock = some s ∨ s = W.heap.size) :
    MO w W' (.slice (some ⟨s, 0, none⟩) (k + 1) cap) (k + 1) (xs ++ [.slice a n c]) ns (fun j => if j = k then b else B j) g := by
  subst hn
  have hlen : xs.length = k := by have := h.ow.1; omega
  have old : ∀ x, x < k → 0 < ns x → B x < V.heap.size := fun x hx h0 => block_lt_of_cell (h.pt x hx 0 h0).1.1
  have hrow : ∀ q, v.ownBlock = some q → w.heap.size ≤ q ∧ q < V.heap.size := fun q hq => h.ow.lt q hq
  have hw := h.be.size
  have hVs := hVW.size
  have hsl : w.heap.size ≤ s := by
    rcases hs with h1 | h1
    · exact (hrow s h1).1
    · omega
  refine ⟨hown, fun j hj => ?_, fun j hj => ?_, fun j hj h0 => ?_, fun j l hj hl h0 h1 e => ?_, gBo (bt h.be hVW) hg (fun q hq => (hrow q hq).1)⟩
  · by_cases e : j = k
    · subst e
      exact ⟨a, c, by rw [List.getElem?_append_right (by omega), hlen, Nat.sub_self]; rfl, hc, hc2, by simpa using ha⟩
    · obtain ⟨a', c', e1, h1, h2, h3⟩ := h.li j (by omega)
      exact ⟨a', c', by rw [List.getElem?_append_left (by omega)]; exact e1, h1, h2, by simpa only [if_neg e] using h3⟩
  · by_cases e : j = k
    · subst e
      simp only [if_true]
      exact po_row hP hg (fun h0 hq => by have := (hrow b hq).2; have := hb h0; omega)
    · simp only [if_neg e]
      exact po_row (po_below (h.pt j (by omega)) hVW) hg (fun h0 => (h.far j (by omega) h0).2)
  · have hne : ∀ q, q < W.heap.size → v.ownBlock ≠ some q → (Value.slice (some ⟨s, 0, none⟩) (k + 1) cap).ownBlock ≠ some q := by
      intro q hq hq2 he
      have : s = q := by simpa [Value.ownBlock] using he
      subst this
      rcases hs with h1 | h1
      · exact hq2 h1
      · omega
    by_cases e : j = k
    · subst e
      simp only [if_true]
      have hbl := hb h0
      have hlt : b < W.heap.size := block_lt_of_cell (hP 0 h0).1.1
      exact ⟨by omega, hne b hlt (fun hq => by have := (hrow b hq).2; omega)⟩
    · simp only [if_neg e]
      obtain ⟨f1, f2⟩ := h.far j (by omega) h0
      have := old j (by omega) h0
      exact ⟨f1, hne _ (by omega) f2⟩
  · by_cases ej : j = k
    · by_cases el : l = k
      · omega
      · subst ej
        simp only [if_true, if_neg el] at e
        have := hb h0
        have := old l (by omega) h1
        omega
    · by_cases el : l = k
      · subst el
        simp only [if_true, if_neg ej] at e
        have := hb h1
        have := old j (by omega) h0
        omega
      · simp only [if_neg ej, if_neg el] at e
        exact h.own j l (by omega) (by omega) h0 h1 e
/-- What a value that owns an outline reads as. -/
theorem mo_oo {w V : World} {v : Value} {N : Nat} {xs : List Value} {ns B : Nat → Nat} {g : Nat → Nat → Pt} (h : MO w V v N xs ns B g) :
    ∃ (a : Option Addr) (c S : Nat), v = .slice a N c ∧ N ≤ c ∧ c ≤ 9223372036854775807 ∧ (0 < N → a = some ⟨S, 0, none⟩) ∧ OO V w.heap.size S N ns B g ∧ SL V S N := by
  rcases h.ow.2 with ⟨rfl, rfl⟩ | ⟨b, cap, cur, rfl, hb, hh, hkc, hcm, _⟩
  · exact ⟨none, 0, w.heap.size, rfl, Nat.le_refl _, by omega, fun h => absurd h (by omega), ⟨Nat.le_refl _, fun k hk => absurd hk (by omega), fun k hk => absurd hk (by omega), fun k hk => absurd hk (by omega), fun k l hk => absurd hk (by omega)⟩, fun j hj => absurd hj (by omega)⟩
  · unfold maxLen at hcm
    refine ⟨some ⟨b, 0, none⟩, cap, b, rfl, hkc, by omega, fun _ => rfl, ⟨hb, fun k hk => ?_, h.pt, fun k hk h0 => ⟨(h.far k hk h0).1, fun e => (h.far k hk h0).2 (by simp [Value.ownBlock, e])⟩, h.own⟩, fun j hj => ?_⟩
    · obtain ⟨a, c, e, h1, h2, h3⟩ := h.li k hk
      exact ⟨a, c, by rw [h.ow.cellAt _ (by omega)]; exact e, h1, h2, h3⟩
    · obtain ⟨a, c, e, h1, h2, h3⟩ := h.li j hj
      exact ⟨⟨_, by rw [h.ow.cellAt _ (by omega)]; exact e⟩, h.ow.frozenAt _⟩
theorem oo_ot2 {w : World} {n₀ S N : Nat} {ns B : Nat → Nat} {g : Nat → Nat → Pt} {a : Option Addr} (h : OO w n₀ S N ns B g) (ha : 0 < N → a = some ⟨S, 0, none⟩) : OT w a N ns g := fun k hk => by
  rw [ha (by omega)]
  exact oo_ot h k hk
theorem run_all_none (W : World) (b c : Nat) (T : TypeId) : (Builtin.append_ #[32, 32] T #[.slice (some ⟨b, 0, none⟩) 0 0, .slice none 0 c]).run Try.prog W = .ok (.slice (some ⟨b, 0, none⟩) 0 0) W := by
  obtain ⟨i0, ki1, ki2, ki3, ki4⟩ := info_parts infoP
  simp [Builtin.append_, run_underlying Try.underlying32, sizeOf, typeInfo, ki1, Builtin.lenOf, Builtin.firstCells, loadCells, loadCellsFrom, storeCells]
/-- append of points to an empty slice of the call's own, nil or not. -/
theorem wpList_all2 {ops : Array Oper} {rest : List Oper} {o : Oper} {a : Act} {W : World} {Q : Exit → Act → World → Prop} (S b n c : Nat) (ad : Option Addr) (g : Nat → Pt) (hgd : o.guard = none) (s x : Operand)
    (ho : o.op = .call { callee := .builtin .append, args := #[s, x], argTypes := #[32, 32] })
    (hs : a.eval s = .slice (some ⟨b, 0, none⟩) 0 0) (hx : a.eval x = .slice ad n c)
    (hv : W.ownsRow S 53 3 (.slice (some ⟨b, 0, none⟩) 0 0) 0 []) (hD : PA W ad n g) (hn : n ≤ 1000000) (hS : S ≤ W.heap.size)
    (hk : ∀ a' c' b' W', n ≤ c' → c' ≤ 9223372036854775807 → PO W' b' n g → (0 < n → a' = some ⟨b', 0, none⟩) → (0 < n → S ≤ b') → W.grownBy W' (some b) → wpList Try.prog ops Q rest (a.put o.dst (.slice a' n c')) W') : wpList Try.prog ops Q (o :: rest) a W := by
  rcases ad with _ | ad
  · have h0 : n = 0 := by
      rcases Nat.eq_zero_or_pos n with h | h
      · exact h
      · obtain ⟨b, o, e, _⟩ := hD 0 h
        cases e
    subst h0
    refine wpList_plain hgd fun _ hK => ?_
    have hr := run_all_none W b c o.type
    unfold Oper.wp execOp
    simp only [ho, resolve, invoke, builtin, Sem.run_bind, Sem.run_pure, Result.andThen_ok, List.map_toArray, List.map_cons, List.map_nil, hs, hx, hr]
    exact hK _ _ (hk (some ⟨b, 0, none⟩) 0 b W (by omega) (by omega) (fun i hi => absurd hi (by omega)) (fun h => absurd h (by omega)) (fun h => absurd h (by omega)) (gr _ _))
  · refine wpList_all S b n c ad g hgd s x ho hs hx hv hD hn hS (fun v' W' hown hg => ?_)
    obtain ⟨a', c', b', rfl, q1, q2, q3, q4, q5⟩ := own_lst hown
    exact hk a' c' b' W' q1 q2 q3 q4 q5 hg
theorem news_one (W : World) (v : Value) (T : TypeId) : ∀ j u, [v][j]? = some u → (W.alloc (.cells #[v] T)).cell? ((⟨W.heap.size, 0, none⟩ : Addr).add j) = some u := by
  intro j u hj
  match j, hj with
  | 0, hj => simp at hj; subst hj; simp [Addr.add]
def CpRel (w : World) (N : Nat) (ns : Nat → Nat) (g : Nat → Nat → Pt) (s3 s4 : Value) (V : World) : Prop := ∃ (k : Nat) (xs : List Value) (B : Nat → Nat), s4 = .int .i64 (k : Int) ∧ k ≤ N ∧ MO w V s3 k xs ns B g
set_option maxRecDepth 100000 in
set_option maxHeartbeats 8000000 in
theorem rCopy_any (a : Option Addr) (N c : Nat) (ns : Nat → Nat) (g : Nat → Nat → Pt) (hN : N ≤ 1000000) (hs : ∀ k, k < N → ns k ≤ 1000000) (w : World) (hA : OT w a N ns g) :
    Calls Try.prog 29 #[.slice a N c] w fun e w' => ∃ v xs B, e = .returned v ∧ MO w w' v N xs ns B g := by
  have HA := Lib.hid hA
  obtain ⟨i0, ki1, ki2, ki3, ki4⟩ := info_parts infoS
  have KI := Lib.hid (And.intro ki1 (And.intro ki2 (And.intro ki3 ki4)))
  clear hA ki1 ki2 ki3 ki4
  go_enter Try.func29, Try.ntmps29
  go_wp2_with fail
  go_loopw [3, 4] (fun s3 s4 V => CpRel w N ns g s3 s4 V) (fun _ s4 _ => N - (intOf s4).toNat)
  case atStart => exact ⟨0, [], fun _ => 0, rfl, by omega, mo_nil w ns g⟩
  case round =>
    obtain ⟨k, xs, B, rfl, hk, hM⟩ := hrel
    rename World => V
    rcases Nat.lt_or_ge k N with hkN | hkN
    · obtain ⟨b, off, a', c', rfl, hc, h1, h2, hp⟩ := ot_below HA.out hM.be k hkN
      have HP := Lib.hid hp
      have hn := hs k hkN
      have k2 : (0 : Int) ≤ (k : Int) := by omega
      have k3 : (k : Int) < (N : Int) := by omega
      have HL : Hid ((V.alloc (.cells #[] 53)).ownsRow V.heap.size 53 3 (.slice (some ⟨V.heap.size, 0, none⟩) 0 0) 0 []) := Lib.hid (World.ownsRow_lit V #[] 0 (Nat.le_refl _) (by omega) rfl)
      have hR : Hid (∀ v' V' xs' B', MO w V' v' (k + 1) xs' ns B' g → CpRel w N ns g v' (.int .i64 ((k : Int) + 1)) V') := Lib.hid (fun v' V' xs' B' h => ⟨k + 1, xs', B', rfl, by omega, h⟩)
      have hl := hM.ow.1
      have hVs := hM.be.size
      obtain ⟨ki1, ki2, ki3, ki4⟩ := KI.out
      clear hp
      have hc1 := kc (ba (Below.refl _ V) (.cells #[] 53)) hc
      have NW := fun (X : World) (u : Value) => news_one X u 32
      go_wp2_with (at_builtin; first
        | (refine wpList_all2 V.heap.size V.heap.size (ns k) c' a' (g k) rfl _ _ rfl rfl rfl HL.out (pa_below HP.out (ba (Below.refl _ _) _)) hn (by simp) ?_; intro ap cp bp W1 q1 q2 q3 q4 q5 hg1; have hB1 : Below V.heap.size V W1 := gB (ba (Below.refl _ _) _) hg1 (Nat.le_refl _); have hV1 := hB1.size; clear hg1)
        | (refine wpList_append_lies _ rfl _ _ 28 rfl w.heap.size 32 i0 _ 1 24 Try.underlying28 ki1 ki2 ki3 ki4 rfl (by decide) _ k xs rfl (mo_below hM (ba hB1 _)).ow ⟨W1.heap.size, 0, none⟩ 1 1 [.slice ap (ns k) cp] rfl rfl (NW W1 _) (by intro u hu; simp at hu; subst hu; rfl) (by omega) (by unfold maxLen; omega) (by omega) (by simp; omega) _ rfl ?_; intro s cap W2 hown2 hg2 hat2 hlt2))
      have R := Lib.hid (hR.out _ _ _ _ (mo_app (b := bp) hM (ba hB1 _) rfl q1 q2 q4 q5 (po_below q3 (ba (Below.refl _ _) _)) hown2 hg2 hat2))
      clear hown2 hg2 hat2 hM hR q3 q4 q5
      go_wp2_with fail
      exact ⟨R.out, by simp [intOf]; omega⟩
    · obtain rfl : k = N := by omega
      go_wp2_with fail
      go_ret
      exact ⟨_, _, _, rfl, hM⟩
end Go.Proofs.Ytdgagjcocohnnaa.Ot
