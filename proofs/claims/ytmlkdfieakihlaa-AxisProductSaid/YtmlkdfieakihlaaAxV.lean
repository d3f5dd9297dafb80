/-
  Layer 5 (axis): Region of the document's own.
-/
import Derived.Test.YtmlkdfieakihlaaAxO
import Derived.Test.YtmlkdfieakihlaaAxI
namespace Go.Proofs.Ytmlkdfieakihlaa.Ax
open Go.RowKit

/-- The cells of tents in a row. -/
def TL (xs : List Value) (k : Nat) (g : Nat → Tns) : Prop := ∀ i, i < k → xs[i * 3]? = some (.int .i64 (g i).l) ∧ xs[i * 3 + 1]? = some (.int .i64 (g i).p) ∧ xs[i * 3 + 2]? = some (.int .i64 (g i).h)
theorem tl_next {xs : List Value} {k : Nat} {g : Nat → Tns} (h : TL xs k g) (hl : xs.length = k * 3) (x : Tns) : TL (xs ++ [.int .i64 x.l, .int .i64 x.p, .int .i64 x.h]) (k + 1) (fun i => if i = k then x else g i) := by
  intro i hi
  by_cases e : i = k
  · subst e
    simp only [if_true]
    refine ⟨?_, ?_, ?_⟩
    · rw [List.getElem?_append_right (by omega), hl, Nat.sub_self]; rfl
    · rw [List.getElem?_append_right (by omega), hl, show i * 3 + 1 - i * 3 = 1 by omega]; rfl
    · rw [List.getElem?_append_right (by omega), hl, show i * 3 + 2 - i * 3 = 2 by omega]; rfl
  · simp only [if_neg e]
    obtain ⟨h1, h2, h3⟩ := h i (by omega)
    refine ⟨?_, ?_, ?_⟩
    · rw [List.getElem?_append_left (by omega)]; exact h1
    · rw [List.getElem?_append_left (by omega)]; exact h2
    · rw [List.getElem?_append_left (by omega)]; exact h3
theorem own_ta {w V : World} {T : TypeId} {v : Value} {k : Nat} {xs : List Value} {g : Nat → Tns} (h : V.ownsRow (w.heap.size + 1) T 3 v k xs) (hx : TL xs k g) :
    ∃ (a : Option Addr) (c : Nat), v = .slice a k c ∧ k ≤ c ∧ c ≤ 9223372036854775807 ∧ TA V a k g := by
  rcases h.2 with ⟨rfl, rfl⟩ | ⟨b, cap, cur, rfl, hb, hh, hkc, hcm, _⟩
  · exact ⟨none, 0, rfl, Nat.le_refl _, by omega, fun i hi => absurd hi (by omega)⟩
  · unfold maxLen at hcm
    refine ⟨some ⟨b, 0, none⟩, cap, rfl, hkc, by omega, fun i hi => ⟨b, 0, rfl, ?_⟩⟩
    obtain ⟨h1, h2, h3⟩ := hx i hi
    rw [Nat.zero_add]
    exact ⟨by rw [h.cellAt _ (by omega)]; exact h1, by rw [h.cellAt _ (by omega)]; exact h2, by rw [h.cellAt _ (by omega)]; exact h3⟩
theorem infoT : (Try.prog.info? 52).map (fun i => (i.zero, i.size, i.bytes)) = some (some (.agg #[.int .i64 0, .int .i64 0, .int .i64 0]), 3, 24) := by kernel_rfl
theorem news_tn (W : World) (x : Tns) (T : TypeId) : ∀ j u, [Value.int .i64 x.l, .int .i64 x.p, .int .i64 x.h][j]? = some u → (W.alloc (.cells #[.int .i64 x.l, .int .i64 x.p, .int .i64 x.h] T)).cell? ((⟨W.heap.size, 0, none⟩ : Addr).add j) = some u := by
  intro j u hj
  match j, hj with
  | 0, hj => simp at hj; subst hj; simp [Addr.add]
  | 1, hj => simp at hj; subst hj; simp [Addr.add]
  | 2, hj => simp at hj; subst hj; simp [Addr.add]
theorem mk_vt {x : Tns} (h1 : -64 ≤ x.l) (h2 : x.l ≤ x.p) (h3 : x.p ≤ x.h) (h4 : x.h ≤ 64) (h5 : 0 ≤ x.l ∨ x.h ≤ 0 ∨ x.p = 0) : vt x = true := by
  unfold vt tSide
  rw [(tOrd_iff x).2 ⟨h1, h2, h3, h4⟩]
  simpa [or_assoc] using h5
theorem mi_box {w V : World} {T : TypeId} {sz : Nat} {a : Option Addr} {L c : Nat} {l : Nat → Int} {v : Value} {k : Nat} {xs : List Value} {B o : Nat} (h : MI w V T sz a L c l v k xs) (HA : LA w a L l) (hB : w.heap.size < B) (hv : v.ownBlock ≠ some B) (u : Value) : MI w (V.setCell ⟨B, o, none⟩ u) T sz a L c l v k xs := by
  obtain ⟨⟨⟨k0, h1, d0, d1, d2⟩, h2⟩, h3, h4⟩ := h
  have hne : ¬ B = w.heap.size := by omega
  have hb := bs h4 (p := ⟨B, o, none⟩) (Nat.le_of_lt hB) u
  exact ⟨⟨⟨k0, h1, by go_cell, by go_cell, by go_cell⟩, la_below HA hb⟩, ownsRow_setCell_other h3 hv u, hb⟩
def RgRel (w : World) (a : Option Addr) (L c : Nat) (l : Nat → Int) (m : Nat) (s6 s7 : Value) (V : World) : Prop :=
  ∃ (k : Nat) (xs : List Value) (g : Nat → Tns), s7 = .int .i64 (k : Int) ∧ k ≤ m ∧ MI w V 52 3 a L c l s6 k xs ∧ TL xs k g ∧ ∀ i, i < k → vt (g i) = true
set_option maxRecDepth 100000 in
set_option maxHeartbeats 8000000 in
theorem Region_any (a : Option Addr) (L c : Nat) (l : Nat → Int) (m : Nat) (hm : m ≤ 3) (hL : L ≤ 9223372036854775807) (hl : ∀ i, i < L → R64 (l i)) (w : World) (hA : LA w a L l) :
    Calls Try.prog 18 #[.slice a L c, .int .i64 (m : Int)] w fun e w' => ∃ (a' : Option Addr) (c' : Nat) (g : Nat → Tns), e = .returned (.slice a' m c') ∧ m ≤ c' ∧ c' ≤ 9223372036854775807 ∧ TA w' a' m g ∧ (∀ i, i < m → vt (g i) = true) ∧ Below w.heap.size w w' := by
  have hne : ∀ q, a = some q → 0 < L → q.block ≠ w.heap.size := by
    intro q hq h0
    obtain ⟨b, o, e, hc⟩ := hA 0 h0
    rw [hq] at e
    cases e
    have := block_lt_of_cell hc
    simp only at this ⊢
    omega
  have NX : Hid (∀ (n : Int), 1 ≤ n → n ≤ 1000000 → ∀ V, DW V w.heap.size a L c l → _) := Lib.hid (fun n h1 h2 V h => Next_w w.heap.size a L c l n ⟨h1, h2⟩ hL hl hne V h)
  have N5 := Lib.hid (NX.out 5 (by omega) (by omega))
  have N40 := Lib.hid (NX.out 40 (by omega) (by omega))
  have N25 := Lib.hid (NX.out 25 (by omega) (by omega))
  have N30 := Lib.hid (NX.out 30 (by omega) (by omega))
  have KI := Lib.hid (info_parts infoT)
  have hM := mi_start w 52 3 a L c l hA 58
  have HA := Lib.hid hA
  clear hA NX hne hL hl
  go_enter Try.func18, Try.ntmps18
  go_wp2_with fail
  go_loopw [6, 7] (fun s6 s7 V => RgRel w a L c l m s6 s7 V) (fun _ s7 _ => m - (intOf s7).toNat)
  case atStart => exact ⟨0, [], fun _ => ⟨0, 0, 0⟩, rfl, by omega, hM, fun i hi => absurd hi (by omega), fun i hi => absurd hi (by omega)⟩
  case round =>
    clear hM
    obtain ⟨k, xs, g, rfl, hk, hM, hx, hok⟩ := hrel
    rename World => V
    rcases Nat.lt_or_ge k m with hkm | hkm
    · go_wp2_with fail
      refine (N40.out _ hM.dw).mono ?_
      rintro e V2 ⟨lo, rfl, hlo, hd, hg⟩
      replace hM := mi_next hM hd hg
      clear hd hg
      go_wp2_with fail
      refine (N25.out _ hM.dw).mono ?_
      rintro e V3 ⟨p1, rfl, hp1, hd, hg⟩
      replace hM := mi_next hM hd hg
      clear hd hg
      have q1 : wrap64 ((lo : Int) + (p1 : Int)) = (lo : Int) + (p1 : Int) := w64 (by omega)
      go_wp2_with fail
      refine (N30.out _ hM.dw).mono ?_
      rintro e V4 ⟨p2, rfl, hp2, hd, hg⟩
      replace hM := mi_next hM hd hg
      clear hd hg
      have q2 : wrap64 ((lo : Int) + (p1 : Int) + (p2 : Int)) = (lo : Int) + (p1 : Int) + (p2 : Int) := w64 (by omega)
      obtain ⟨hi, hhi⟩ : ∃ hi : Int, min ((lo : Int) + (p1 : Int) + (p2 : Int)) 64 = hi := ⟨_, rfl⟩
      obtain ⟨pk, hpk⟩ : ∃ pk : Int, min ((lo : Int) + (p1 : Int)) hi = pk := ⟨_, rfl⟩
      have hr : (0 ≤ (lo : Int) ∧ (lo : Int) ≤ pk ∧ pk ≤ hi ∧ hi ≤ 64) := by omega
      have hlt := mi_lt hM
      have hbB : w.heap.size + 1 ≤ V4.heap.size := hlt
      have hT := bxt_new V4 ⟨lo, pk, hi⟩ 52
      have hTf : ∀ j, (V4.alloc (.cells #[.int .i64 (lo : Int), .int .i64 pk, .int .i64 hi] 52)).frozen? ⟨V4.heap.size, j, none⟩ = false := fun j => by go_cell
      have hvB : u6.ownBlock ≠ some V4.heap.size := fun e => by have := (hM.ow.lt _ e).2; omega
      go_wp2_with fail
      refine (N5.out _ (mi_alloc hM _).dw).mono ?_
      rintro e V5 ⟨p3, rfl, hp3, hd, hg⟩
      have hTB : V4.heap.size ≠ w.heap.size := by omega
      have t0 := gc hg hT.1 hTB
      have t1 := gc hg hT.2.1 hTB
      have t2 := gc hg hT.2.2 hTB
      have hfz : ∀ j, V5.frozen? ⟨V4.heap.size, j, none⟩ = false := fun j => by
        rw [hg.frozen_far ⟨V4.heap.size, j, none⟩ (by simp) (fun e => hTB (Option.some.inj e))]
        exact hTf j
      have z0 := hfz 0
      have z1 := hfz 1
      have z2 := hfz 2
      replace hM := mi_next (mi_alloc hM _) hd hg
      have hwB : w.heap.size < V4.heap.size := hlt
      have hB5 : V4.heap.size < V5.heap.size := block_lt_of_cell t0
      clear hd hg hT hTf hfz hTB hlt hbB
      obtain ⟨B, hBe⟩ : ∃ B, B = V4.heap.size := ⟨_, rfl⟩
      rw [← hBe] at t0 t1 t2 z0 z1 z2 hwB hvB hB5 ⊢
      clear hBe
      simp only at t0 t1 t2
      obtain ⟨i0, ki1, ki2, ki3, ki4⟩ := KI.out
      have hlen := hM.ow.1
      have R : Hid (∀ (x : Tns) (v' : Value) (V' V6 : World), vt x = true → MI w V6 52 3 a L c l u6 k xs → V'.ownsRow (w.heap.size + 1) 52 3 v' (k + 1) (xs ++ [.int .i64 x.l, .int .i64 x.p, .int .i64 x.h]) → V6.grownBy V' u6.ownBlock → RgRel w a L c l m v' (.int .i64 ((k : Int) + 1)) V') :=
        Lib.hid (fun x v' V' V6 hv h0 h1 h2 => ⟨k + 1, _, _, rfl, by omega, mi_app h0 HA.out h1 h2, tl_next hx hlen x, fun i hi => by
          by_cases e : i = k
          · simp only [if_pos e]; exact hv
          · simp only [if_neg e]; exact hok i (by omega)⟩)
      clear hok hx
      rcases (show p3 = 0 ∨ p3 = 1 ∨ p3 = 2 ∨ 3 ≤ p3 by omega) with hc | hc | hc | hc
      · have e0 : ((p3 : Int) == 0) = true := beq_iff_eq.2 (by omega)
        have w1 : wrap64 (-hi) = -hi := w64 (by omega)
        have w2 : wrap64 (-pk) = -pk := w64 (by omega)
        have w3 : wrap64 (-(lo : Int)) = -(lo : Int) := w64 (by omega)
        have hM2 := mi_box (o := 2) (mi_box (o := 1) (mi_box (o := 0) hM HA.out hwB hvB (.int .i64 (-hi))) HA.out hwB hvB (.int .i64 (-pk))) HA.out hwB hvB (.int .i64 (-(lo : Int)))
        have hM3 := mi_alloc hM2 (.cells #[.int .i64 (-hi), .int .i64 (-pk), .int .i64 (-(lo : Int))] 52)
        have NW := news_tn (((V5.setCell ⟨B, 0, none⟩ (.int .i64 (-hi))).setCell ⟨B, 1, none⟩ (.int .i64 (-pk))).setCell ⟨B, 2, none⟩ (.int .i64 (-(lo : Int)))) ⟨-hi, -pk, -(lo : Int)⟩ 52
        simp only [World.size_setCell] at NW
        have hlt2 := mi_lt hM2
        simp only [World.size_setCell] at hlt2
        have R1 := Lib.hid (fun v' V' => R.out ⟨-hi, -pk, -(lo : Int)⟩ v' V' _ (mk_vt (by first | omega | (simp only; omega)) (by first | omega | (simp only; omega)) (by first | omega | (simp only; omega)) (by first | omega | (simp only; omega)) (by first | omega | (simp only; omega) | exact Or.inr (Or.inr rfl))) hM3)
        go_wp2_with (at_builtin; refine wpList_append_lies _ rfl _ _ 40 rfl (w.heap.size + 1) 52 i0 _ 3 24 Try.underlying40 ki1 ki2 ki3 ki4 rfl (by decide) _ k _ rfl hM3.ow ⟨V5.heap.size, 0, none⟩ 1 1 _ rfl rfl NW (by intro u hu; simp at hu; rcases hu with rfl | rfl | rfl <;> rfl) (by omega) (by unfold maxLen; omega) (by omega) (by simp; omega) _ rfl ?_; intro g' cap' w9 hown9 hgrow9 hat9 hlt9)
        have R9 := Lib.hid (R1.out _ _ hown9 hgrow9)
        clear R R1 hM2 hM3 hM
        go_wp2_with fail
        exact ⟨R9.out, by simp [intOf]; omega⟩
      · have e0 : ((p3 : Int) == 0) = false := beq_eq_false_iff_ne.2 (by omega)
        have e1 : ((p3 : Int) == 1) = true := beq_iff_eq.2 (by omega)
        have hM2 := mi_box (o := 2) (mi_box (o := 1) (mi_box (o := 0) hM HA.out hwB hvB (.int .i64 (0))) HA.out hwB hvB (.int .i64 (64))) HA.out hwB hvB (.int .i64 (64))
        have hM3 := mi_alloc hM2 (.cells #[.int .i64 (0), .int .i64 (64), .int .i64 (64)] 52)
        have NW := news_tn (((V5.setCell ⟨B, 0, none⟩ (.int .i64 (0))).setCell ⟨B, 1, none⟩ (.int .i64 (64))).setCell ⟨B, 2, none⟩ (.int .i64 (64))) ⟨0, 64, 64⟩ 52
        simp only [World.size_setCell] at NW
        have hlt2 := mi_lt hM2
        simp only [World.size_setCell] at hlt2
        have R1 := Lib.hid (fun v' V' => R.out ⟨0, 64, 64⟩ v' V' _ (mk_vt (by first | omega | (simp only; omega)) (by first | omega | (simp only; omega)) (by first | omega | (simp only; omega)) (by first | omega | (simp only; omega)) (by first | omega | (simp only; omega) | exact Or.inr (Or.inr rfl))) hM3)
        go_wp2_with (at_builtin; refine wpList_append_lies _ rfl _ _ 40 rfl (w.heap.size + 1) 52 i0 _ 3 24 Try.underlying40 ki1 ki2 ki3 ki4 rfl (by decide) _ k _ rfl hM3.ow ⟨V5.heap.size, 0, none⟩ 1 1 _ rfl rfl NW (by intro u hu; simp at hu; rcases hu with rfl | rfl | rfl <;> rfl) (by omega) (by unfold maxLen; omega) (by omega) (by simp; omega) _ rfl ?_; intro g' cap' w9 hown9 hgrow9 hat9 hlt9)
        have R9 := Lib.hid (R1.out _ _ hown9 hgrow9)
        clear R R1 hM2 hM3 hM
        go_wp2_with fail
        exact ⟨R9.out, by simp [intOf]; omega⟩
      · have e0 : ((p3 : Int) == 0) = false := beq_eq_false_iff_ne.2 (by omega)
        have e1 : ((p3 : Int) == 1) = false := beq_eq_false_iff_ne.2 (by omega)
        have e2 : ((p3 : Int) == 2) = true := beq_iff_eq.2 (by omega)
        have hM2 := mi_box (o := 2) (mi_box (o := 1) (mi_box (o := 0) hM HA.out hwB hvB (.int .i64 (-64))) HA.out hwB hvB (.int .i64 (0))) HA.out hwB hvB (.int .i64 (64))
        have hM3 := mi_alloc hM2 (.cells #[.int .i64 (-64), .int .i64 (0), .int .i64 (64)] 52)
        have NW := news_tn (((V5.setCell ⟨B, 0, none⟩ (.int .i64 (-64))).setCell ⟨B, 1, none⟩ (.int .i64 (0))).setCell ⟨B, 2, none⟩ (.int .i64 (64))) ⟨-64, 0, 64⟩ 52
        simp only [World.size_setCell] at NW
        have hlt2 := mi_lt hM2
        simp only [World.size_setCell] at hlt2
        have R1 := Lib.hid (fun v' V' => R.out ⟨-64, 0, 64⟩ v' V' _ (mk_vt (by first | omega | (simp only; omega)) (by first | omega | (simp only; omega)) (by first | omega | (simp only; omega)) (by first | omega | (simp only; omega)) (by first | omega | (simp only; omega) | exact Or.inr (Or.inr rfl))) hM3)
        go_wp2_with (at_builtin; refine wpList_append_lies _ rfl _ _ 40 rfl (w.heap.size + 1) 52 i0 _ 3 24 Try.underlying40 ki1 ki2 ki3 ki4 rfl (by decide) _ k _ rfl hM3.ow ⟨V5.heap.size, 0, none⟩ 1 1 _ rfl rfl NW (by intro u hu; simp at hu; rcases hu with rfl | rfl | rfl <;> rfl) (by omega) (by unfold maxLen; omega) (by omega) (by simp; omega) _ rfl ?_; intro g' cap' w9 hown9 hgrow9 hat9 hlt9)
        have R9 := Lib.hid (R1.out _ _ hown9 hgrow9)
        clear R R1 hM2 hM3 hM
        go_wp2_with fail
        exact ⟨R9.out, by simp [intOf]; omega⟩
      · have e0 : ((p3 : Int) == 0) = false := beq_eq_false_iff_ne.2 (by omega)
        have e1 : ((p3 : Int) == 1) = false := beq_eq_false_iff_ne.2 (by omega)
        have e2 : ((p3 : Int) == 2) = false := beq_eq_false_iff_ne.2 (by omega)
        have hM2 := hM
        have hM3 := mi_alloc hM2 (.cells #[.int .i64 ((lo : Int)), .int .i64 (pk), .int .i64 (hi)] 52)
        have NW := news_tn V5 ⟨(lo : Int), pk, hi⟩ 52
        have hlt2 := mi_lt hM2
        have R1 := Lib.hid (fun v' V' => R.out ⟨(lo : Int), pk, hi⟩ v' V' _ (mk_vt (by first | omega | (simp only; omega)) (by first | omega | (simp only; omega)) (by first | omega | (simp only; omega)) (by first | omega | (simp only; omega)) (by first | omega | (simp only; omega) | exact Or.inr (Or.inr rfl))) hM3)
        go_wp2_with (at_builtin; refine wpList_append_lies _ rfl _ _ 40 rfl (w.heap.size + 1) 52 i0 _ 3 24 Try.underlying40 ki1 ki2 ki3 ki4 rfl (by decide) _ k _ rfl hM3.ow ⟨V5.heap.size, 0, none⟩ 1 1 _ rfl rfl NW (by intro u hu; simp at hu; rcases hu with rfl | rfl | rfl <;> rfl) (by omega) (by unfold maxLen; omega) (by omega) (by simp; omega) _ rfl ?_; intro g' cap' w9 hown9 hgrow9 hat9 hlt9)
        have R9 := Lib.hid (R1.out _ _ hown9 hgrow9)
        clear R R1 hM2 hM3 hM
        go_wp2_with fail
        exact ⟨R9.out, by simp [intOf]; omega⟩
    · obtain rfl : k = m := by omega
      obtain ⟨a', c', rfl, h1, h2, h3⟩ := own_ta hM.ow hx
      have hbe := hM.be
      clear hM hx
      go_wp2
      go_ret
      exact ⟨a', c', g, rfl, h1, h2, h3, hok, hbe⟩
end Go.Proofs.Ytmlkdfieakihlaa.Ax
