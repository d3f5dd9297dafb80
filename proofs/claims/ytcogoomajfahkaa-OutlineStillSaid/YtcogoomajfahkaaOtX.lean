/-
  Layer 6 (outline): polygon and Flat of the document's own.
-/
import Derived.Test.YtcogoomajfahkaaOtV
import Derived.Test.YtcogoomajfahkaaOtH
namespace Go.Proofs.Ytcogoomajfahkaa.Ot
open Go.RowKit
theorem grO (w : World) (r : Option Nat) : w.grownBy w r := ⟨rfl, rfl, rfl, Nat.le_refl _, fun _ _ _ => rfl⟩
theorem gaO {a w : World} {r : Option Nat} (h : a.grownBy w r) (o : Obj) : a.grownBy (w.alloc o) r := gt h (ba (Below.refl _ _) o)
theorem gdO {a w : World} {r : Option Nat} (h : a.grownBy w.drew r) : a.grownBy w r := ⟨h.os, h.tape, h.output, h.size, h.block⟩
theorem far {V V' : World} {row : Option Nat} {b o : Nat} {v : Value} (h : V.grownBy V' row) (hb : row ≠ some b) (hc : V.cell? ⟨b, o, none⟩ = some v) : V'.cell? ⟨b, o, none⟩ = some v :=
  (h.cell_far ⟨b, o, none⟩ (block_lt_of_cell hc) (fun e => hb e.symm)).trans hc
theorem own_drew {w : World} {S n e sz : Nat} {v : Value} {xs : List Value} (h : w.ownsRow S e sz v n xs) : w.drew.ownsRow S e sz v n xs := h
/-- The first points of a curve. -/
def crvL (g : Nat → Pt) (n k j : Nat) : List Pt := (List.range j).map fun i => crvP g n k (i + 1)
theorem crvL_all (g : Nat → Pt) (n k : Nat) : crvL g n k (crvN g n k) = crv g n k := rfl
theorem crvL_next (g : Nat → Pt) (n k j : Nat) : crvL g n k (j + 1) = crvL g n k j ++ [crvP g n k (j + 1)] := by unfold crvL; rw [List.range_succ, List.map_append]; rfl
theorem crvL_len (g : Nat → Pt) (n k j : Nat) : (crvL g n k j).length = j := by unfold crvL; simp
def RpRel (w : World) (g : Nat → Pt) (n : Nat) (s3 s4 : Value) (V : World) : Prop :=
  ∃ k : Nat, s4 = .int .i64 k ∧ k ≤ n ∧ V.ownsRow w.heap.size 62 3 s3 (plK g n k).length (vals (plK g n k)) ∧ Below w.heap.size w V
def RqRel (w W0 : World) (row0 : Option Nat) (l : List Pt) (g : Nat → Pt) (n k N : Nat) (s3 s9 : Value) (V : World) : Prop :=
  ∃ j : Nat, s9 = .int .i64 ((j : Int) + 1) ∧ j ≤ N ∧ V.ownsRow w.heap.size 62 3 s3 (l.length + j) (vals (l ++ crvL g n k j)) ∧ W0.grownBy V row0 ∧ (s3.ownBlock = row0 ∨ ∃ q, s3.ownBlock = some q ∧ W0.heap.size ≤ q)
set_option maxRecDepth 100000 in
set_option maxHeartbeats 8000000 in
theorem rpolygon_any (a : Option Addr) (n c : Nat) (g : Nat → Pt) (hn : n ≤ 1000000) (w : World) (hA : PA w a n g) :
    Calls Try.prog 45 #[.slice a n c] w fun e w' => ∃ v, e = .returned v ∧ w'.ownsRow w.heap.size 62 3 v (plK g n n).length (vals (plK g n n)) ∧ Below w.heap.size w w' := by
  obtain ⟨i0, ki1, ki2, ki3, ki4⟩ := info_parts infoP
  have KI := Lib.hid (And.intro ki1 (And.intro ki2 (And.intro ki3 ki4)))
  have HA := Lib.hid hA
  clear hA ki1 ki2 ki3 ki4
  go_enter Try.func45, Try.ntmps45
  go_wp2_with fail
  go_loopw [3, 4] (fun s3 s4 V => RpRel w g n s3 s4 V) (fun _ s4 _ => n - (intOf s4).toNat)
  case atStart => exact ⟨0, rfl, by omega, by simpa [plK, vals] using World.ownsRow_nil _ _ _ _, Below.refl _ _⟩
  case round =>
    obtain ⟨k, rfl, hk, hown, hB⟩ := hrel
    rename World => V
    have hsz := hB.size
    rcases Nat.lt_or_ge k n with hkn | hkn
    · obtain ⟨b, o, rfl, x0, x1, x2⟩ := pa_below HA.out hB k hkn
      have hblt : b < w.heap.size := by
        obtain ⟨b', o', e, y0, _⟩ := HA.out k hkn
        cases e
        exact block_lt_of_cell y0
      have k2 : (0 : Int) ≤ (k : Int) := by omega
      have k3 : (k : Int) < (n : Int) := by omega
      have hle := plK_le g n k
      have ON := Lib.hid (fun V' h => rOn_any (some ⟨b, o, none⟩) n c g k hkn V' (pa_below (pa_below HA.out hB) h))
      have hR : Hid (∀ v' V', V'.ownsRow w.heap.size 62 3 v' (plK g n (k + 1)).length (vals (plK g n (k + 1))) → Below w.heap.size w V' → RpRel w g n v' (.int .i64 ((k : Int) + 1)) V') := Lib.hid (fun v' V' h1 h2 => ⟨k + 1, rfl, by omega, h1, h2⟩)
      have hst : Hid (plK g n (k + 1) = plK g n k ++ stepL g n k) := Lib.hid rfl
      have hl0 : (plK g n k).length ≤ 4000000 := by omega
      rcases hon : onB g k with _ | _
      · rw [hon] at ON
        have hk0 : 1 ≤ k := by
          rcases Nat.eq_zero_or_pos k with h | h
          · subst h; unfold onB at hon; simp at hon
          · exact h
        have hsl : Hid (stepL g n k = crv g n k) := Lib.hid (by unfold stepL; rw [hon]; rfl)
        clear hon
        obtain ⟨m, hm⟩ : ∃ m, (k + 1) % n = m := ⟨_, rfl⟩
        obtain ⟨k1, hk1⟩ : ∃ k1, k - 1 = k1 := ⟨_, rfl⟩
        have hmn : m < n := by rw [← hm]; exact Nat.mod_lt _ (by omega)
        have HV := Lib.hid (pa_below HA.out hB)
        have E1 := Lib.hid (fun V' h => rEnd_any (some ⟨b, o, none⟩) n c g k k1 hkn (by omega) V' (pa_below HV.out h))
        have E2 := Lib.hid (fun V' h => rEnd_any (some ⟨b, o, none⟩) n c g k m hkn hmn V' (pa_below HV.out h))
        have ON2 := Lib.hid (fun V' h => rOn_any (some ⟨b, o, none⟩) n c g m hmn V' (pa_below HV.out h))
        have i1 : (k : Int) - 1 = (k1 : Int) := by omega
        have i2 : ((k : Int) + 1).tmod (n : Int) = (m : Int) := by rw [Int.tmod_eq_emod_of_nonneg (by omega), ← hm]; simp
        have i3 : ((k : Int) + 1) % (n : Int) = (m : Int) := by rw [← hm]; simp
        have j1 : (1 : Int) ≤ (k : Int) := by omega
        have j3 : (n : Int) ≤ 1000000 := by omega
        have j4 : ¬ (n : Int) = 0 := by omega
        have j5 : ((n : Int) == 0) = false := beq_eq_false_iff_ne.2 j4
        have j6 : (1 : Int) ≤ (n : Int) := by omega
        have hP : Hid (∀ t, crvP g n k t = ⟨cv (endX g k k1) (g k).x (endX g k m) t, cv (endY g k k1) (g k).y (endY g k m) t, true⟩) := Lib.hid (fun t => by unfold crvP; rw [hm, hk1])
        go_wp2_with fail
        refine (ON.out _ (Below.refl _ _)).mono ?_
        rintro e V1 ⟨rfl, rfl⟩
        go_wp2_with fail
        refine (E1.out _ (Below.refl _ _)).mono ?_
        rintro e V1 ⟨rfl, hB1⟩
        go_wp2_with fail
        refine (E2.out _ (ba hB1 _)).mono ?_
        rintro e V2 ⟨rfl, hB2⟩
        generalize endX g k k1 = ux at *
        generalize endY g k k1 = uy at *
        generalize endX g k m = vx at *
        generalize endY g k m = vy at *
        have a0 := kc (ba hB2 (.cells #[.int .i64 vx, .int .i64 vy, .bool false] 62)) (show (V1.alloc (.cells #[.int .i64 ux, .int .i64 uy, .bool false] 62)).cell? ⟨V1.heap.size, 0, none⟩ = some (.int .i64 ux) by go_cell)
        have a1 := kc (ba hB2 (.cells #[.int .i64 vx, .int .i64 vy, .bool false] 62)) (show (V1.alloc (.cells #[.int .i64 ux, .int .i64 uy, .bool false] 62)).cell? ⟨V1.heap.size, 1, none⟩ = some (.int .i64 uy) by go_cell)
        have c0 : (V2.alloc (.cells #[.int .i64 vx, .int .i64 vy, .bool false] 62)).cell? ⟨V2.heap.size, 0, none⟩ = some (.int .i64 vx) := by go_cell
        have c1 : (V2.alloc (.cells #[.int .i64 vx, .int .i64 vy, .bool false] 62)).cell? ⟨V2.heap.size, 1, none⟩ = some (.int .i64 vy) := by go_cell
        have hBV3 : Below V.heap.size V (V2.alloc (.cells #[.int .i64 vx, .int .i64 vy, .bool false] 62)) := ba (bt (ba hB1 _) hB2) _
        have hd1 := hB1.size
        have hd2 := hB2.size
        simp only [World.size_alloc] at hd2
        have hBw3 : Below w.heap.size w (V2.alloc (.cells #[.int .i64 vx, .int .i64 vy, .bool false] 62)) := bt hB hBV3
        clear E1 E2 hB1 hB2
        rcases hon2 : onB g m with _ | _
        · have hN' : Hid (crvN g n k = 4) := Lib.hid (by unfold crvN; rw [hm, hon2]; rfl)
          rw [hon2] at ON2
          clear hon2
          go_wp2_with fail
          refine (ON2.out _ hBV3).mono ?_
          rintro e V4 ⟨rfl, rfl⟩
          clear ON2
          replace x0 := kc hBV3 x0
          replace x1 := kc hBV3 x1
          have hs3 : V2.heap.size < (V2.alloc (.cells #[.int .i64 vx, .int .i64 vy, .bool false] 62)).heap.size := by simp
          generalize (V2.alloc (.cells #[.int .i64 vx, .int .i64 vy, .bool false] 62)) = V3 at *
          obtain ⟨row0, hrw⟩ : ∃ r, u3.ownBlock = r := ⟨_, rfl⟩
          have R0 : RqRel w V3 row0 (plK g n k) g n k 4 u3 (.int .i64 1) V3 := ⟨0, rfl, by omega, by simpa [crvL] using own_keep hown hBV3, grO _ _, .inl hrw⟩
          have hrow0 : ∀ q, row0 = some q → q < V.heap.size := fun q hq => (hown.lt q (hrw.trans hq)).2
          have hrow1 : ∀ q, row0 = some q → w.heap.size ≤ q := fun q hq => (hown.lt q (hrw.trans hq)).1
          have hC : Hid (plK g n k ++ crvL g n k 4 = plK g n (k + 1)) := Lib.hid (by rw [hst.out, hsl.out, ← crvL_all, hN'.out])
          clear hown hrw
          go_wp2_with fail
          go_loopw [3, 9] (fun s3 s9 V => RqRel w V3 row0 (plK g n k) g n k 4 s3 s9 V) (fun _ s9 _ => 6 - (intOf s9).toNat)
          case atStart => exact R0
          case round =>
            clear R0
            rename_i v3 _
            obtain ⟨j, rfl, hj, hown, hG, hro⟩ := hrel
            rename World => V4
            have hj1 : (j : Int) + 1 ≤ 6 := by omega
            rcases Nat.lt_or_ge j 4 with hjN | hjN
            · have hn1 : ∀ q, u3.ownBlock = some q → q ≠ V1.heap.size ∧ q ≠ V2.heap.size ∧ w.heap.size ≤ q := by
                intro q hq
                rcases hro with h | ⟨q', h, h'⟩
                · have h1 := hrow0 q (h ▸ hq)
                  have h2 := hrow1 q (h ▸ hq)
                  exact ⟨by omega, by omega, h2⟩
                · rw [hq] at h
                  cases h
                  exact ⟨by omega, by omega, by omega⟩
              have hr0 : ∀ q, row0 = some q → q ≠ V1.heap.size ∧ q ≠ V2.heap.size ∧ w.heap.size ≤ q := fun q hq => ⟨by have := hrow0 q hq; omega, by have := hrow0 q hq; omega, hrow1 q hq⟩
              have A0 : ∀ w', V4.grownBy w' u3.ownBlock → w'.cell? ⟨V1.heap.size, 0, none⟩ = some (.int .i64 ux) := fun _ h => far h (fun e => (hn1 _ e).1 rfl) (far hG (fun e => (hr0 _ e).1 rfl) a0)
              have A1 : ∀ w', V4.grownBy w' u3.ownBlock → w'.cell? ⟨V1.heap.size, 1, none⟩ = some (.int .i64 uy) := fun _ h => far h (fun e => (hn1 _ e).1 rfl) (far hG (fun e => (hr0 _ e).1 rfl) a1)
              have C0 : ∀ w', V4.grownBy w' u3.ownBlock → w'.cell? ⟨V2.heap.size, 0, none⟩ = some (.int .i64 vx) := fun _ h => far h (fun e => (hn1 _ e).2.1 rfl) (far hG (fun e => (hr0 _ e).2.1 rfl) c0)
              have C1 : ∀ w', V4.grownBy w' u3.ownBlock → w'.cell? ⟨V2.heap.size, 1, none⟩ = some (.int .i64 vy) := fun _ h => far h (fun e => (hn1 _ e).2.1 rfl) (far hG (fun e => (hr0 _ e).2.1 rfl) c1)
              have X0 : ∀ w', V4.grownBy w' u3.ownBlock → w'.cell? ⟨b, o + k * 3, none⟩ = some (.int .i64 (g k).x) := fun _ h => far h (fun e => by have := (hn1 _ e).2.2; omega) (far hG (fun e => by have := (hr0 _ e).2.2; omega) x0)
              have X1 : ∀ w', V4.grownBy w' u3.ownBlock → w'.cell? ⟨b, o + k * 3 + 1, none⟩ = some (.int .i64 (g k).y) := fun _ h => far h (fun e => by have := (hn1 _ e).2.2; omega) (far hG (fun e => by have := (hr0 _ e).2.2; omega) x1)
              have OX : Hid (∀ w, Calls Try.prog 64 #[.int .i64 ux, .int .i64 (g k).x, .int .i64 vx, .int .i64 ((j : Int) + 1)] w fun e w' => e = .returned (.int .i64 (cv ux (g k).x vx ((j + 1 : Nat) : Int))) ∧ w = w') := Lib.hid (fun w => at_any ux (g k).x vx (j + 1) (by omega) w)
              have OY : Hid (∀ w, Calls Try.prog 64 #[.int .i64 uy, .int .i64 (g k).y, .int .i64 vy, .int .i64 ((j : Int) + 1)] w fun e w' => e = .returned (.int .i64 (cv uy (g k).y vy ((j + 1 : Nat) : Int))) ∧ w = w') := Lib.hid (fun w => at_any uy (g k).y vy (j + 1) (by omega) w)
              have hq : Hid (crvP g n k (j + 1) = ⟨cv ux (g k).x vx ((j + 1 : Nat) : Int), cv uy (g k).y vy ((j + 1 : Nat) : Int), true⟩) := Lib.hid (hP.out _)
              have hNX : Hid (∀ v' V', V'.ownsRow w.heap.size 62 3 v' ((plK g n k).length + (j + 1)) (vals (plK g n k ++ crvL g n k (j + 1))) → V3.grownBy V' row0 → (v'.ownBlock = row0 ∨ ∃ q, v'.ownBlock = some q ∧ V3.heap.size ≤ q) → RqRel w V3 row0 (plK g n k) g n k 4 v' (.int .i64 ((j : Int) + 1 + 1)) V') := Lib.hid (fun v' V' h1 h2 h3 => ⟨j + 1, by simp, by omega, h1, h2, h3⟩)
              generalize cv ux (g k).x vx ((j + 1 : Nat) : Int) = rx at *
              generalize cv uy (g k).y vy ((j + 1 : Nat) : Int) = ry at *
              obtain ⟨ki1, ki2, ki3, ki4⟩ := KI.out
              have t1 : (0 : Int) ≤ (j : Int) := by omega
              have t2 : (j : Int) < 4 := by omega
              have t4 : wrap64 ((j : Int) + 1 + 1) = (j : Int) + 1 + 1 := w_in ⟨by omega, by omega⟩
              have hs4 := hG.size
              have HT : Hid (∀ V', V4.grownBy V' u3.ownBlock → V3.grownBy V' row0) := Lib.hid (fun V' h => by
                rcases hro with h1 | ⟨q, h1, h2⟩
                · rw [h1] at h
                  exact World.grownBy.trans hG h
                · rw [h1] at h
                  exact ⟨h.os.trans hG.os, h.tape.trans hG.tape, h.output.trans hG.output, Nat.le_trans hG.size h.size, fun i hi hne => (h.block i (by omega) (fun e => by cases e; omega)).trans (hG.block i hi hne)⟩)
              have HO : Hid (∀ g9 : Nat, (u3.ownBlock = some g9 ∨ V4.heap.size ≤ g9) → some g9 = row0 ∨ ∃ q, some g9 = some q ∧ V3.heap.size ≤ q) := Lib.hid (fun g9 h => by
                rcases h with h | h
                · rcases hro with h1 | ⟨q, h1, h2⟩
                  · exact .inl (h.symm.trans h1)
                  · rw [h] at h1
                    exact .inr ⟨q, h1, h2⟩
                · exact .inr ⟨g9, rfl, by omega⟩)
              have hws : w.heap.size ≤ V3.heap.size := hBw3.size
              clear x0 x1 x2 a0 a1 c0 c1 hR hC hP hst hsl hN' HV i1 i2 i3 hrow0 hrow1 hn1 hr0 hro hG hBw3 hBV3 hm hk1 hd1 hd2 hs3
              generalize (plK g n k).length = L at *
              go_upto_region 16 with (fail)
              have NW := news_pt V4.drew ⟨rx, ry, true⟩ 62
              go_region_held_law (fun w' => V4.grownBy w' u3.ownBlock) (first
                | (with_reducible exact gd1 (grO _ _))
                | (with_reducible exact gaO (by assumption) _)
                | (with_reducible exact gd1 (gaO (grO _ _) _))
                | (with_reducible assumption)
                | (with_reducible exact World.grownBy.trans (by assumption) hgrow9))
                (first
                | (refine step_append_lies _ (by rfl) _ _ 60 (by rfl) w.heap.size 62 i0 _ 3 24 Try.underlying60 ki1 ki2 ki3 ki4 rfl (by decide) _ (L + j) _ (by rfl) ((own_drew hown).alloc _) ⟨V4.heap.size, 0, none⟩ 1 1 (ptVs ⟨rx, ry, true⟩) (by rfl) rfl NW (by intro u hu; simp [ptVs] at hu; rcases hu with rfl | rfl | rfl <;> rfl) (by omega) (by unfold maxLen; omega) (by omega) (by simp; omega) _ rfl ?_; intro g9 cap9 w9 hown9 hgrow9 hat9 hlt9)
                | ((with_reducible refine (OX.out _).mono ?_); rintro en wa ⟨rfl, rfl⟩)
                | ((with_reducible refine (OY.out _).mono ?_); rintro en wa ⟨rfl, rfl⟩))
              have R := Lib.hid (hNX.out _ _ (by rw [crvL_next, hq.out, ← List.append_assoc, vals_app]; simpa [vals, Nat.add_assoc] using hown9) (HT.out _ (World.grownBy.trans (gaO (gd1 (grO _ _)) _) hgrow9)) (by
                have := HO.out g9 (by
                  rcases hat9 with h | h
                  · exact .inl h
                  · exact .inr (by simp at h; omega))
                simpa [Value.ownBlock] using this))
              clear hown9 hgrow9 hat9 NW hNX HT HO OX OY A0 A1 C0 C1 X0 X1 hown hq
              go_wp2_with fail
              exact ⟨R.out, by simp [intOf]; omega⟩
            · obtain rfl : j = 4 := by omega
              have R := Lib.hid (hR.out _ V4 (by rw [← hC.out, List.length_append, crvL_len]; exact hown) (gBo hBw3 hG hrow1))
              clear hown hG hR
              go_wp2_with fail
              exact ⟨R.out, by simp [intOf]; omega⟩
        · have hN' : Hid (crvN g n k = 3) := Lib.hid (by unfold crvN; rw [hm, hon2]; rfl)
          rw [hon2] at ON2
          clear hon2
          go_wp2_with fail
          refine (ON2.out _ hBV3).mono ?_
          rintro e V4 ⟨rfl, rfl⟩
          clear ON2
          replace x0 := kc hBV3 x0
          replace x1 := kc hBV3 x1
          have hs3 : V2.heap.size < (V2.alloc (.cells #[.int .i64 vx, .int .i64 vy, .bool false] 62)).heap.size := by simp
          generalize (V2.alloc (.cells #[.int .i64 vx, .int .i64 vy, .bool false] 62)) = V3 at *
          obtain ⟨row0, hrw⟩ : ∃ r, u3.ownBlock = r := ⟨_, rfl⟩
          have R0 : RqRel w V3 row0 (plK g n k) g n k 3 u3 (.int .i64 1) V3 := ⟨0, rfl, by omega, by simpa [crvL] using own_keep hown hBV3, grO _ _, .inl hrw⟩
          have hrow0 : ∀ q, row0 = some q → q < V.heap.size := fun q hq => (hown.lt q (hrw.trans hq)).2
          have hrow1 : ∀ q, row0 = some q → w.heap.size ≤ q := fun q hq => (hown.lt q (hrw.trans hq)).1
          have hC : Hid (plK g n k ++ crvL g n k 3 = plK g n (k + 1)) := Lib.hid (by rw [hst.out, hsl.out, ← crvL_all, hN'.out])
          clear hown hrw
          go_wp2_with fail
          go_loopw [3, 9] (fun s3 s9 V => RqRel w V3 row0 (plK g n k) g n k 3 s3 s9 V) (fun _ s9 _ => 6 - (intOf s9).toNat)
          case atStart => exact R0
          case round =>
            clear R0
            rename_i v3 _
            obtain ⟨j, rfl, hj, hown, hG, hro⟩ := hrel
            rename World => V4
            have hj1 : (j : Int) + 1 ≤ 6 := by omega
            rcases Nat.lt_or_ge j 3 with hjN | hjN
            · have hn1 : ∀ q, u3.ownBlock = some q → q ≠ V1.heap.size ∧ q ≠ V2.heap.size ∧ w.heap.size ≤ q := by
                intro q hq
                rcases hro with h | ⟨q', h, h'⟩
                · have h1 := hrow0 q (h ▸ hq)
                  have h2 := hrow1 q (h ▸ hq)
                  exact ⟨by omega, by omega, h2⟩
                · rw [hq] at h
                  cases h
                  exact ⟨by omega, by omega, by omega⟩
              have hr0 : ∀ q, row0 = some q → q ≠ V1.heap.size ∧ q ≠ V2.heap.size ∧ w.heap.size ≤ q := fun q hq => ⟨by have := hrow0 q hq; omega, by have := hrow0 q hq; omega, hrow1 q hq⟩
              have A0 : ∀ w', V4.grownBy w' u3.ownBlock → w'.cell? ⟨V1.heap.size, 0, none⟩ = some (.int .i64 ux) := fun _ h => far h (fun e => (hn1 _ e).1 rfl) (far hG (fun e => (hr0 _ e).1 rfl) a0)
              have A1 : ∀ w', V4.grownBy w' u3.ownBlock → w'.cell? ⟨V1.heap.size, 1, none⟩ = some (.int .i64 uy) := fun _ h => far h (fun e => (hn1 _ e).1 rfl) (far hG (fun e => (hr0 _ e).1 rfl) a1)
              have C0 : ∀ w', V4.grownBy w' u3.ownBlock → w'.cell? ⟨V2.heap.size, 0, none⟩ = some (.int .i64 vx) := fun _ h => far h (fun e => (hn1 _ e).2.1 rfl) (far hG (fun e => (hr0 _ e).2.1 rfl) c0)
              have C1 : ∀ w', V4.grownBy w' u3.ownBlock → w'.cell? ⟨V2.heap.size, 1, none⟩ = some (.int .i64 vy) := fun _ h => far h (fun e => (hn1 _ e).2.1 rfl) (far hG (fun e => (hr0 _ e).2.1 rfl) c1)
              have X0 : ∀ w', V4.grownBy w' u3.ownBlock → w'.cell? ⟨b, o + k * 3, none⟩ = some (.int .i64 (g k).x) := fun _ h => far h (fun e => by have := (hn1 _ e).2.2; omega) (far hG (fun e => by have := (hr0 _ e).2.2; omega) x0)
              have X1 : ∀ w', V4.grownBy w' u3.ownBlock → w'.cell? ⟨b, o + k * 3 + 1, none⟩ = some (.int .i64 (g k).y) := fun _ h => far h (fun e => by have := (hn1 _ e).2.2; omega) (far hG (fun e => by have := (hr0 _ e).2.2; omega) x1)
              have OX : Hid (∀ w, Calls Try.prog 64 #[.int .i64 ux, .int .i64 (g k).x, .int .i64 vx, .int .i64 ((j : Int) + 1)] w fun e w' => e = .returned (.int .i64 (cv ux (g k).x vx ((j + 1 : Nat) : Int))) ∧ w = w') := Lib.hid (fun w => at_any ux (g k).x vx (j + 1) (by omega) w)
              have OY : Hid (∀ w, Calls Try.prog 64 #[.int .i64 uy, .int .i64 (g k).y, .int .i64 vy, .int .i64 ((j : Int) + 1)] w fun e w' => e = .returned (.int .i64 (cv uy (g k).y vy ((j + 1 : Nat) : Int))) ∧ w = w') := Lib.hid (fun w => at_any uy (g k).y vy (j + 1) (by omega) w)
              have hq : Hid (crvP g n k (j + 1) = ⟨cv ux (g k).x vx ((j + 1 : Nat) : Int), cv uy (g k).y vy ((j + 1 : Nat) : Int), true⟩) := Lib.hid (hP.out _)
              have hNX : Hid (∀ v' V', V'.ownsRow w.heap.size 62 3 v' ((plK g n k).length + (j + 1)) (vals (plK g n k ++ crvL g n k (j + 1))) → V3.grownBy V' row0 → (v'.ownBlock = row0 ∨ ∃ q, v'.ownBlock = some q ∧ V3.heap.size ≤ q) → RqRel w V3 row0 (plK g n k) g n k 3 v' (.int .i64 ((j : Int) + 1 + 1)) V') := Lib.hid (fun v' V' h1 h2 h3 => ⟨j + 1, by simp, by omega, h1, h2, h3⟩)
              generalize cv ux (g k).x vx ((j + 1 : Nat) : Int) = rx at *
              generalize cv uy (g k).y vy ((j + 1 : Nat) : Int) = ry at *
              obtain ⟨ki1, ki2, ki3, ki4⟩ := KI.out
              have t1 : (0 : Int) ≤ (j : Int) := by omega
              have t2 : (j : Int) < 3 := by omega
              have t4 : wrap64 ((j : Int) + 1 + 1) = (j : Int) + 1 + 1 := w_in ⟨by omega, by omega⟩
              have hs4 := hG.size
              have HT : Hid (∀ V', V4.grownBy V' u3.ownBlock → V3.grownBy V' row0) := Lib.hid (fun V' h => by
                rcases hro with h1 | ⟨q, h1, h2⟩
                · rw [h1] at h
                  exact World.grownBy.trans hG h
                · rw [h1] at h
                  exact ⟨h.os.trans hG.os, h.tape.trans hG.tape, h.output.trans hG.output, Nat.le_trans hG.size h.size, fun i hi hne => (h.block i (by omega) (fun e => by cases e; omega)).trans (hG.block i hi hne)⟩)
              have HO : Hid (∀ g9 : Nat, (u3.ownBlock = some g9 ∨ V4.heap.size ≤ g9) → some g9 = row0 ∨ ∃ q, some g9 = some q ∧ V3.heap.size ≤ q) := Lib.hid (fun g9 h => by
                rcases h with h | h
                · rcases hro with h1 | ⟨q, h1, h2⟩
                  · exact .inl (h.symm.trans h1)
                  · rw [h] at h1
                    exact .inr ⟨q, h1, h2⟩
                · exact .inr ⟨g9, rfl, by omega⟩)
              have hws : w.heap.size ≤ V3.heap.size := hBw3.size
              clear x0 x1 x2 a0 a1 c0 c1 hR hC hP hst hsl hN' HV i1 i2 i3 hrow0 hrow1 hn1 hr0 hro hG hBw3 hBV3 hm hk1 hd1 hd2 hs3
              generalize (plK g n k).length = L at *
              go_upto_region 16 with (fail)
              have NW := news_pt V4.drew ⟨rx, ry, true⟩ 62
              go_region_held_law (fun w' => V4.grownBy w' u3.ownBlock) (first
                | (with_reducible exact gd1 (grO _ _))
                | (with_reducible exact gaO (by assumption) _)
                | (with_reducible exact gd1 (gaO (grO _ _) _))
                | (with_reducible assumption)
                | (with_reducible exact World.grownBy.trans (by assumption) hgrow9))
                (first
                | (refine step_append_lies _ (by rfl) _ _ 60 (by rfl) w.heap.size 62 i0 _ 3 24 Try.underlying60 ki1 ki2 ki3 ki4 rfl (by decide) _ (L + j) _ (by rfl) ((own_drew hown).alloc _) ⟨V4.heap.size, 0, none⟩ 1 1 (ptVs ⟨rx, ry, true⟩) (by rfl) rfl NW (by intro u hu; simp [ptVs] at hu; rcases hu with rfl | rfl | rfl <;> rfl) (by omega) (by unfold maxLen; omega) (by omega) (by simp; omega) _ rfl ?_; intro g9 cap9 w9 hown9 hgrow9 hat9 hlt9)
                | ((with_reducible refine (OX.out _).mono ?_); rintro en wa ⟨rfl, rfl⟩)
                | ((with_reducible refine (OY.out _).mono ?_); rintro en wa ⟨rfl, rfl⟩))
              have R := Lib.hid (hNX.out _ _ (by rw [crvL_next, hq.out, ← List.append_assoc, vals_app]; simpa [vals, Nat.add_assoc] using hown9) (HT.out _ (World.grownBy.trans (gaO (gd1 (grO _ _)) _) hgrow9)) (by
                have := HO.out g9 (by
                  rcases hat9 with h | h
                  · exact .inl h
                  · exact .inr (by simp at h; omega))
                simpa [Value.ownBlock] using this))
              clear hown9 hgrow9 hat9 NW hNX HT HO OX OY A0 A1 C0 C1 X0 X1 hown hq
              go_wp2_with fail
              exact ⟨R.out, by simp [intOf]; omega⟩
            · obtain rfl : j = 3 := by omega
              have R := Lib.hid (hR.out _ V4 (by rw [← hC.out, List.length_append, crvL_len]; exact hown) (gBo hBw3 hG hrow1))
              clear hown hG hR
              go_wp2_with fail
              exact ⟨R.out, by simp [intOf]; omega⟩
      · rw [hon] at ON
        have hsl : Hid (stepL g n k = [on32 (g k)]) := Lib.hid (by unfold stepL; rw [hon]; rfl)
        clear hon
        generalize g k = p at *
        go_wp2_with fail
        refine (ON.out _ (Below.refl _ _)).mono ?_
        rintro e V1 ⟨rfl, rfl⟩
        have hrow : ∀ q, u3.ownBlock = some q → w.heap.size ≤ q := fun q hq => (hown.lt q hq).1
        have X0 : ∀ w', V.grownBy w' u3.ownBlock → w'.cell? ⟨b, o + k * 3, none⟩ = some (.int .i64 p.x) := fun _ h => far h (fun e => by have := hrow _ e; omega) x0
        have X1 : ∀ w', V.grownBy w' u3.ownBlock → w'.cell? ⟨b, o + k * 3 + 1, none⟩ = some (.int .i64 p.y) := fun _ h => far h (fun e => by have := hrow _ e; omega) x1
        obtain ⟨ki1, ki2, ki3, ki4⟩ := KI.out
        clear x0 x1 x2
        go_upto_region 6 with (fail)
        obtain ⟨qx, hqx⟩ : ∃ qx, wrap64 (32 * p.x) = qx := ⟨_, rfl⟩
        obtain ⟨qy, hqy⟩ : ∃ qy, wrap64 (32 * p.y) = qy := ⟨_, rfl⟩
        have hqx2 : IntKind.i64.wrap (32 * p.x) = qx := (IntWalk.i64_left _).trans hqx
        have hqy2 : IntKind.i64.wrap (32 * p.y) = qy := (IntWalk.i64_left _).trans hqy
        have h32 : Hid (on32 p = ⟨qx, qy, true⟩) := Lib.hid (by unfold on32; rw [hqx, hqy])
        clear hqx hqy
        have NW := news_pt V.drew ⟨qx, qy, true⟩ 62
        go_region_held_law (fun w' => V.grownBy w' u3.ownBlock) (first
          | (with_reducible exact gd1 (grO _ _))
          | (with_reducible exact gaO (by assumption) _)
          | (with_reducible exact gd1 (gaO (grO _ _) _))
          | (with_reducible exact World.grownBy.trans (by assumption) hgrow9))
          (first
          | (refine step_append_lies _ (by rfl) _ _ 60 (by rfl) w.heap.size 62 i0 _ 3 24 Try.underlying60 ki1 ki2 ki3 ki4 rfl (by decide) _ (plK g n k).length _ (by rfl) ((own_drew hown).alloc _) ⟨V.heap.size, 0, none⟩ 1 1 (ptVs ⟨qx, qy, true⟩) (by rfl) rfl NW (by intro u hu; simp [ptVs] at hu; rcases hu with rfl | rfl | rfl <;> rfl) (by omega) (by unfold maxLen; omega) (by omega) (by simp; omega) _ rfl ?_; intro g9 cap9 w9 hown9 hgrow9 hat9 hlt9))
        have R := Lib.hid (hR.out _ _ (by rw [hst.out, hsl.out, h32.out, List.length_append, vals_app]; simpa [vals] using hown9) (gBo hB (World.grownBy.trans (gaO (gd1 (grO _ _)) _) hgrow9) hrow))
        clear hown9 hgrow9 hat9 NW hR X0 X1 hown
        go_wp2_with fail
        exact ⟨R.out, by simp [intOf]; omega⟩
    · obtain rfl : k = n := by omega
      have hO := Lib.hid hown
      clear hown
      go_wp2_with fail
      go_ret
      exact ⟨_, rfl, hO.out, hB⟩
end Go.Proofs.Ytcogoomajfahkaa.Ot
