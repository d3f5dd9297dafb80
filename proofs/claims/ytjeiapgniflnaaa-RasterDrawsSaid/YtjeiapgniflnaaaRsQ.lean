/-
  Layer 7 (raster): cut of the law.
-/
import Derived.Test.YtjeiapgniflnaaaOtTwo
namespace Go.Proofs.Ytjeiapgniflnaaa.Rs
open Go.RowKit
open Go.Proofs.Ytjeiapgniflnaaa.Ot
/-- What cut has made: some of the lists of an outline. -/
structure FW (w V : World) (v : Value) (k : Nat) (xs : List Value) (ns : Nat → Nat) (g : Nat → Nat → Pt) : Prop where
  ow : V.ownsRow w.heap.size 49 1 v k xs
  li : ∀ j, j < k → ∃ a c, xs[j]? = some (.slice a (ns j) c) ∧ ns j ≤ c ∧ c ≤ 9223372036854775807 ∧ PA w a (ns j) (g j)
  be : Below w.heap.size w V
theorem fw_ot {w V : World} {v : Value} {N : Nat} {xs : List Value} {ns : Nat → Nat} {g : Nat → Nat → Pt} (h : FW w V v N xs ns g) : ∃ (a : Option Addr) (c : Nat), v = .slice a N c ∧ N ≤ c ∧ c ≤ 9223372036854775807 ∧ OT V a N ns g := by
  rcases h.ow.2 with ⟨rfl, rfl⟩ | ⟨b, cap, cur, rfl, hb, hh, hkc, hcm, _⟩
  · exact ⟨none, 0, rfl, Nat.le_refl _, by omega, fun k hk => absurd hk (by omega)⟩
  · unfold maxLen at hcm
    refine ⟨some ⟨b, 0, none⟩, cap, rfl, hkc, by omega, fun k hk => ?_⟩
    obtain ⟨a, c, e, h1, h2, h3⟩ := h.li k hk
    exact ⟨b, 0, a, c, rfl, by rw [Nat.zero_add, h.ow.cellAt _ (by omega)]; exact e, h1, h2, pa_below h3 h.be⟩
def fwN (ns : Nat → Nat) (k : Nat) : Nat := min (ns k) 12
def FwRel (w : World) (N : Nat) (ns : Nat → Nat) (g : Nat → Nat → Pt) (s3 s4 : Value) (V : World) : Prop := ∃ (k : Nat) (xs : List Value), s4 = .int .i64 (k : Int) ∧ k ≤ min N 4 ∧ FW w V s3 k xs (fwN ns) g
set_option maxRecDepth 100000 in
set_option maxHeartbeats 8000000 in
theorem cut_any (a : Option Addr) (N c : Nat) (ns : Nat → Nat) (g : Nat → Nat → Pt) (w : World) (hA : OT w a N ns g) :
    Calls Try.prog 9 #[.slice a N c] w fun e w' => ∃ v xs, e = .returned v ∧ FW w w' v (min N 4) xs (fwN ns) g := by
  have HA := Lib.hid hA
  obtain ⟨i0, ki1, ki2, ki3, ki4⟩ := info_parts infoS
  have KI := Lib.hid (And.intro ki1 (And.intro ki2 (And.intro ki3 ki4)))
  clear hA ki1 ki2 ki3 ki4
  go_enter Try.func9, Try.ntmps9
  go_wp2_with fail
  go_loopw [3, 4] (fun s3 s4 V => FwRel w N ns g s3 s4 V) (fun _ s4 _ => min N 4 - (intOf s4).toNat)
  case atStart => exact ⟨0, [], rfl, by omega, ⟨World.ownsRow_nil _ _ _ _, fun j hj => absurd hj (by omega), Below.refl _ _⟩⟩
  case round =>
    obtain ⟨k, xs, rfl, hk, hF⟩ := hrel
    rename World => V
    rcases Nat.lt_or_ge k (min N 4) with hkN | hkN
    · obtain ⟨b, off, a', c', rfl, hc0, h1, h2, hp⟩ := HA.out k (by omega)
      have hc := kc hF.be hc0
      have hbw := block_lt_of_cell hc0
      simp only at hbw
      have hrow : Hid (∀ q, u3.ownBlock = some q → w.heap.size ≤ q) := Lib.hid (fun q hq => (hF.ow.lt q hq).1)
      have SX : ∀ w', V.grownBy w' u3.ownBlock → w'.cell? ⟨b, off + k, none⟩ = some (.slice a' (ns k) c') := fun _ h => far h (fun e => by have := hrow.out _ e; omega) hc
      obtain ⟨m, hm⟩ : ∃ m : Nat, min (ns k) 12 = m := ⟨_, rfl⟩
      have m1 : min ((ns k : Nat) : Int) 12 = (m : Int) := by omega
      have m2 : (m : Int) ≤ (c' : Int) := by omega
      have m3 : (0 : Int) ≤ (m : Int) := by omega
      have k2 : (0 : Int) ≤ (k : Int) := by omega
      have k3 : (k : Int) < (N : Int) := by omega
      have k4 : (k : Int) < 4 := by omega
      have hl := hF.ow.1
      have hVs := hF.be.size
      have hR : Hid (∀ v' V' cp, V'.ownsRow w.heap.size 49 1 v' (k + 1) (xs ++ [.slice a' m cp]) → m ≤ cp → cp ≤ 9223372036854775807 → V.grownBy V' u3.ownBlock → FwRel w N ns g v' (.int .i64 ((k : Int) + 1)) V') :=
        Lib.hid (fun v' V' cp h3 h4 h5 h6 => ⟨k + 1, _, rfl, by omega, ⟨h3, fun j hj => by
          by_cases e : j = k
          · subst e
            exact ⟨a', cp, by rw [List.getElem?_append_right (by omega), hl, Nat.mul_one, Nat.sub_self, fwN, hm]; rfl, by rw [fwN, hm]; exact h4, h5, pa_less hp (by unfold fwN; omega)⟩
          · obtain ⟨a2, c2, e1, h7, h8, h9⟩ := hF.li j (by omega)
            exact ⟨a2, c2, by rw [List.getElem?_append_left (by omega)]; exact e1, h7, h8, h9⟩, gBo hF.be h6 hrow.out⟩⟩)
      have h00 : Hid (a' = none → ns k = 0) := Lib.hid (fun e => by
        rcases Nat.eq_zero_or_pos (ns k) with h | h
        · exact h
        · obtain ⟨b', o', e', _⟩ := hp 0 h
          rw [e] at e'
          cases e')
      obtain ⟨ki1, ki2, ki3, ki4⟩ := KI.out
      have hown := hF.ow
      clear hc hc0 hp hF
      rcases a' with _ | ad
      · have h0 : ns k = 0 := h00.out rfl
        obtain rfl : m = 0 := by omega
        simp only [h0] at SX m1 h1 hm
        go_upto_region 5 with (fail)
        have NW := fun (u : Value) => news_one V.drew u 49
        go_region_held_law (fun w' => V.grownBy w' u3.ownBlock) (first
          | (with_reducible exact gd1 (grO _ _))
          | (with_reducible exact gaO (by assumption) _)
          | (with_reducible exact gd1 (gaO (grO _ _) _))
          | (with_reducible assumption)
          | (with_reducible exact World.grownBy.trans (by assumption) hgrow9))
          (first
          | (refine step_append_lies _ (by rfl) _ _ 23 (by rfl) w.heap.size 49 i0 _ 1 24 Try.underlying23 ki1 ki2 ki3 ki4 rfl (by decide) _ k _ (by rfl) ((own_drew hown).alloc _) ⟨V.heap.size, 0, none⟩ 1 1 [.slice none 0 c'] (by rfl) rfl (NW _) (by intro u hu; simp at hu; subst hu; rfl) (by omega) (by unfold maxLen; omega) (by omega) (by simp; omega) _ rfl ?_; intro g9 cap9 w9 hown9 hgrow9 hat9 hlt9))
        have R := Lib.hid (hR.out _ _ c' hown9 (by omega) h2 (World.grownBy.trans (gaO (gd1 (grO _ _)) _) hgrow9))
        clear hown9 hgrow9 hat9 NW hR SX hown
        go_wp2_with fail
        exact ⟨R.out, by simp [intOf]; omega⟩
      · obtain ⟨nk, hnk⟩ : ∃ nk, ns k = nk := ⟨_, rfl⟩
        simp only [hnk] at SX m1 h1 hm
        have m4 : m ≤ nk := by omega
        go_upto_region 5 with (fail)
        have NW := fun (u : Value) => news_one V.drew u 49
        go_region_held_law (fun w' => V.grownBy w' u3.ownBlock) (first
          | (with_reducible exact gd1 (grO _ _))
          | (with_reducible exact gaO (by assumption) _)
          | (with_reducible exact gd1 (gaO (grO _ _) _))
          | (with_reducible assumption)
          | (with_reducible exact World.grownBy.trans (by assumption) hgrow9))
          (first
          | (refine step_append_lies _ (by rfl) _ _ 23 (by rfl) w.heap.size 49 i0 _ 1 24 Try.underlying23 ki1 ki2 ki3 ki4 rfl (by decide) _ k _ (by rfl) ((own_drew hown).alloc _) ⟨V.heap.size, 0, none⟩ 1 1 [.slice (some ad) m c'] (by rfl) rfl (NW _) (by intro u hu; simp at hu; subst hu; rfl) (by omega) (by unfold maxLen; omega) (by omega) (by simp; omega) _ rfl ?_; intro g9 cap9 w9 hown9 hgrow9 hat9 hlt9))
        have R := Lib.hid (hR.out _ _ c' hown9 (by omega) h2 (World.grownBy.trans (gaO (gd1 (grO _ _)) _) hgrow9))
        clear hown9 hgrow9 hat9 NW hR SX hown
        go_wp2_with fail
        exact ⟨R.out, by simp [intOf]; omega⟩
    · obtain rfl : k = min N 4 := by omega
      have hO := Lib.hid hF
      clear hF
      rcases Nat.lt_or_ge N 4 with h4_ | h4_
      · have e : min N 4 = N := by omega
        rw [e] at hO ⊢
        go_wp2_with fail
        go_ret
        exact ⟨_, _, rfl, by rw [e]; exact hO.out⟩
      · have e : min N 4 = 4 := by omega
        rw [e] at hO ⊢
        rcases Nat.eq_or_lt_of_le h4_ with h11 | h11
        · subst h11
          go_wp2_with fail
          go_ret
          exact ⟨_, _, rfl, by rw [e]; exact hO.out⟩
        · have k5 : (4 : Int) < (N : Int) := by omega
          go_wp2_with fail
          go_ret
          exact ⟨_, _, rfl, by rw [e]; exact hO.out⟩
end Go.Proofs.Ytjeiapgniflnaaa.Rs
