/-
  Layer 7 (raster): polygon of the law.
-/
import Derived.Test.YtjeiapgniflnaaaRsM
import Derived.Test.YtjeiapgniflnaaaOtTwo
namespace Go.Proofs.Ytjeiapgniflnaaa.Rs
open Go.RowKit
open Go.Proofs.Ytjeiapgniflnaaa.Ot
def pgP (f : Nat → Int) (i : Nat) : Pt := ⟨f (2 * i), f (2 * i + 1), false⟩
def pgL (f : Nat → Int) (m : Nat) : List Pt := (List.range m).map (pgP f)
theorem pgL_next (f : Nat → Int) (m : Nat) : pgL f (m + 1) = pgL f m ++ [pgP f m] := by unfold pgL; rw [List.range_succ, List.map_append]; rfl
theorem pgL_len (f : Nat → Int) (m : Nat) : (pgL f m).length = m := by unfold pgL; simp
theorem pgL_at (f : Nat → Int) {m i : Nat} (h : i < m) : (pgL f m).getD i p0 = pgP f i := by unfold pgL; simp [h]
def PgR (w : World) (f : Nat → Int) (m : Nat) (s3 s4 : Value) (V : World) : Prop := ∃ i : Nat, s4 = .int .i64 ((2 * i : Nat) : Int) ∧ i ≤ m ∧ V.ownsRow w.heap.size 63 3 s3 i (vals (pgL f i)) ∧ Below w.heap.size w V
set_option maxRecDepth 100000 in
set_option maxHeartbeats 8000000 in
theorem polygon_own (b c m : Nat) (f : Nat → Int) (hm : m ≤ 1000) (w : World) (hA : ∀ i, i < 2 * m → w.cell? ⟨b, i, none⟩ = some (.int .i64 (f i))) :
    Calls Try.prog 22 #[.slice (some ⟨b, 0, none⟩) (2 * m) c] w fun e w' => ∃ v, e = .returned v ∧ w'.ownsRow w.heap.size 63 3 v m (vals (pgL f m)) ∧ Below w.heap.size w w' := by
  obtain ⟨i0, ki1, ki2, ki3, ki4⟩ := info_parts infoP
  have KI := Lib.hid (And.intro ki1 (And.intro ki2 (And.intro ki3 ki4)))
  have HA := Lib.hid hA
  clear hA ki1 ki2 ki3 ki4
  go_enter Try.func22, Try.ntmps22
  go_wp2_with fail
  go_loopw [3, 4] (fun s3 s4 V => PgR w f m s3 s4 V) (fun _ s4 _ => 2 * m - (intOf s4).toNat)
  case atStart => exact ⟨0, rfl, by omega, World.ownsRow_nil _ _ _ _, Below.refl _ _⟩
  case round =>
    obtain ⟨i, rfl, hi, hown, hB⟩ := hrel
    rename World => V
    rcases Nat.lt_or_ge i m with hin | hin
    · have x0 := HA.out (2 * i) (by omega)
      have x1 := HA.out (2 * i + 1) (by omega)
      have hbw := block_lt_of_cell x0
      simp only at hbw
      have hwV := hB.size
      have hrow : ∀ q, u3.ownBlock = some q → w.heap.size ≤ q := fun q hq => (hown.lt q hq).1
      have X0 : ∀ w', V.grownBy w' u3.ownBlock → w'.cell? ⟨b, 2 * i, none⟩ = some (.int .i64 (f (2 * i))) := fun _ h => far h (fun e => by have := hrow _ e; omega) (kc hB x0)
      have X1 : ∀ w', V.grownBy w' u3.ownBlock → w'.cell? ⟨b, 2 * i + 1, none⟩ = some (.int .i64 (f (2 * i + 1))) := fun _ h => far h (fun e => by have := hrow _ e; omega) (kc hB x1)
      have hR : Hid (∀ v' V', V'.ownsRow w.heap.size 63 3 v' (i + 1) (vals (pgL f (i + 1))) → Below w.heap.size w V' → PgR w f m v' (.int .i64 ((2 * (i + 1) : Nat) : Int)) V') := Lib.hid (fun v' V' h1 h2 => ⟨i + 1, rfl, hin, h1, h2⟩)
      have hlt : 2 * m - (intOf (.int .i64 ((2 * (i + 1) : Nat) : Int))).toNat < 2 * m - (intOf (.int .i64 ((2 * i : Nat) : Int))).toNat := by simp [intOf]; omega
      obtain ⟨ki1, ki2, ki3, ki4⟩ := KI.out
      have hi1 : Hid (i < m) := Lib.hid hin
      obtain ⟨k, hk⟩ : ∃ k, 2 * i = k := ⟨_, rfl⟩
      have hk1 : k < 2 * m := by omega
      have hk3 : ((k : Nat) : Int) < 2 * (m : Int) := by omega
      have hk2 : (0 : Int) ≤ (k : Int) := by omega
      have hk9 : k ≤ 2000 := by omega
      obtain ⟨k1, hk1e⟩ : ∃ k1, k + 1 = k1 := ⟨_, rfl⟩
      have hk8 : k1 < 2 * m := by omega
      have hk4 : ((k1 : Nat) : Int) < 2 * (m : Int) := by omega
      have hk5 : (0 : Int) ≤ (k1 : Int) := by omega
      have gk : IntKind.i64.wrap ((k : Int) + 1) = (k1 : Int) := (both (by omega) (by omega)).2
      have gk2 : wrap64 ((k : Int) + 1) = (k1 : Int) := (both (by omega) (by omega)).1
      have hkn : ((2 * (i + 1) : Nat) : Int) = (k : Int) + 2 := by omega
      rw [hkn] at hR hlt
      rw [hk] at X0 X1 hlt ⊢
      rw [hk1e] at X1
      have HK := Lib.hid hk
      obtain ⟨qx, hqx⟩ : ∃ qx, f k = qx := ⟨_, rfl⟩
      obtain ⟨qy, hqy⟩ : ∃ qy, f k1 = qy := ⟨_, rfl⟩
      have hpq : Hid (pgP f i = ⟨qx, qy, false⟩) := Lib.hid (by unfold pgP; rw [hk, hk1e, hqx, hqy])
      rw [hqx] at X0
      rw [hqy] at X1
      have hwV := Lib.hid hB.size
      have hm9 : 2 * m ≤ 2000 := by omega
      clear hk hk1e hqx hqy x0 x1 hi hin hkn hbw
      go_upto_region 5 with (fail)
      have NW := news_pt V.drew ⟨qx, qy, false⟩ 63
      go_region_held_law (fun w' => V.grownBy w' u3.ownBlock) (first
        | (with_reducible exact gd1 (grO _ _))
        | (with_reducible exact gaO (by assumption) _)
        | (with_reducible exact gd1 (gaO (grO _ _) _))
        | (with_reducible exact World.grownBy.trans (by assumption) hgrow9))
        (first
        | (refine step_append_lies _ (by rfl) _ _ 49 (by rfl) w.heap.size 63 i0 _ 3 24 Try.underlying49 ki1 ki2 ki3 ki4 rfl (by decide) _ i _ (by rfl) ((own_drew hown).alloc _) ⟨V.heap.size, 0, none⟩ 1 1 (ptVs ⟨qx, qy, false⟩) (by rfl) rfl NW (by intro u hu; simp [ptVs] at hu; rcases hu with rfl | rfl | rfl <;> rfl) (by omega) (by have := hi1.out; unfold maxLen; omega) (by have := hi1.out; omega) (by have := hwV.out; simp; omega) _ rfl ?_; intro g9 cap9 w9 hown9 hgrow9 hat9 hlt9))
      have R := Lib.hid (hR.out _ _ (by rw [pgL_next, hpq.out, vals_app]; simpa [vals] using hown9) (gBo hB (World.grownBy.trans (gaO (gd1 (grO _ _)) _) hgrow9) hrow))
      clear hown9 hgrow9 hat9 NW hR X0 X1 hown
      go_wp2_with fail
      exact ⟨R.out, hlt⟩
    · obtain rfl : i = m := by omega
      have hO := Lib.hid hown
      clear hown
      go_wp2_with fail
      go_ret
      exact ⟨_, rfl, hO.out, hB⟩
end Go.Proofs.Ytjeiapgniflnaaa.Rs
