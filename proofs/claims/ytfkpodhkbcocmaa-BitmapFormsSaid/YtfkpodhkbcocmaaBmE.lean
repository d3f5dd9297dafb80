/-
  Layer 4 (bitmap): the iterator over the dots.
-/
import Derived.Test.YtfkpodhkbcocmaaBmD
import Derived.Sort.QuietIn
import Derived.Lib.QuietBelowIn
namespace Go.Proofs.Ytfkpodhkbcocmaa.Bm
open Go.RowKit Go.Shelf
attribute [local go_sem] Oper.semAt_some
theorem iwrap_id {x : Int} (h : R64 x) : IntKind.i64.wrap x = x := by
  obtain ⟨h1, h2⟩ := h
  exact IntWalk.i64_in _ (by omega)
/-- A bitmap in a box. -/
def BoxAt (V : World) (B : Nat) (W H : Int) (a : Option Addr) (m c : Nat) : Prop :=
  V.cell? ⟨B, 0, none⟩ = some (.int .i64 W) ∧ V.cell? ⟨B, 1, none⟩ = some (.int .i64 H) ∧ V.cell? ⟨B, 2, none⟩ = some (.slice a m c)
theorem boxat_below {V V' : World} {B : Nat} {W H : Int} {a : Option Addr} {m c : Nat} (h : BoxAt V B W H a m c) (hB : Below V.heap.size V V') : BoxAt V' B W H a m c := k3 hB h
/-- How many rounds there may be. -/
def nd (W H : Int) (m : Nat) : Nat := if gd W H m then m else 0
def dargs (W : Int) (k : Nat) : Array Value := #[.int .i64 ((k : Int) % W), .int .i64 ((k : Int) / W)]
def DMem (B : Nat) (W H : Int) (a : Option Addr) (m c : Nat) (f : Nat → Bool) (V : World) : Prop := BoxAt V B W H a m c ∧ DA V a m f
theorem dots_any (W H : Int) (a : Option Addr) (m c : Nat) (w : World) :
    Calls Try.prog 48 #[bv W H a m c] w fun e w' => e = .returned (.func (.func 51) #[] #[.pointer (some ⟨w.heap.size, 0, none⟩)]) ∧ w' = w.alloc (.cells #[.int .i64 W, .int .i64 H, .slice a m c] 28) := by
  unfold bv
  go_enter Try.func48, Try.ntmps48
  go_wp2
  go_ret
  exact ⟨rfl, rfl⟩
def ItRel (m : Nat) (J : Nat → World → Prop) (s : Value) (wr : World) : Prop := ∃ k : Nat, k ≤ m ∧ s = .int .i64 k ∧ J k wr
set_option maxRecDepth 100000 in
set_option maxHeartbeats 4000000 in
theorem mixedF : Try.prog.follows .mixedOrders = true := by kernel_rfl
set_option maxRecDepth 100000 in
set_option maxHeartbeats 4000000 in
theorem dots_gives (n : Nat) (hn : 2 ≤ n) (W H : Int) (a : Option Addr) (m c : Nat) (f : Nat → Bool) (B : Nat) :
    Gives Try.prog n 51 #[.pointer (some ⟨B, 0, none⟩)] (nd W H m) f (dargs W) (DMem B W H a m c f) := by
  intro rec J V hY hS hBl hM h0
  have C := Lib.hid (Check_any W H a m c)
  obtain ⟨⟨c0, c1, c2⟩, hD⟩ := hM 0 V h0
  have HY := Lib.hid hY
  have HS := Lib.hid hS
  have HB := Lib.hid hBl
  have HM := Lib.hid hM
  clear hY hS hBl hM hD
  have hz := ck_zero W H m
  have hmix := mixedF
  refine callsIn_of_wp Try.func51 rfl trivial ?_ rfl
  simp only [Try.ntmps51, List.size_toArray, List.length_cons, List.length_nil, Nat.reduceAdd, Nat.reduceSub, Array.replicate_succ, Array.replicate_zero, List.push_toArray, List.append_toArray, List.nil_append, List.cons_append]
  unfold bv at C
  rcases h1 : gd W H m with _ | _
  · rw [show nd W H m = 0 by unfold nd; rw [h1]; rfl] at *
    rw [h1] at hz
    generalize ck W H m = z at *
    have hz2 : ¬ z = 0 := fun h => by rw [h] at hz; cases hz
    gi_wp2_with fail
    refine ⟨trivial, fun _ => (by omega), ?_⟩
    refine (callsIn_wide.2 (C.out _)).mono ?_
    rintro e w1 ⟨rfl, hB⟩
    gi_wp2_with fail
    refine bodyPost_ret (results_none rfl _ _ _) rfl ?_
    exact ⟨⟨_, rfl⟩, HB.out _ _ _ h0 hB⟩
  · have hz3 : ck W H m = 0 := by rw [h1] at hz; exact eq_of_beq hz
    rw [hz3] at C
    rw [show nd W H m = m by unfold nd; rw [h1]; rfl] at *
    obtain ⟨hW, hH, hn⟩ := (gd_iff W H m).1 h1
    have hm9 := mul_side hW hH
    have hmm : m ≤ 9216 := by omega
    have HN := Lib.hid hn
    clear hz hz3 h1 hm9 hn
    gi_wp2_with fail
    refine ⟨trivial, fun _ => (by omega), ?_⟩
    refine (callsIn_wide.2 (C.out _)).mono ?_
    rintro e w1 ⟨rfl, hB⟩
    have hJ1 := HB.out _ _ _ h0 hB
    obtain ⟨c0, c1, c2⟩ := k3 hB ⟨c0, c1, c2⟩
    clear hB h0
    gi_wp2
    gi_loopw [11] (fun s11 wr => ItRel m J s11 wr) (fun s11 _ => m - (intOf s11).toNat)
    case atStart => exact ⟨0, by omega, rfl, hJ1⟩
    case round =>
      clear hJ1 c0 c1 c2
      obtain ⟨k, hk, rfl, hJ⟩ := hrel
      rcases Nat.lt_or_ge k m with hkm | hkm
      · obtain ⟨⟨c0, c1, c2⟩, hD⟩ := HM.out k wr hJ
        obtain ⟨b, o, rfl, hc⟩ := hD k hkm
        have hW0 : 0 < W := by
          rcases Int.lt_or_le 0 W with h | h
          · exact h
          · have := HN.out
            have : W = 0 := by omega
            subst this
            omega
        rcases hf : f k with _ | _
        · rw [hf] at hc
          have hJ2 := HS.out k wr hJ hkm hf
          clear HN
          gi_wp2
          refine wpIn_region_quiet_lit rfl (by assumption) (by kernel_rfl) ?_
          repeat (gi_big_quiet_step (fail))
          refine BigFrame.wpQuietIn_skip (fun _ _ _ _ => trivial) rfl ?_
          simp only [Act.put, List.setIfInBounds_toArray, List.set_cons_succ, List.set_cons_zero]
          repeat (gi_big_quiet_step (fail))
          refine wpQuietIn_nil ?_
          rintro _ ⟨nq, rfl⟩
          gi_wp2
          go_roundw
          case rel => exact ⟨k + 1, by omega, by congr 1, HB.out _ _ _ hJ2 (bd (Below.refl _ _) _)⟩
          case measure => simp [intOf]; omega
        · rw [hf] at hc
          have hJd := HB.out _ _ _ hJ (bd1 (Below.refl _ wr))
          obtain ⟨fn, tmps, assign, body, hy, hR⟩ := HY.out k wr.drew hJd hkm hf
          have e1 : (k : Int).tmod W = k % W := Int.tmod_eq_emod_of_nonneg (by omega)
          have e2 : (k : Int).tdiv W = k / W := Int.tdiv_eq_ediv_of_nonneg (by omega)
          have hne : ¬ W = 0 := by omega
          have e3 : IntKind.i64.wrap ((k : Int) / W) = k / W := by
            have h1 : (k : Int) / W ≤ k := Int.ediv_le_self _ (by omega)
            have h2 : 0 ≤ (k : Int) / W := Int.ediv_nonneg (by omega) (by omega)
            exact iwrap_id ⟨by omega, by omega⟩
          have hne2 : (W == 0) = false := beq_eq_false_iff_ne.2 hne
          clear HN
          simp only [dargs] at hy
          gi_wp2
          gi_region_with_o (refine ⟨fun _ => (by omega), ?_⟩; refine hR.mono ?_; rintro e w2 ⟨rfl, hJ2⟩)
          all_goals (try gi_wp2)
          all_goals exact ⟨⟨k + 1, by omega, by congr 1, hJ2⟩, by simp [intOf]; omega⟩
      · have hkk : k = m := by omega
        subst hkk
        gi_wp2
        go_end0
        exact ⟨⟨_, rfl⟩, hJ⟩
end Go.Proofs.Ytfkpodhkbcocmaa.Bm
