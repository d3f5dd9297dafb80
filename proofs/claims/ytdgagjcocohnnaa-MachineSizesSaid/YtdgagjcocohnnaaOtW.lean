/-
  Layer 6 (outline): Scale and Shift of the document's own.
-/
import Derived.Test.YtdgagjcocohnnaaOtV
import Derived.Test.YtdgagjcocohnnaaOtH
namespace Go.Proofs.Ytdgagjcocohnnaa.Ot
open Go.RowKit
theorem po_x {w : World} {b n k : Nat} {f : Nat → Pt} (x : Int) (h : PO w b n f) (hk : k < n) : PO (w.setCell ⟨b, k * 3, none⟩ (.int .i64 x)) b n (fun i => if i = k then ⟨x, (f k).y, (f k).o⟩ else f i) := fun i hi => by
  obtain ⟨⟨h1, h2, h3⟩, f1, f2, f3⟩ := h i hi
  obtain ⟨⟨k1, k2, k3⟩, e1, e2, e3⟩ := h k hk
  by_cases hik : i = k
  · subst hik
    simp only [if_true]
    exact ⟨⟨by go_cell, by go_cell, by go_cell⟩, by go_cell, by go_cell, by go_cell⟩
  · simp only [if_neg hik]
    have n0 : ¬ k * 3 = i * 3 := by omega
    have n1 : ¬ k * 3 = i * 3 + 1 := by omega
    have n2 : ¬ k * 3 = i * 3 + 2 := by omega
    exact ⟨⟨by go_cell, by go_cell, by go_cell⟩, by go_cell, by go_cell, by go_cell⟩
theorem po_y {w : World} {b n k : Nat} {f : Nat → Pt} (y : Int) (h : PO w b n f) (hk : k < n) : PO (w.setCell ⟨b, k * 3 + 1, none⟩ (.int .i64 y)) b n (fun i => if i = k then ⟨(f k).x, y, (f k).o⟩ else f i) := fun i hi => by
  obtain ⟨⟨h1, h2, h3⟩, f1, f2, f3⟩ := h i hi
  obtain ⟨⟨k1, k2, k3⟩, e1, e2, e3⟩ := h k hk
  by_cases hik : i = k
  · subst hik
    simp only [if_true]
    exact ⟨⟨by go_cell, by go_cell, by go_cell⟩, by go_cell, by go_cell, by go_cell⟩
  · simp only [if_neg hik]
    have n0 : ¬ k * 3 + 1 = i * 3 := by omega
    have n1 : ¬ k * 3 + 1 = i * 3 + 1 := by omega
    have n2 : ¬ k * 3 + 1 = i * 3 + 2 := by omega
    exact ⟨⟨by go_cell, by go_cell, by go_cell⟩, by go_cell, by go_cell, by go_cell⟩
theorem oo_upd {V V' : World} {n₀ S N k : Nat} {ns B : Nat → Nat} {g g' : Nat → Nat → Pt} (h : OO V n₀ S N ns B g) (hk : k < N) (h0 : 0 < ns k) (hG : V.grownBy V' (some (B k))) (hP : PO V' (B k) (ns k) (g' k)) (e : ∀ k', k' < N → k' ≠ k → ∀ i', i' < ns k' → g k' i' = g' k' i') : OO V' n₀ S N ns B g' := by
  have hS := (h.far k hk h0).2
  refine ⟨h.lo, fun j hj => ?_, fun j hj => ?_, h.far, h.own⟩
  · obtain ⟨a, c, e1, h1, h2, h3⟩ := h.cell j hj
    exact ⟨a, c, gc hG e1 (Ne.symm hS), h1, h2, h3⟩
  · by_cases hjk : j = k
    · subst hjk
      exact hP
    · exact po_congr (po_grown (h.pts j hj) hG (fun h0' hb => hjk (h.own j k hj hk h0' h0 hb))) (e j hj hjk)
theorem po_drew {w : World} {b n : Nat} {f : Nat → Pt} (h : PO w b n f) : PO w.drew b n f := h
/-- What is changed behind some rounds. -/
def upG (F : Nat → Nat → Pt → Pt) (g : Nat → Nat → Pt) (k i k' i' : Nat) : Pt := if k' < k ∨ (k' = k ∧ i' < i) then F k' i' (g k' i') else g k' i'
theorem upG_here {F : Nat → Nat → Pt → Pt} {g : Nat → Nat → Pt} {k i : Nat} : upG F g k i k i = g k i := by unfold upG; rw [if_neg (by omega)]
theorem upG_next {F : Nat → Nat → Pt → Pt} {g : Nat → Nat → Pt} {k i : Nat} (i' : Nat) : upG F g k (i + 1) k i' = if i' = i then F k i (g k i) else upG F g k i k i' := by
  unfold upG
  by_cases h : i' = i
  · subst h; rw [if_pos (by omega), if_pos rfl]
  · rw [if_neg h]
    by_cases h2 : i' < i
    · rw [if_pos (by omega), if_pos (by omega)]
    · rw [if_neg (by omega), if_neg (by omega)]
theorem upG_else {F : Nat → Nat → Pt → Pt} {g : Nat → Nat → Pt} {k i j k' : Nat} (h : k' ≠ k) (i' : Nat) : upG F g k i k' i' = upG F g k j k' i' := by
  unfold upG
  by_cases h2 : k' < k
  · rw [if_pos (by omega), if_pos (by omega)]
  · rw [if_neg (by omega), if_neg (by omega)]
theorem upG_step {F : Nat → Nat → Pt → Pt} {g : Nat → Nat → Pt} {k n k' i' : Nat} (h : k' = k → i' < n) : upG F g k n k' i' = upG F g (k + 1) 0 k' i' := by
  unfold upG
  by_cases h2 : k' < k
  · rw [if_pos (by omega), if_pos (by omega)]
  · by_cases h3 : k' = k
    · rw [if_pos (by have := h h3; omega), if_pos (by omega)]
    · rw [if_neg (by omega), if_neg (by omega)]
def OuR (w : World) (S N : Nat) (ns B : Nat → Nat) (F : Nat → Nat → Pt → Pt) (g : Nat → Nat → Pt) (v : Value) (V : World) : Prop := ∃ k : Nat, v = .int .i64 (k : Int) ∧ k ≤ N ∧ OO V w.heap.size S N ns B (upG F g k 0) ∧ Below w.heap.size w V
def InR (w : World) (S N : Nat) (ns B : Nat → Nat) (F : Nat → Nat → Pt → Pt) (g : Nat → Nat → Pt) (k : Nat) (v : Value) (V : World) : Prop := ∃ i : Nat, v = .int .i64 (i : Int) ∧ i ≤ ns k ∧ OO V w.heap.size S N ns B (upG F g k i) ∧ Below w.heap.size w V
set_option maxRecDepth 100000 in
set_option maxHeartbeats 8000000 in
theorem rScale_any (a : Option Addr) (N c : Nat) (ns : Nat → Nat) (g : Nat → Nat → Pt) (n : Int) (hN : N ≤ 1000000) (hs : ∀ k, k < N → ns k ≤ 1000000) (w : World) (hA : OT w a N ns g) :
    Calls Try.prog 17 #[.slice a N c, .int .i64 n] w fun e w' => ∃ a' c' S B, e = .returned (.slice a' N c') ∧ N ≤ c' ∧ c' ≤ 9223372036854775807 ∧ (0 < N → a' = some ⟨S, 0, none⟩) ∧ OO w' w.heap.size S N ns B (fun k i => scP n (g k i)) ∧ Below w.heap.size w w' := by
  have CP := Lib.hid (rCopy_any a N c ns g hN hs w hA)
  clear hA
  go_enter Try.func17, Try.ntmps17
  go_wp2_with fail
  refine CP.out.mono ?_
  rintro e V0 ⟨v, xs, B, rfl, hM⟩
  obtain ⟨a', c', S, rfl, hc1, hc2, ha, hO, _⟩ := mo_oo hM
  have R0 : OuR w S N ns B (fun _ _ p => scP n p) g (.int .i64 0) V0 := ⟨0, rfl, by omega, oo_congr hO (fun k' _ i' _ => by unfold upG; rw [if_neg (by omega)]), hM.be⟩
  clear hM hO CP
  go_wp2_with fail
  go_loopw [6] (fun v V => OuR w S N ns B (fun _ _ p => scP n p) g v V) (fun v _ => N - (intOf v).toNat)
  case atStart => exact R0
  case round =>
    clear R0
    obtain ⟨k, rfl, hk, hO, hB⟩ := hrel
    rename World => V
    rcases Nat.lt_or_ge k N with hkN | hkN
    · obtain rfl := ha (by omega)
      have hRo : Hid (∀ V', OO V' w.heap.size S N ns B (upG (fun _ _ p => scP n p) g k (ns k)) → Below w.heap.size w V' → OuR w S N ns B (fun _ _ p => scP n p) g (.int .i64 ((k : Int) + 1)) V') :=
        Lib.hid (fun V' h1 h2 => ⟨k + 1, rfl, by omega, oo_congr h1 (fun k' _ i' hi' => upG_step (fun e => by subst e; exact hi')), h2⟩)
      have k2 : (0 : Int) ≤ (k : Int) := by omega
      have k3 : (k : Int) < (N : Int) := by omega
      have hsk := hs k hkN
      go_wp2_with fail
      go_loopw [7] (fun v V => InR w S N ns B (fun _ _ p => scP n p) g k v V) (fun v _ => ns k - (intOf v).toNat)
      case atStart => exact ⟨0, rfl, by omega, hO, hB⟩
      case round =>
        clear hO hB
        obtain ⟨i, rfl, hi, hO, hB⟩ := hrel
        rename World => V
        obtain ⟨ak, ck, sc, hck1, hck2, hak⟩ := hO.cell k hkN
        rcases Nat.lt_or_ge i (ns k) with hin | hin
        · obtain rfl := hak (by omega)
          have i2 : (0 : Int) ≤ (i : Int) := by omega
          have i3 : (i : Int) < ((ns k : Nat) : Int) := by omega
          have hSB := (hO.far k hkN (by omega)).2
          have SX : ∀ w', V.grownBy w' (some (B k)) → w'.cell? ⟨S, k, none⟩ = some (.slice (some ⟨B k, 0, none⟩) (ns k) ck) := fun _ h => gc h sc (Ne.symm hSB)
          have hR : Hid (∀ V', OO V' w.heap.size S N ns B (upG (fun _ _ p => scP n p) g k (i + 1)) → Below w.heap.size w V' → InR w S N ns B (fun _ _ p => scP n p) g k (.int .i64 ((i : Int) + 1)) V') := Lib.hid (fun V' h1 h2 => ⟨i + 1, rfl, by omega, h1, h2⟩)
          obtain ⟨⟨x0, x1, x2⟩, z0, z1, z2⟩ := hO.pts k hkN i hin
          rw [upG_here] at x0 x1 x2
          obtain ⟨qx, hqx⟩ : ∃ qx, wrap64 (n * (g k i).x) = qx := ⟨_, rfl⟩
          obtain ⟨qy, hqy⟩ : ∃ qy, wrap64 (n * (g k i).y) = qy := ⟨_, rfl⟩
          have hqx2 : IntKind.i64.wrap (n * (g k i).x) = qx := (IntWalk.i64_left _).trans hqx
          have hqy2 : IntKind.i64.wrap (n * (g k i).y) = qy := (IntWalk.i64_left _).trans hqy
          replace hqx := Lib.hid hqx
          replace hqy := Lib.hid hqy
          clear hRo
          go_upto_region 8 with (fail)
          clear sc
          refine wp_region_held_drew (S := fun w' => V.grownBy w' (some (B k))) (by kernel_rfl) (gd1 (gr _ _)) (fun hHeld => ?_)
          refine wpAnyH_take (i := 0) (v := ?_) rfl (by kernel_rfl) (by kernel_rfl) (by kernel_rfl) (fun _ _ _ h => h) (Or.inl ⟨by rfl, ?_⟩) (by assumption) ?_
          rotate_left
          · intro w hSw; (try dsimp only at hSw); go_simp; try with_reducible rfl
          try simp only [Act.put, List.setIfInBounds_toArray]
          refine wpAnyH_take (i := 1) (v := ?_) rfl (by kernel_rfl) (by kernel_rfl) (by kernel_rfl) (fun _ _ _ h => h) (Or.inl ⟨by rfl, ?_⟩) (by assumption) ?_
          rotate_left
          · intro w hSw; (try dsimp only at hSw); go_simp; try with_reducible rfl
          try simp only [Act.put]
          refine wpAnyH_take (i := 2) (v := ?_) rfl (by kernel_rfl) (by kernel_rfl) (by kernel_rfl) (fun _ _ _ h => h) (Or.inl ⟨by rfl, ?_⟩) (by assumption) ?_
          rotate_left
          · intro w hSw; (try dsimp only at hSw); go_simp; try with_reducible rfl
          try simp only [Act.put]
          refine wpAnyH_take (i := 3) (v := ?_) rfl (by kernel_rfl) (by kernel_rfl) (by kernel_rfl) (fun _ _ _ h => h) (Or.inl ⟨by rfl, ?_⟩) (by assumption) ?_
          rotate_left
          · intro w hSw; (try dsimp only at hSw); go_simp; try with_reducible rfl
          try simp only [Act.put]
          refine wpAnyH_take (i := 4) (v := ?_) rfl (by kernel_rfl) (by kernel_rfl) (by kernel_rfl) (fun _ _ _ h => h) (Or.inl ⟨by rfl, ?_⟩) (by assumption) ?_
          rotate_left
          · intro w hSw; (try dsimp only at hSw); go_simp; try with_reducible rfl
          try simp only [Act.put]
          refine wpAnyH_take (i := 5) (v := ?_) rfl (by kernel_rfl) (by kernel_rfl) (by kernel_rfl) (fun _ _ _ h => h) (Or.inl ⟨by rfl, ?_⟩) (by assumption) ?_
          rotate_left
          · intro w hSw; (try dsimp only at hSw); go_simp; try with_reducible rfl
          try simp only [Act.put]
          refine wpAnyH_take (i := 6) (v := ?_) rfl (by kernel_rfl) (by kernel_rfl) (by kernel_rfl) (fun _ _ _ h => h) (Or.inl ⟨by rfl, ?_⟩) (by assumption) ?_
          rotate_left
          · intro w hSw; (try dsimp only at hSw); go_simp; try with_reducible rfl
          try simp only [Act.put]
          refine wpAnyH_take (i := 7) (v := ?_) rfl (by kernel_rfl) (by kernel_rfl) (by kernel_rfl) (fun _ _ _ h => h) (Or.inl ⟨by rfl, ?_⟩) (by assumption) ?_
          rotate_left
          · intro w hSw; (try dsimp only at hSw); go_simp; try with_reducible rfl
          try simp only [Act.put]
          refine wpAnyH_take (i := 8) (v := ?_) rfl (by kernel_rfl) (by kernel_rfl) (by kernel_rfl) (fun _ _ _ h => h) (Or.inl ⟨by rfl, ?_⟩) (by assumption) ?_
          rotate_left
          · intro w hSw; (try dsimp only at hSw); go_simp; try with_reducible rfl
          try simp only [Act.put]
          refine wpAnyH_take (i := 9) (v := ?_) rfl (by kernel_rfl) (by kernel_rfl) (by kernel_rfl) (fun _ _ _ h => h) (Or.inl ⟨by rfl, ?_⟩) (by assumption) ?_
          rotate_left
          · intro w hSw; (try dsimp only at hSw); go_simp; try with_reducible rfl
          try simp only [Act.put]
          refine wpAnyH_take (i := 10) (v := ?_) rfl (by kernel_rfl) (by kernel_rfl) (by kernel_rfl) (fun _ _ _ h => h) (Or.inl ⟨by rfl, ?_⟩) (by assumption) ?_
          rotate_left
          · intro w hSw; (try dsimp only at hSw); go_simp; try with_reducible rfl
          try simp only [Act.put]
          refine wpAnyH_take (i := 11) (v := ?_) rfl (by kernel_rfl) (by kernel_rfl) (by kernel_rfl) (fun _ _ _ h => h) (Or.inl ⟨by rfl, ?_⟩) (by assumption) ?_
          rotate_left
          · intro w hSw; (try dsimp only at hSw); go_simp; try with_reducible rfl
          try simp only [Act.put]
          refine wpAnyH_take (i := 12) (v := ?_) rfl (by kernel_rfl) (by kernel_rfl) (by kernel_rfl) (fun _ _ _ h => h) (Or.inl ⟨by rfl, ?_⟩) (by assumption) ?_
          rotate_left
          · intro w hSw; (try dsimp only at hSw); go_simp; try with_reducible rfl
          try simp only [Act.put]
          refine wpAnyH_ready (rs := [13]) (by kernel_rfl) (by simp) ?_
          refine AllReadyH.cons rfl (fun K hK => ?_) AllReadyH.nil
          go_simp
          try dsimp only
          refine hK.out _ _ (hHeld) (fun hHeld => ?_)
          clear hK K
          try simp only [Act.put, List.setIfInBounds_toArray, List.set_cons_zero, List.set_cons_succ]
          refine wpAnyH_take (i := 14) (v := ?_) rfl (by kernel_rfl) (by kernel_rfl) (by kernel_rfl) (fun _ _ _ h => h) (Or.inl ⟨by rfl, ?_⟩) (by assumption) ?_
          rotate_left
          · intro w hSw; (try dsimp only at hSw); go_simp; try with_reducible rfl
          try simp only [Act.put, List.setIfInBounds_toArray]
          refine wpAnyH_take (i := 15) (v := ?_) rfl (by kernel_rfl) (by kernel_rfl) (by kernel_rfl) (fun _ _ _ h => h) (Or.inl ⟨by rfl, ?_⟩) (by assumption) ?_
          rotate_left
          · intro w hSw; (try dsimp only at hSw); go_simp; try with_reducible rfl
          try simp only [Act.put]
          refine wpAnyH_take (i := 16) (v := ?_) rfl (by kernel_rfl) (by kernel_rfl) (by kernel_rfl) (fun _ _ _ h => h) (Or.inl ⟨by rfl, ?_⟩) (by assumption) ?_
          rotate_left
          · intro w hSw; (try dsimp only at hSw); go_simp; try with_reducible rfl
          try simp only [Act.put]
          refine wpAnyH_ready (rs := [17]) (by kernel_rfl) (by simp) ?_
          refine AllReadyH.cons rfl (fun K hK => ?_) AllReadyH.nil
          go_simp
          try dsimp only
          refine hK.out _ _ (gs hHeld _) (fun hHeld => ?_)
          clear hK K
          try simp only [Act.put, List.setIfInBounds_toArray, List.set_cons_zero, List.set_cons_succ]
          refine wpAnyH_done (by kernel_rfl) ?_ _
          have hP8 : PO (V.setCell ⟨B k, i * 3, none⟩ (.int .i64 qx)).drew (B k) (ns k) _ := po_drew (po_x qx (hO.pts k hkN) hin)
          obtain ⟨⟨c0, c1, c2⟩, f0, f1, f2⟩ := hP8 i hin
          rw [if_pos rfl] at c0 c1 c2
          rw [upG_here] at c0 c1 c2
          have hG8 : V.grownBy (V.setCell ⟨B k, i * 3, none⟩ (.int .i64 qx)).drew (some (B k)) := by with_reducible assumption
          generalize (V.setCell ⟨B k, i * 3, none⟩ (.int .i64 qx)).drew = V8 at *
          clear x0 x1 x2 z0 z1 z2
          go_upto_region 9 with (fail)
          refine wp_region_held_drew (S := fun w' => V.grownBy w' (some (B k))) (by kernel_rfl) (gd1 hG8) (fun hHeld => ?_)
          refine wpAnyH_take (i := 0) (v := ?_) rfl (by kernel_rfl) (by kernel_rfl) (by kernel_rfl) (fun _ _ _ h => h) (Or.inl ⟨by rfl, ?_⟩) (by assumption) ?_
          rotate_left
          · intro w hSw; (try dsimp only at hSw); go_simp; try with_reducible rfl
          try simp only [Act.put, List.setIfInBounds_toArray]
          refine wpAnyH_take (i := 1) (v := ?_) rfl (by kernel_rfl) (by kernel_rfl) (by kernel_rfl) (fun _ _ _ h => h) (Or.inl ⟨by rfl, ?_⟩) (by assumption) ?_
          rotate_left
          · intro w hSw; (try dsimp only at hSw); go_simp; try with_reducible rfl
          try simp only [Act.put]
          refine wpAnyH_take (i := 2) (v := ?_) rfl (by kernel_rfl) (by kernel_rfl) (by kernel_rfl) (fun _ _ _ h => h) (Or.inl ⟨by rfl, ?_⟩) (by assumption) ?_
          rotate_left
          · intro w hSw; (try dsimp only at hSw); go_simp; try with_reducible rfl
          try simp only [Act.put]
          refine wpAnyH_take (i := 3) (v := ?_) rfl (by kernel_rfl) (by kernel_rfl) (by kernel_rfl) (fun _ _ _ h => h) (Or.inl ⟨by rfl, ?_⟩) (by assumption) ?_
          rotate_left
          · intro w hSw; (try dsimp only at hSw); go_simp; try with_reducible rfl
          try simp only [Act.put]
          refine wpAnyH_take (i := 4) (v := ?_) rfl (by kernel_rfl) (by kernel_rfl) (by kernel_rfl) (fun _ _ _ h => h) (Or.inl ⟨by rfl, ?_⟩) (by assumption) ?_
          rotate_left
          · intro w hSw; (try dsimp only at hSw); go_simp; try with_reducible rfl
          try simp only [Act.put]
          refine wpAnyH_take (i := 5) (v := ?_) rfl (by kernel_rfl) (by kernel_rfl) (by kernel_rfl) (fun _ _ _ h => h) (Or.inl ⟨by rfl, ?_⟩) (by assumption) ?_
          rotate_left
          · intro w hSw; (try dsimp only at hSw); go_simp; try with_reducible rfl
          try simp only [Act.put]
          refine wpAnyH_take (i := 6) (v := ?_) rfl (by kernel_rfl) (by kernel_rfl) (by kernel_rfl) (fun _ _ _ h => h) (Or.inl ⟨by rfl, ?_⟩) (by assumption) ?_
          rotate_left
          · intro w hSw; (try dsimp only at hSw); go_simp; try with_reducible rfl
          try simp only [Act.put]
          refine wpAnyH_take (i := 7) (v := ?_) rfl (by kernel_rfl) (by kernel_rfl) (by kernel_rfl) (fun _ _ _ h => h) (Or.inl ⟨by rfl, ?_⟩) (by assumption) ?_
          rotate_left
          · intro w hSw; (try dsimp only at hSw); go_simp; try with_reducible rfl
          try simp only [Act.put]
          refine wpAnyH_take (i := 8) (v := ?_) rfl (by kernel_rfl) (by kernel_rfl) (by kernel_rfl) (fun _ _ _ h => h) (Or.inl ⟨by rfl, ?_⟩) (by assumption) ?_
          rotate_left
          · intro w hSw; (try dsimp only at hSw); go_simp; try with_reducible rfl
          try simp only [Act.put]
          refine wpAnyH_take (i := 9) (v := ?_) rfl (by kernel_rfl) (by kernel_rfl) (by kernel_rfl) (fun _ _ _ h => h) (Or.inl ⟨by rfl, ?_⟩) (by assumption) ?_
          rotate_left
          · intro w hSw; (try dsimp only at hSw); go_simp; try with_reducible rfl
          try simp only [Act.put]
          refine wpAnyH_take (i := 10) (v := ?_) rfl (by kernel_rfl) (by kernel_rfl) (by kernel_rfl) (fun _ _ _ h => h) (Or.inl ⟨by rfl, ?_⟩) (by assumption) ?_
          rotate_left
          · intro w hSw; (try dsimp only at hSw); go_simp; try with_reducible rfl
          try simp only [Act.put]
          refine wpAnyH_take (i := 11) (v := ?_) rfl (by kernel_rfl) (by kernel_rfl) (by kernel_rfl) (fun _ _ _ h => h) (Or.inl ⟨by rfl, ?_⟩) (by assumption) ?_
          rotate_left
          · intro w hSw; (try dsimp only at hSw); go_simp; try with_reducible rfl
          try simp only [Act.put]
          refine wpAnyH_take (i := 12) (v := ?_) rfl (by kernel_rfl) (by kernel_rfl) (by kernel_rfl) (fun _ _ _ h => h) (Or.inl ⟨by rfl, ?_⟩) (by assumption) ?_
          rotate_left
          · intro w hSw; (try dsimp only at hSw); go_simp; try with_reducible rfl
          try simp only [Act.put]
          refine wpAnyH_ready (rs := [13]) (by kernel_rfl) (by simp) ?_
          refine AllReadyH.cons rfl (fun K hK => ?_) AllReadyH.nil
          go_simp
          try dsimp only
          refine hK.out _ _ (hHeld) (fun hHeld => ?_)
          clear hK K
          try simp only [Act.put, List.setIfInBounds_toArray, List.set_cons_zero, List.set_cons_succ]
          refine wpAnyH_take (i := 14) (v := ?_) rfl (by kernel_rfl) (by kernel_rfl) (by kernel_rfl) (fun _ _ _ h => h) (Or.inl ⟨by rfl, ?_⟩) (by assumption) ?_
          rotate_left
          · intro w hSw; (try dsimp only at hSw); go_simp; try with_reducible rfl
          try simp only [Act.put, List.setIfInBounds_toArray]
          refine wpAnyH_take (i := 15) (v := ?_) rfl (by kernel_rfl) (by kernel_rfl) (by kernel_rfl) (fun _ _ _ h => h) (Or.inl ⟨by rfl, ?_⟩) (by assumption) ?_
          rotate_left
          · intro w hSw; (try dsimp only at hSw); go_simp; try with_reducible rfl
          try simp only [Act.put]
          refine wpAnyH_take (i := 16) (v := ?_) rfl (by kernel_rfl) (by kernel_rfl) (by kernel_rfl) (fun _ _ _ h => h) (Or.inl ⟨by rfl, ?_⟩) (by assumption) ?_
          rotate_left
          · intro w hSw; (try dsimp only at hSw); go_simp; try with_reducible rfl
          try simp only [Act.put]
          refine wpAnyH_ready (rs := [17]) (by kernel_rfl) (by simp) ?_
          refine AllReadyH.cons rfl (fun K hK => ?_) AllReadyH.nil
          go_simp
          try dsimp only
          refine hK.out _ _ (gs hHeld _) (fun hHeld => ?_)
          clear hK K
          try simp only [Act.put, List.setIfInBounds_toArray, List.set_cons_zero, List.set_cons_succ]
          refine wpAnyH_done (by kernel_rfl) ?_ _
          have hP9 : PO (V8.setCell ⟨B k, i * 3 + 1, none⟩ (.int .i64 qy)).drew (B k) (ns k) _ := po_drew (po_y qy hP8 hin)
          have hG9 : V.grownBy (V8.setCell ⟨B k, i * 3 + 1, none⟩ (.int .i64 qy)).drew (some (B k)) := by with_reducible assumption
          have R := Lib.hid (hR.out _ (oo_upd (g' := upG (fun _ _ p => scP n p) g k (i + 1)) hO hkN (by omega) hG9 (po_congr hP9 (fun i' hi' => by
            rw [upG_next]
            by_cases e : i' = i
            · rw [if_pos e, if_pos e, if_pos rfl]
              simp only [upG_here]
              rw [← hqx.out, ← hqy.out]
              rfl
            · rw [if_neg e, if_neg e, if_neg e])) (fun k' hk' hne i' hi' => upG_else hne i')) (gB hB hG9 (hO.far k hkN (by omega)).1))
          clear hP9 hG9 hR hO hB SX c0 c1 c2 f0 f1 f2 hP8 hG8
          go_wp2_with fail
          exact ⟨R.out, by simp [intOf]; omega⟩
        · obtain rfl : i = ns k := by omega
          have R := Lib.hid (hRo.out _ hO hB)
          clear hO hB hRo hak
          go_wp2_with fail
          exact ⟨R.out, by simp [intOf]; omega⟩
    · obtain rfl : k = N := by omega
      go_wp2_with fail
      go_ret
      exact ⟨a', c', S, B, rfl, hc1, hc2, ha, oo_congr hO (fun k' hk' i' hi' => by unfold upG; rw [if_pos (by omega)]), hB⟩
end Go.Proofs.Ytdgagjcocohnnaa.Ot
