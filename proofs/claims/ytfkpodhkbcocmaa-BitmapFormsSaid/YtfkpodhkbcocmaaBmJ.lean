/-
  Layer 4 (bitmap): Same, and the document's own.
-/
import Derived.Test.YtfkpodhkbcocmaaBmI
namespace Go.Proofs.Ytfkpodhkbcocmaa.Bm
open Go.RowKit
def eqd (n : Nat) (f : Nat → Bool) (n' : Nat) (f' : Nat → Bool) : Bool := decide (n = n' ∧ ∀ i, i < n → f i = f' i)
def sm (W H : Int) (n : Nat) (f : Nat → Bool) (W' H' : Int) (n' : Nat) (f' : Nat → Bool) : Bool := decide (W = W') && decide (H = H') && eqd n f n' f'
def ERel (w : World) (n : Nat) (f f' : Nat → Bool) (s : Value) (wr : World) : Prop := ∃ k : Nat, k ≤ n ∧ s = .int .i64 k ∧ (∀ i, i < k → f i = f' i) ∧ Below w.heap.size w wr
set_option maxHeartbeats 4000000 in
theorem Equal_any (a : Option Addr) (n c : Nat) (f : Nat → Bool) (a' : Option Addr) (n' c' : Nat) (f' : Nat → Bool) (hn : n ≤ 1000000) (w : World) (hD : DA w a n f) (hD' : DA w a' n' f') :
    Calls Try.prog 42 #[.slice a n c, .slice a' n' c'] w fun e w' => e = .returned (.bool (eqd n f n' f')) ∧ Below w.heap.size w w' := by
  by_cases hne : n = n'
  · subst hne
    have HD := Lib.hid hD
    have HD' := Lib.hid hD'
    clear hD hD'
    go_enter Try.func42, Try.ntmps42
    go_wp2_with fail
    go_loopw [13] (fun s13 w' => ERel w n f f' s13 w') (fun s13 _ => n - (intOf s13).toNat)
    case atStart => exact ⟨0, by omega, rfl, fun i hi => absurd hi (by omega), Below.refl _ _⟩
    case round =>
      obtain ⟨k, hk, rfl, hall, hB⟩ := hrel
      rcases Nat.lt_or_ge k n with hkn | hkn
      · obtain ⟨b, o, rfl, hc⟩ := da_below HD.out hB k hkn
        obtain ⟨b', o', rfl, hc'⟩ := da_below HD'.out hB k hkn
        rcases hf : f k with _ | _ <;> rcases hf' : f' k with _ | _ <;> rw [hf] at hc <;> rw [hf'] at hc'
        case' false.true => have e : eqd n f n f' = false := by unfold eqd; rw [decide_eq_false]; exact fun h => by have := h.2 k hkn; rw [hf, hf'] at this; cases this
        case' true.false => have e : eqd n f n f' = false := by unfold eqd; rw [decide_eq_false]; exact fun h => by have := h.2 k hkn; rw [hf, hf'] at this; cases this
        case false.true =>
          go_wp2
          go_quiet (fail)
          go_wp2
          go_ret
          exact ⟨by rw [e]; rfl, bd hB _⟩
        case true.false =>
          go_wp2
          go_quiet (fail)
          go_wp2
          go_ret
          exact ⟨by rw [e]; rfl, bd hB _⟩
        all_goals
          have hall2 : ∀ i, i < k + 1 → f i = f' i := fun i hi => by
            rcases Nat.lt_or_ge i k with h | h
            · exact hall i h
            · have : i = k := by omega
              subst this
              rw [hf, hf']
          go_wp2
          go_quiet (fail)
          go_wp2
          go_roundw
          case rel => exact ⟨k + 1, by omega, by congr 1, hall2, bd hB _⟩
          case measure => simp [intOf]; omega
      · have hkk : k = n := by omega
        subst hkk
        have e : eqd k f k f' = true := by unfold eqd; rw [decide_eq_true ⟨rfl, hall⟩]
        go_wp2
        go_ret
        exact ⟨by rw [e]; rfl, hB⟩
  · have e : eqd n f n' f' = false := by unfold eqd; rw [decide_eq_false]; exact fun h => hne h.1
    rw [e]
    have hne2 : ¬ (n : Int) = n' := by omega
    go_enter Try.func42, Try.ntmps42
    go_wp2
    go_ret
    exact ⟨rfl, Below.refl _ _⟩
theorem sm_len {W H W' H' : Int} {n n' : Nat} {f f' : Nat → Bool} (h : n ≠ n') : sm W H n f W' H' n' f' = false := by
  unfold sm eqd
  rw [decide_eq_false (fun e : n = n' ∧ _ => h e.1), Bool.and_false]
set_option maxHeartbeats 4000000 in
theorem Same_any (W H : Int) (a : Option Addr) (n c : Nat) (f : Nat → Bool) (W' H' : Int) (a' : Option Addr) (n' c' : Nat) (f' : Nat → Bool) (hn : n ≤ 1000000) (w : World) (hD : DA w a n f) (hD' : DA w a' n' f') :
    Calls Try.prog 16 #[bv W H a n c, bv W' H' a' n' c'] w fun e w' => e = .returned (.bool (sm W H n f W' H' n' f')) ∧ Below w.heap.size w w' := by
  have E := Lib.hid (fun w => Equal_any a n c f a' n' c' f' hn w)
  unfold sm
  generalize eqd n f n' f' = z at *
  have HD := Lib.hid hD
  have HD' := Lib.hid hD'
  clear hD hD'
  unfold bv
  go_enter Try.func16, Try.ntmps16
  by_cases h1 : W = W'
  rotate_left
  · simp only [h1, decide_false, Bool.false_and]
    go_wp2
    go_ret
    exact ⟨rfl, ba (ba (Below.refl _ _) _) _⟩
  by_cases h2 : H = H'
  rotate_left
  · simp only [h1, h2, decide_false, decide_true, Bool.false_and, Bool.true_and]
    subst h1
    go_wp2
    go_ret
    exact ⟨rfl, ba (ba (Below.refl _ _) _) _⟩
  subst h1
  subst h2
  simp only [decide_true, Bool.true_and]
  have hBa := ba (ba (Below.refl _ w) (.cells #[.int .i64 W, .int .i64 H, .slice a n c] 28)) (.cells #[.int .i64 W, .int .i64 H, .slice a' n' c'] 28)
  go_wp2_with fail
  refine (E.out _ (da_below HD.out hBa) (da_below HD'.out hBa)).mono ?_
  rintro e w1 ⟨rfl, hB⟩
  go_wp2
  go_ret
  exact ⟨rfl, bt hBa hB⟩
def E2Rel (w : World) (W H : Int) (a a' : Option Addr) (n c c' : Nat) (f f' : Nat → Bool) (s : Value) (wr : World) : Prop := ∃ k : Nat, k ≤ n ∧ s = .int .i64 k ∧ (∀ i, i < k → f i = f' i) ∧ BoxAt wr w.heap.size W H a n c ∧ BoxAt wr (w.heap.size + 1) W H a' n c' ∧ Below w.heap.size w wr
set_option maxHeartbeats 4000000 in
theorem rSame_eq (W H : Int) (a : Option Addr) (n c : Nat) (f : Nat → Bool) (a' : Option Addr) (c' : Nat) (f' : Nat → Bool) (hn : n ≤ 1000000) (w : World) (hD : DA w a n f) (hD' : DA w a' n f') :
    Calls Try.prog 17 #[bv W H a n c, bv W H a' n c'] w fun e w' => e = .returned (.bool (eqd n f n f')) ∧ Below w.heap.size w w' := by
  have HD := Lib.hid hD
  have HD' := Lib.hid hD'
  clear hD hD'
  unfold bv
  have hBa := ba (ba (Below.refl _ w) (.cells #[.int .i64 W, .int .i64 H, .slice a n c] 28)) (.cells #[.int .i64 W, .int .i64 H, .slice a' n c'] 28)
  go_enter Try.func17, Try.ntmps17
  go_wp2_with fail
  go_loopw [5] (fun s5 w' => E2Rel w W H a a' n c c' f f' s5 w') (fun s5 _ => n - (intOf s5).toNat)
  case atStart => exact ⟨0, by omega, rfl, fun i hi => absurd hi (by omega), ⟨by go_cell, by go_cell, by go_cell⟩, ⟨by go_cell, by go_cell, by go_cell⟩, hBa⟩
  case round =>
    clear hBa
    obtain ⟨k, hk, rfl, hall, ⟨b0, b1, b2⟩, ⟨p0, p1, p2⟩, hB⟩ := hrel
    rcases Nat.lt_or_ge k n with hkn | hkn
    · obtain ⟨b, o, rfl, hc⟩ := da_below HD.out hB k hkn
      obtain ⟨b', o', rfl, hc'⟩ := da_below HD'.out hB k hkn
      rcases hf : f k with _ | _ <;> rcases hf' : f' k with _ | _ <;> rw [hf] at hc <;> rw [hf'] at hc'
      case' false.true => have e : eqd n f n f' = false := by unfold eqd; rw [decide_eq_false]; exact fun h => by have := h.2 k hkn; rw [hf, hf'] at this; cases this
      case' true.false => have e : eqd n f n f' = false := by unfold eqd; rw [decide_eq_false]; exact fun h => by have := h.2 k hkn; rw [hf, hf'] at this; cases this
      case false.true =>
        go_wp2
        go_quiet (fail)
        go_wp2
        go_ret
        exact ⟨by rw [e]; rfl, bd hB _⟩
      case true.false =>
        go_wp2
        go_quiet (fail)
        go_wp2
        go_ret
        exact ⟨by rw [e]; rfl, bd hB _⟩
      all_goals
        have hall2 : ∀ i, i < k + 1 → f i = f' i := fun i hi => by
          rcases Nat.lt_or_ge i k with h | h
          · exact hall i h
          · have : i = k := by omega
            subst this
            rw [hf, hf']
        go_wp2
        go_quiet (fail)
        go_wp2
        go_roundw
        case rel => exact ⟨k + 1, by omega, by congr 1, hall2, ⟨by go_cell, by go_cell, by go_cell⟩, ⟨by go_cell, by go_cell, by go_cell⟩, bd hB _⟩
        case measure => simp [intOf]; omega
    · have hkk : k = n := by omega
      subst hkk
      have e : eqd k f k f' = true := by unfold eqd; rw [decide_eq_true ⟨rfl, hall⟩]
      go_wp2
      go_ret
      exact ⟨by rw [e]; rfl, hB⟩
set_option maxHeartbeats 4000000 in
theorem rSame_any (W H : Int) (a : Option Addr) (n c : Nat) (f : Nat → Bool) (W' H' : Int) (a' : Option Addr) (n' c' : Nat) (f' : Nat → Bool) (hn : n ≤ 1000000) (w : World) (hD : DA w a n f) (hD' : DA w a' n' f') :
    Calls Try.prog 17 #[bv W H a n c, bv W' H' a' n' c'] w fun e w' => e = .returned (.bool (sm W H n f W' H' n' f')) ∧ Below w.heap.size w w' := by
  by_cases h1 : W = W'
  rotate_left
  · unfold sm
    simp only [h1, decide_false, Bool.false_and]
    unfold bv
    go_enter Try.func17, Try.ntmps17
    go_wp2
    go_ret
    exact ⟨rfl, ba (ba (Below.refl _ _) _) _⟩
  subst h1
  by_cases h2 : H = H'
  rotate_left
  · unfold sm
    simp only [h2, decide_false, decide_true, Bool.false_and, Bool.true_and]
    unfold bv
    go_enter Try.func17, Try.ntmps17
    go_wp2
    go_ret
    exact ⟨rfl, ba (ba (Below.refl _ _) _) _⟩
  subst h2
  by_cases h3 : n = n'
  rotate_left
  · rw [sm_len h3]
    have h3' : ¬ (n : Int) = n' := by omega
    unfold bv
    go_enter Try.func17, Try.ntmps17
    go_wp2
    go_ret
    exact ⟨rfl, ba (ba (Below.refl _ _) _) _⟩
  subst h3
  have := rSame_eq W H a n c f a' c' f' hn w hD hD'
  unfold sm
  simpa only [decide_true, Bool.true_and] using this
end Go.Proofs.Ytfkpodhkbcocmaa.Bm
