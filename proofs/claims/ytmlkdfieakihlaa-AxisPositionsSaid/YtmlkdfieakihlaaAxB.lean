/-
  Layer 5 (axis): tags.
-/
import Derived.Test.YtmlkdfieakihlaaAxA
import Derived.Laws.RangeAny
import Derived.LoopTactic
namespace Go.Proofs.Ytmlkdfieakihlaa.Ax
open Go.RowKit

/-- Whether a byte is a small letter. -/
def lowB (s : ByteArray) (i : Nat) : Bool := decide (97 ≤ (s.get! i).toNat) && decide ((s.get! i).toNat ≤ 122)
def lowT (s : ByteArray) : Nat → Bool
  | 0 => true
  | k + 1 => lowT s k && lowB s k
theorem lowT_no {s : ByteArray} {i : Nat} (h : lowB s i = false) : ∀ k, i < k → lowT s k = false
  | 0, h0 => by omega
  | k + 1, h0 => by
    unfold lowT
    rcases Nat.lt_or_ge i k with hlt | hge
    · rw [lowT_no h k hlt]; rfl
    · obtain rfl : i = k := by omega
      rw [h, Bool.and_false]
def tagOk (s : ByteArray) : Bool := (decide (1 ≤ s.size) && decide (s.size ≤ 4)) && lowT s s.size
theorem getb (s : ByteArray) (pos : Nat) (h : pos < s.size) : s.get! pos = s[pos]'h := get_at s pos h
theorem low_rune (s : ByteArray) (pos : Nat) (h : pos < s.size) : lowB s pos = (decide (97 ≤ (Utf8.decode s pos).1) && decide ((Utf8.decode s pos).1 ≤ 122)) := by
  unfold lowB
  rw [getb s pos h]
  by_cases ha : (s[pos]'h).toNat < 128
  · rw [decode_ascii s pos h ha]
  · have h2 := (decode_high s pos h (by omega)).1
    rw [decide_eq_false (p := (s[pos]'h).toNat ≤ 122) (by omega), decide_eq_false (p := (Utf8.decode s pos).1 ≤ 122) (by omega), Bool.and_false, Bool.and_false]
theorem low_step (s : ByteArray) (pos : Nat) (h : pos < s.size) (hl : lowB s pos = true) : (Utf8.decode s pos).2 = 1 := by
  unfold lowB at hl
  rw [getb s pos h] at hl
  have := Bool.and_eq_true_iff.1 hl
  have h2 := of_decide_eq_true this.2
  rw [decode_ascii s pos h (by omega)]
theorem iter_below (w : World) (s : ByteArray) (p : Nat) : Below w.heap.size w (w.iter s p) := ba (Below.refl _ _) _

theorem width_pos (s : ByteArray) (pos : Nat) (h : pos < s.size) : 1 ≤ (Utf8.decode s pos).2 := by
  by_cases ha : (s[pos]'h).toNat < 128
  · rw [decode_ascii s pos h ha]
    exact Nat.le_refl _
  · exact (decode_high s pos h (by omega)).2
def ItRel (w : World) (s : ByteArray) (V : World) : Prop := ∃ pos, V = w.iter s pos ∧ pos ≤ s.size ∧ lowT s pos = true
theorem it_next {w : World} {s : ByteArray} {pos : Nat} (hp : pos < s.size) (hl : lowT s pos = true) (hg : lowB s pos = true) : ItRel w s (w.iter s (pos + (Utf8.decode s pos).2)) := by
  refine ⟨_, rfl, ?_, ?_⟩
  · rw [low_step s pos hp hg]; omega
  · rw [low_step s pos hp hg, lowT, hl, hg]; rfl
set_option maxRecDepth 100000 in
theorem isTag_any (s : ByteArray) (w : World) :
    Calls Try.prog 45 #[.string s] w fun e w' => e = .returned (.bool (tagOk s)) ∧ Below w.heap.size w w' := by
  unfold tagOk
  by_cases h1 : 1 ≤ s.size
  · by_cases h2 : s.size ≤ 4
    · rw [decide_eq_true h1, decide_eq_true h2, Bool.true_and, Bool.true_and]
      have l1 : decide ((s.size : Int) < 1) = false := decide_eq_false (by omega)
      have l2 : decide ((4 : Int) < (s.size : Int)) = false := decide_eq_false (by omega)
      go_enter Try.func45, Try.ntmps45
      go_wp2
      go_loopw [] (fun V => ItRel w s V) (fun V => s.size - V.iterPos w.heap.size)
      case atStart => exact ⟨0, rfl, by omega, rfl⟩
      case round =>
        obtain ⟨pos, rfl, hle, hl⟩ := hrel
        by_cases hp : pos < s.size
        · have hnx : ∀ ty, (Instr.next (.pointer (some ⟨w.heap.size, 0, none⟩)) true ty).run Try.prog (w.iter s pos) = _ := fun ty => run_next_any w s pos ty hp
          have hlr := low_rune s pos hp
          have hwd := width_pos s pos hp
          have hB := iter_below w s (pos + (Utf8.decode s pos).2)
          rcases hg : lowB s pos with _ | _
          · have hno := Lib.hid (lowT_no hg _ hp)
            rw [hg] at hlr
            by_cases ha : 97 ≤ (Utf8.decode s pos).1
            · have hb : ¬ (Utf8.decode s pos).1 ≤ 122 := fun hb => by rw [decide_eq_true ha, decide_eq_true hb] at hlr; cases hlr
              have l3 : decide (((Utf8.decode s pos).1 : Int) < 97) = false := decide_eq_false (by omega)
              have l4 : decide ((122 : Int) < ((Utf8.decode s pos).1 : Int)) = true := decide_eq_true (by omega)
              clear hlr hg
              go_wp2
              go_ret
              exact ⟨by rw [hno.out]; rfl, hB⟩
            · have l3 : decide (((Utf8.decode s pos).1 : Int) < 97) = true := decide_eq_true (by omega)
              clear hlr hg
              go_wp2
              go_ret
              exact ⟨by rw [hno.out]; rfl, hB⟩
          · have R := it_next (w := w) hp hl hg
            rw [hg] at hlr
            have ⟨ha, hb⟩ := Bool.and_eq_true_iff.1 hlr.symm
            have ha' := of_decide_eq_true ha
            have hb' := of_decide_eq_true hb
            have l3 : decide (((Utf8.decode s pos).1 : Int) < 97) = false := decide_eq_false (by omega)
            have l4 : decide ((122 : Int) < ((Utf8.decode s pos).1 : Int)) = false := decide_eq_false (by omega)
            clear hlr hg ha hb
            go_wp2_with fail
            refine ⟨R, ?_⟩
            simp
            omega
        · have hnx : ∀ ty, (Instr.next (.pointer (some ⟨w.heap.size, 0, none⟩)) true ty).run Try.prog (w.iter s pos) = _ := fun ty => run_next_end w s pos ty hp
          obtain rfl : pos = s.size := by omega
          have hL := Lib.hid hl
          have hB := iter_below w s s.size
          clear hl
          go_wp2
          go_ret
          exact ⟨by rw [hL.out]; rfl, hB⟩
    · have l1 : decide ((s.size : Int) < 1) = false := decide_eq_false (by omega)
      have l2 : decide ((4 : Int) < (s.size : Int)) = true := decide_eq_true (by omega)
      rw [decide_eq_false h2, Bool.and_false, Bool.false_and]
      go_enter Try.func45, Try.ntmps45
      go_wp2
      go_ret
      exact ⟨rfl, Below.refl _ _⟩
  · have l1 : decide ((s.size : Int) < 1) = true := decide_eq_true (by omega)
    rw [decide_eq_false h1, Bool.false_and, Bool.false_and]
    go_enter Try.func45, Try.ntmps45
    go_wp2
    go_ret
    exact ⟨rfl, Below.refl _ _⟩
def TgRel (w : World) (s : ByteArray) (v : Value) (V : World) : Prop := ∃ k : Nat, v = .int .i64 k ∧ V = w ∧ k ≤ s.size ∧ lowT s k = true
set_option maxRecDepth 100000 in
theorem tag_any (s : ByteArray) (hs : s.size ≤ 9223372036854775807) (w : World) :
    Calls Try.prog 27 #[.string s] w fun e w' => e = .returned (.bool (tagOk s)) ∧ Below w.heap.size w w' := by
  unfold tagOk
  go_enter Try.func27, Try.ntmps27
  go_wp2_with fail
  go_loopw [3] (fun v V => TgRel w s v V) (fun v _ => s.size - (intOf v).toNat)
  case atStart => exact ⟨0, rfl, rfl, by omega, rfl⟩
  case round =>
    obtain ⟨k, rfl, rfl, hle, hl⟩ := hrel
    rename World => V
    by_cases hp : k < s.size
    · have hk : (0 : Int) ≤ k := by omega
      have hlr : lowB s k = (decide (97 ≤ (s[k]'hp).toNat) && decide ((s[k]'hp).toNat ≤ 122)) := by unfold lowB; rw [getb s k hp]
      have hp' : (k : Int) < s.size := by omega
      rcases hg : lowB s k with _ | _
      · have hno := Lib.hid (lowT_no hg _ hp)
        rw [hg] at hlr
        by_cases ha : 97 ≤ (s[k]'hp).toNat
        · have hb : ¬ (s[k]'hp).toNat ≤ 122 := fun hb => by rw [decide_eq_true ha, decide_eq_true hb] at hlr; cases hlr
          have l3 : decide (((s[k]'hp).toNat : Int) < 97) = false := decide_eq_false (by omega)
          have l4 : decide ((122 : Int) < ((s[k]'hp).toNat : Int)) = true := decide_eq_true (by omega)
          clear hlr hg
          go_wp2
          go_ret
          exact ⟨by rw [hno.out, Bool.and_false]; rfl, Below.refl _ _⟩
        · have l3 : decide (((s[k]'hp).toNat : Int) < 97) = true := decide_eq_true (by omega)
          clear hlr hg
          go_wp2
          go_ret
          exact ⟨by rw [hno.out, Bool.and_false]; rfl, Below.refl _ _⟩
      · have R : TgRel V s (.int .i64 ((k : Int) + 1)) V := ⟨k + 1, rfl, rfl, by omega, by rw [lowT, hl, hg]; rfl⟩
        rw [hg] at hlr
        have ⟨ha, hb⟩ := Bool.and_eq_true_iff.1 hlr.symm
        have ha' := of_decide_eq_true ha
        have hb' := of_decide_eq_true hb
        have l3 : decide (((s[k]'hp).toNat : Int) < 97) = false := decide_eq_false (by omega)
        have l4 : decide ((122 : Int) < ((s[k]'hp).toNat : Int)) = false := decide_eq_false (by omega)
        clear hlr hg ha hb
        go_wp2_with fail
        exact ⟨R, by simp [intOf]; omega⟩
    · obtain rfl : k = s.size := by omega
      have hL := Lib.hid hl
      clear hl
      by_cases h1 : 1 ≤ s.size <;> by_cases h2 : s.size ≤ 4
      · have l1 : decide ((1 : Int) ≤ (s.size : Int)) = true := decide_eq_true (by omega)
        have l2 : decide ((s.size : Int) ≤ 4) = true := decide_eq_true (by omega)
        go_wp2
        go_ret
        exact ⟨by simp [hL.out, h1, h2], Below.refl _ _⟩
      · have l1 : decide ((1 : Int) ≤ (s.size : Int)) = true := decide_eq_true (by omega)
        have l2 : decide ((s.size : Int) ≤ 4) = false := decide_eq_false (by omega)
        go_wp2
        go_ret
        exact ⟨by simp [hL.out, h1, h2], Below.refl _ _⟩
      · have l1 : decide ((1 : Int) ≤ (s.size : Int)) = false := decide_eq_false (by omega)
        go_wp2
        go_ret
        exact ⟨by simp [hL.out, h1, h2], Below.refl _ _⟩
      · have l1 : decide ((1 : Int) ≤ (s.size : Int)) = false := decide_eq_false (by omega)
        go_wp2
        go_ret
        exact ⟨by simp [hL.out, h1, h2], Below.refl _ _⟩
end Go.Proofs.Ytmlkdfieakihlaa.Ax
