/-
  Layer 5 (axis): axes in memory; Check.
-/
import Derived.Test.YtmlkdfieakihlaaAxB
namespace Go.Proofs.Ytmlkdfieakihlaa.Ax
open Go.RowKit

structure Axs where
  t : ByteArray
  l : Int
  u : Int
  h : Int
/-- An axis as the program's value. -/
def axV (x : Axs) : Value := .agg #[.string x.t, .int .i64 x.l, .int .i64 x.u, .int .i64 x.h]
/-- An axis in memory. -/
def AxAt (w : World) (b o : Nat) (x : Axs) : Prop :=
  w.cell? ⟨b, o, none⟩ = some (.string x.t) ∧ w.cell? ⟨b, o + 1, none⟩ = some (.int .i64 x.l) ∧ w.cell? ⟨b, o + 2, none⟩ = some (.int .i64 x.u) ∧ w.cell? ⟨b, o + 3, none⟩ = some (.int .i64 x.h)
/-- Axes in memory. -/
def AA (w : World) (a : Option Addr) (n : Nat) (g : Nat → Axs) : Prop :=
  ∀ i, i < n → ∃ b o, a = some ⟨b, o, none⟩ ∧ AxAt w b (o + i * 4) (g i)
theorem axat_below {w W : World} {b o : Nat} {x : Axs} (h : AxAt w b o x) (hB : Below w.heap.size w W) : AxAt W b o x :=
  ⟨kc hB (block_lt_of_cell h.1) h.1, kc hB (block_lt_of_cell h.1) h.2.1, kc hB (block_lt_of_cell h.1) h.2.2.1, kc hB (block_lt_of_cell h.1) h.2.2.2⟩
theorem aa_below {w W : World} {a : Option Addr} {n : Nat} {g : Nat → Axs} (h : AA w a n g) (hB : Below w.heap.size w W) : AA W a n g := fun i hi => by
  obtain ⟨b, o, e, hc⟩ := h i hi
  exact ⟨b, o, e, axat_below hc hB⟩
theorem aa_less {w : World} {a : Option Addr} {n m : Nat} {g : Nat → Axs} (h : AA w a n g) (hm : m ≤ n) : AA w a m g := fun i hi => h i (by omega)
/-- Whether two strings are equal. -/
def eqs (s t : ByteArray) : Bool := s.toList == t.toList
/-- Whether one of the first axes has a tag. -/
def twc (g : Nat → Axs) (t : ByteArray) : Nat → Bool
  | 0 => false
  | k + 1 => twc g t k || eqs (g k).t t
theorem twc_yes {g : Nat → Axs} {t : ByteArray} {i : Nat} (h : eqs (g i).t t = true) : ∀ k, i < k → twc g t k = true
  | 0, h0 => by omega
  | k + 1, h0 => by
    unfold twc
    rcases Nat.lt_or_ge i k with hlt | hge
    · rw [twc_yes h k hlt]; rfl
    · obtain rfl : i = k := by omega
      rw [h, Bool.or_true]
def ordA (x : Axs) : Bool := decide (x.l ≤ x.u) && decide (x.u ≤ x.h)
def ranA (x : Axs) : Bool := inU x.l && inU x.u && inU x.h
/-- The error of an axis that follows others. -/
def ckOne (g : Nat → Axs) (m : Nat) (x : Axs) : Int :=
  if tagOk x.t = false then 40 else if twc g x.t m = true then 6 else if ranA x = false then 3 else if ordA x = false then 8 else 0
def ckTo (g : Nat → Axs) : Nat → Int
  | 0 => 0
  | k + 1 => if ckTo g k = 0 then ckOne g k (g k) else ckTo g k
theorem ckTo_stay {g : Nat → Axs} {i : Nat} (h0 : ckTo g i = 0) (h : ¬ ckOne g i (g i) = 0) : ∀ k, i < k → ckTo g k = ckOne g i (g i)
  | 0, h0 => by omega
  | k + 1, h1 => by
    unfold ckTo
    rcases Nat.lt_or_ge i k with hlt | hge
    · rw [ckTo_stay h0 h k hlt, if_neg h]
    · obtain rfl : i = k := by omega
      rw [if_pos h0]
def ckL (g : Nat → Axs) (n : Nat) : Int := if n ≤ 3 then ckTo g n else 2

theorem same1_any (x : Axs) (t : ByteArray) (B : Nat) (w : World) (hc : w.cell? ⟨B, 0, none⟩ = some (.string t)) :
    Calls Try.prog 44 #[axV x, .pointer (some ⟨B, 0, none⟩)] w fun e w' => e = .returned (.bool (eqs x.t t)) ∧ Below w.heap.size w w' := by
  unfold axV
  have hlt := block_lt_of_cell hc
  have hne : ¬ B = w.heap.size := by simp only at hlt; omega
  go_enter Try.func44, Try.ntmps44
  go_wp2
  go_ret
  exact ⟨rfl, by go_grown⟩
/-- The closure that looks for a tag. -/
def hsV (B : Nat) : Value := .func (.func 44) #[] #[.pointer (some ⟨B, 0, none⟩)]
def IxRel (w : World) (g : Nat → Axs) (t : ByteArray) (m : Nat) (v : Value) (V : World) : Prop := ∃ k : Nat, v = .int .i64 k ∧ k ≤ m ∧ twc g t k = false ∧ Below w.heap.size w V
set_option maxRecDepth 100000 in
theorem index_any (a : Option Addr) (m c : Nat) (g : Nat → Axs) (t : ByteArray) (B : Nat) (hm : m ≤ 100) (w : World) (hA : AA w a m g) (hc : w.cell? ⟨B, 0, none⟩ = some (.string t)) :
    Calls Try.prog 62 #[.slice a m c, hsV B] w fun e w' => ∃ r : Int, e = .returned (.int .i64 r) ∧ decide (0 ≤ r) = twc g t m ∧ Below w.heap.size w w' := by
  have HA := Lib.hid hA
  clear hA
  unfold hsV
  go_enter Try.func62, Try.ntmps62
  go_wp2_with fail
  go_loopw [8] (fun v V => IxRel w g t m v V) (fun v _ => m - (intOf v).toNat)
  case atStart => exact ⟨0, rfl, by omega, rfl, Below.refl _ _⟩
  case round =>
    obtain ⟨k, rfl, hle, hn, hB⟩ := hrel
    rename World => V
    have hlt := block_lt_of_cell hc
    have hcV := kc hB hlt hc
    rcases Nat.lt_or_ge k m with hk | hk
    · obtain ⟨b, o, rfl, x0, x1, x2, x3⟩ := aa_below HA.out hB k hk
      have S := Lib.hid (same1_any (g k) t B V hcV)
      have hT := Lib.hid (fun k' hk' h => twc_yes (g := g) (t := t) (i := k) h k' hk')
      have hN : Hid (eqs (g k).t t = false → IxRel w g t m (.int .i64 ((k : Int) + 1)) V) := Lib.hid (fun h => ⟨k + 1, rfl, by omega, by rw [twc, hn, h]; rfl, hB⟩)
      unfold axV at S
      clear hn
      generalize g k = x at *
      rcases he : eqs x.t t with _ | _
      · rw [he] at S
        have R : Hid (∀ V', Below V.heap.size V V' → IxRel w g t m (.int .i64 ((k : Int) + 1)) V') := Lib.hid (fun V' h => by
          obtain ⟨k', e1, e2, e3, e4⟩ := hN.out he
          exact ⟨k', e1, e2, e3, bt e4 h⟩)
        clear hT hN he
        go_wp2_with fail
        refine S.out.mono ?_
        rintro e V1 ⟨rfl, hB1⟩
        have R1 := Lib.hid (R.out _ hB1)
        go_wp2_with fail
        exact ⟨R1.out, by simp [intOf]; omega⟩
      · rw [he] at S
        have hY := Lib.hid (hT.out m hk he)
        clear hT hN he
        go_wp2_with fail
        refine S.out.mono ?_
        rintro e V1 ⟨rfl, hB1⟩
        go_wp2
        go_ret
        exact ⟨_, rfl, by rw [hY.out]; exact decide_eq_true (by omega), bt hB hB1⟩
    · obtain rfl : k = m := by omega
      have hL := Lib.hid hn
      clear hn
      go_wp2
      go_ret
      exact ⟨_, rfl, by rw [hL.out]; rfl, hB⟩
theorem contains_any (a : Option Addr) (m c : Nat) (g : Nat → Axs) (t : ByteArray) (B : Nat) (hm : m ≤ 100) (w : World) (hA : AA w a m g) (hc : w.cell? ⟨B, 0, none⟩ = some (.string t)) :
    Calls Try.prog 46 #[.slice a m c, hsV B] w fun e w' => e = .returned (.bool (twc g t m)) ∧ Below w.heap.size w w' := by
  have I := Lib.hid (index_any a m c g t B hm w hA hc)
  unfold hsV at *
  generalize twc g t m = b at *
  clear hA hc
  go_enter Try.func46, Try.ntmps46
  go_wp2_with fail
  refine I.out.mono ?_
  rintro e V1 ⟨r, rfl, hr, hB1⟩
  go_wp2
  go_ret
  exact ⟨by rw [← hr]; rfl, hB1⟩
/-- An axis in a block of its own. -/
def BxA (w : World) (b : Nat) (x : Axs) : Prop :=
  w.cell? ⟨b, 0, none⟩ = some (.string x.t) ∧ w.cell? ⟨b, 1, none⟩ = some (.int .i64 x.l) ∧ w.cell? ⟨b, 2, none⟩ = some (.int .i64 x.u) ∧ w.cell? ⟨b, 3, none⟩ = some (.int .i64 x.h)
theorem bxa_below {w W : World} {b : Nat} {x : Axs} (h : BxA w b x) (hB : Below w.heap.size w W) : BxA W b x :=
  ⟨kc hB (block_lt_of_cell h.1) h.1, kc hB (block_lt_of_cell h.1) h.2.1, kc hB (block_lt_of_cell h.1) h.2.2.1, kc hB (block_lt_of_cell h.1) h.2.2.2⟩
set_option maxRecDepth 100000 in
set_option maxHeartbeats 4000000 in
theorem checkNext_any (a : Option Addr) (m c : Nat) (g : Nat → Axs) (x : Axs) (hm : m ≤ 100) (w : World) (hA : AA w a m g) :
    Calls Try.prog 26 #[.slice a m c, axV x] w fun e w' => e = .returned (.int .i64 (ckOne g m x)) ∧ Below w.heap.size w w' := by
  have HA := Lib.hid hA
  have T := Lib.hid (fun w => isTag_any x.t w)
  have L := Lib.hid (fun w => isUser_any x.l w)
  have U := Lib.hid (fun w => isUser_any x.u w)
  have H := Lib.hid (fun w => isUser_any x.h w)
  have C : Hid (∀ V, AA V a m g → V.cell? ⟨w.heap.size, 0, none⟩ = some (.string x.t) → Calls Try.prog 46 #[.slice a m c, hsV w.heap.size] V fun e w' => e = .returned (.bool (twc g x.t m)) ∧ Below V.heap.size V w') := Lib.hid (fun V h1 h2 => contains_any a m c g x.t w.heap.size hm V h1 h2)
  unfold hsV at C
  clear hA
  unfold axV ckOne ranA ordA
  generalize tagOk x.t = b1 at *
  generalize twc g x.t m = b2 at *
  generalize inU x.l = b3 at *
  generalize inU x.u = b4 at *
  generalize inU x.h = b5 at *
  rcases b1 with _ | _
  · simp only [if_true]
    go_enter Try.func26, Try.ntmps26
    go_wp2_with fail
    refine (T.out _).mono ?_
    rintro e V0 ⟨rfl, hB⟩
    have hX : BxA V0 w.heap.size x := bxa_below ⟨by go_cell, by go_cell, by go_cell, by go_cell⟩ hB
    have hB0 : Below w.heap.size w V0 := bt (ba (Below.refl _ _) _) hB
    clear hB
    obtain ⟨x0, x1, x2, x3⟩ := id hX
    go_wp2
    go_ret
    exact ⟨rfl, hB0⟩
  rcases b2 with _ | _
  rotate_left
  · simp only [if_true, Bool.true_eq_false, if_false]
    go_enter Try.func26, Try.ntmps26
    go_wp2_with fail
    refine (T.out _).mono ?_
    rintro e V0 ⟨rfl, hB⟩
    have hX : BxA V0 w.heap.size x := bxa_below ⟨by go_cell, by go_cell, by go_cell, by go_cell⟩ hB
    have hB0 : Below w.heap.size w V0 := bt (ba (Below.refl _ _) _) hB
    clear hB
    obtain ⟨x0, x1, x2, x3⟩ := id hX
    go_wp2_with fail
    refine (C.out _ (aa_below HA.out hB0) x0).mono ?_
    rintro e V1 ⟨rfl, hB1⟩
    replace hB0 := bt hB0 hB1
    have y := bxa_below hX hB1
    clear hX x0 x1 x2 x3
    have hX := y
    obtain ⟨x0, x1, x2, x3⟩ := id hX
    clear y
    go_wp2
    go_ret
    exact ⟨rfl, hB0⟩
  rcases b3 with _ | _
  · simp only [if_true, Bool.true_eq_false, Bool.false_eq_true, if_false, Bool.false_and]
    go_enter Try.func26, Try.ntmps26
    go_wp2_with fail
    refine (T.out _).mono ?_
    rintro e V0 ⟨rfl, hB⟩
    have hX : BxA V0 w.heap.size x := bxa_below ⟨by go_cell, by go_cell, by go_cell, by go_cell⟩ hB
    have hB0 : Below w.heap.size w V0 := bt (ba (Below.refl _ _) _) hB
    clear hB
    obtain ⟨x0, x1, x2, x3⟩ := id hX
    go_wp2_with fail
    refine (C.out _ (aa_below HA.out hB0) x0).mono ?_
    rintro e V1 ⟨rfl, hB1⟩
    replace hB0 := bt hB0 hB1
    have y := bxa_below hX hB1
    clear hX x0 x1 x2 x3
    have hX := y
    obtain ⟨x0, x1, x2, x3⟩ := id hX
    clear y
    go_wp2_with fail
    refine (L.out _).mono ?_
    rintro e V2 ⟨rfl, hB2⟩
    replace hB0 := bt hB0 hB2
    have y := bxa_below hX hB2
    clear hX x0 x1 x2 x3
    have hX := y
    obtain ⟨x0, x1, x2, x3⟩ := id hX
    clear y
    go_wp2
    go_ret
    exact ⟨rfl, hB0⟩
  rcases b4 with _ | _
  · simp only [if_true, Bool.true_eq_false, Bool.false_eq_true, if_false, Bool.false_and, Bool.true_and]
    go_enter Try.func26, Try.ntmps26
    go_wp2_with fail
    refine (T.out _).mono ?_
    rintro e V0 ⟨rfl, hB⟩
    have hX : BxA V0 w.heap.size x := bxa_below ⟨by go_cell, by go_cell, by go_cell, by go_cell⟩ hB
    have hB0 : Below w.heap.size w V0 := bt (ba (Below.refl _ _) _) hB
    clear hB
    obtain ⟨x0, x1, x2, x3⟩ := id hX
    go_wp2_with fail
    refine (C.out _ (aa_below HA.out hB0) x0).mono ?_
    rintro e V1 ⟨rfl, hB1⟩
    replace hB0 := bt hB0 hB1
    have y := bxa_below hX hB1
    clear hX x0 x1 x2 x3
    have hX := y
    obtain ⟨x0, x1, x2, x3⟩ := id hX
    clear y
    go_wp2_with fail
    refine (L.out _).mono ?_
    rintro e V2 ⟨rfl, hB2⟩
    replace hB0 := bt hB0 hB2
    have y := bxa_below hX hB2
    clear hX x0 x1 x2 x3
    have hX := y
    obtain ⟨x0, x1, x2, x3⟩ := id hX
    clear y
    go_wp2_with fail
    refine (U.out _).mono ?_
    rintro e V3 ⟨rfl, hB3⟩
    replace hB0 := bt hB0 hB3
    have y := bxa_below hX hB3
    clear hX x0 x1 x2 x3
    have hX := y
    obtain ⟨x0, x1, x2, x3⟩ := id hX
    clear y
    go_wp2
    go_ret
    exact ⟨rfl, hB0⟩
  rcases b5 with _ | _
  · simp only [if_true, Bool.true_eq_false, Bool.false_eq_true, if_false, Bool.true_and]
    go_enter Try.func26, Try.ntmps26
    go_wp2_with fail
    refine (T.out _).mono ?_
    rintro e V0 ⟨rfl, hB⟩
    have hX : BxA V0 w.heap.size x := bxa_below ⟨by go_cell, by go_cell, by go_cell, by go_cell⟩ hB
    have hB0 : Below w.heap.size w V0 := bt (ba (Below.refl _ _) _) hB
    clear hB
    obtain ⟨x0, x1, x2, x3⟩ := id hX
    go_wp2_with fail
    refine (C.out _ (aa_below HA.out hB0) x0).mono ?_
    rintro e V1 ⟨rfl, hB1⟩
    replace hB0 := bt hB0 hB1
    have y := bxa_below hX hB1
    clear hX x0 x1 x2 x3
    have hX := y
    obtain ⟨x0, x1, x2, x3⟩ := id hX
    clear y
    go_wp2_with fail
    refine (L.out _).mono ?_
    rintro e V2 ⟨rfl, hB2⟩
    replace hB0 := bt hB0 hB2
    have y := bxa_below hX hB2
    clear hX x0 x1 x2 x3
    have hX := y
    obtain ⟨x0, x1, x2, x3⟩ := id hX
    clear y
    go_wp2_with fail
    refine (U.out _).mono ?_
    rintro e V3 ⟨rfl, hB3⟩
    replace hB0 := bt hB0 hB3
    have y := bxa_below hX hB3
    clear hX x0 x1 x2 x3
    have hX := y
    obtain ⟨x0, x1, x2, x3⟩ := id hX
    clear y
    go_wp2_with fail
    refine (H.out _).mono ?_
    rintro e V4 ⟨rfl, hB4⟩
    replace hB0 := bt hB0 hB4
    have y := bxa_below hX hB4
    clear hX x0 x1 x2 x3
    have hX := y
    obtain ⟨x0, x1, x2, x3⟩ := id hX
    clear y
    go_wp2
    go_ret
    exact ⟨rfl, hB0⟩
  have l0 : (if (true && true && true) = false then (3 : Int) else if (decide (x.l ≤ x.u) && decide (x.u ≤ x.h)) = false then 8 else 0) = if (decide (x.l ≤ x.u) && decide (x.u ≤ x.h)) = false then 8 else 0 := rfl
  simp only [Bool.true_eq_false, Bool.false_eq_true, if_false, l0]
  by_cases h1 : x.l ≤ x.u
  · by_cases h2 : x.u ≤ x.h
    · rw [decide_eq_true h1, decide_eq_true h2]
      have q1 : decide (x.u < x.l) = false := decide_eq_false (by omega)
      have q2 : decide (x.h < x.u) = false := decide_eq_false (by omega)
      clear h1 h2
      go_enter Try.func26, Try.ntmps26
      go_wp2_with fail
      refine (T.out _).mono ?_
      rintro e V0 ⟨rfl, hB⟩
      have hX : BxA V0 w.heap.size x := bxa_below ⟨by go_cell, by go_cell, by go_cell, by go_cell⟩ hB
      have hB0 : Below w.heap.size w V0 := bt (ba (Below.refl _ _) _) hB
      clear hB
      obtain ⟨x0, x1, x2, x3⟩ := id hX
      go_wp2_with fail
      refine (C.out _ (aa_below HA.out hB0) x0).mono ?_
      rintro e V1 ⟨rfl, hB1⟩
      replace hB0 := bt hB0 hB1
      have y := bxa_below hX hB1
      clear hX x0 x1 x2 x3
      have hX := y
      obtain ⟨x0, x1, x2, x3⟩ := id hX
      clear y
      go_wp2_with fail
      refine (L.out _).mono ?_
      rintro e V2 ⟨rfl, hB2⟩
      replace hB0 := bt hB0 hB2
      have y := bxa_below hX hB2
      clear hX x0 x1 x2 x3
      have hX := y
      obtain ⟨x0, x1, x2, x3⟩ := id hX
      clear y
      go_wp2_with fail
      refine (U.out _).mono ?_
      rintro e V3 ⟨rfl, hB3⟩
      replace hB0 := bt hB0 hB3
      have y := bxa_below hX hB3
      clear hX x0 x1 x2 x3
      have hX := y
      obtain ⟨x0, x1, x2, x3⟩ := id hX
      clear y
      go_wp2_with fail
      refine (H.out _).mono ?_
      rintro e V4 ⟨rfl, hB4⟩
      replace hB0 := bt hB0 hB4
      have y := bxa_below hX hB4
      clear hX x0 x1 x2 x3
      have hX := y
      obtain ⟨x0, x1, x2, x3⟩ := id hX
      clear y
      go_wp2
      go_ret
      exact ⟨rfl, hB0⟩
    · rw [decide_eq_true h1, decide_eq_false h2]
      have q1 : decide (x.u < x.l) = false := decide_eq_false (by omega)
      have q2 : decide (x.h < x.u) = true := decide_eq_true (by omega)
      clear h1 h2
      go_enter Try.func26, Try.ntmps26
      go_wp2_with fail
      refine (T.out _).mono ?_
      rintro e V0 ⟨rfl, hB⟩
      have hX : BxA V0 w.heap.size x := bxa_below ⟨by go_cell, by go_cell, by go_cell, by go_cell⟩ hB
      have hB0 : Below w.heap.size w V0 := bt (ba (Below.refl _ _) _) hB
      clear hB
      obtain ⟨x0, x1, x2, x3⟩ := id hX
      go_wp2_with fail
      refine (C.out _ (aa_below HA.out hB0) x0).mono ?_
      rintro e V1 ⟨rfl, hB1⟩
      replace hB0 := bt hB0 hB1
      have y := bxa_below hX hB1
      clear hX x0 x1 x2 x3
      have hX := y
      obtain ⟨x0, x1, x2, x3⟩ := id hX
      clear y
      go_wp2_with fail
      refine (L.out _).mono ?_
      rintro e V2 ⟨rfl, hB2⟩
      replace hB0 := bt hB0 hB2
      have y := bxa_below hX hB2
      clear hX x0 x1 x2 x3
      have hX := y
      obtain ⟨x0, x1, x2, x3⟩ := id hX
      clear y
      go_wp2_with fail
      refine (U.out _).mono ?_
      rintro e V3 ⟨rfl, hB3⟩
      replace hB0 := bt hB0 hB3
      have y := bxa_below hX hB3
      clear hX x0 x1 x2 x3
      have hX := y
      obtain ⟨x0, x1, x2, x3⟩ := id hX
      clear y
      go_wp2_with fail
      refine (H.out _).mono ?_
      rintro e V4 ⟨rfl, hB4⟩
      replace hB0 := bt hB0 hB4
      have y := bxa_below hX hB4
      clear hX x0 x1 x2 x3
      have hX := y
      obtain ⟨x0, x1, x2, x3⟩ := id hX
      clear y
      go_wp2
      go_ret
      exact ⟨rfl, hB0⟩
  · rw [decide_eq_false h1]
    have q1 : decide (x.u < x.l) = true := decide_eq_true (by omega)
    clear h1
    go_enter Try.func26, Try.ntmps26
    go_wp2_with fail
    refine (T.out _).mono ?_
    rintro e V0 ⟨rfl, hB⟩
    have hX : BxA V0 w.heap.size x := bxa_below ⟨by go_cell, by go_cell, by go_cell, by go_cell⟩ hB
    have hB0 : Below w.heap.size w V0 := bt (ba (Below.refl _ _) _) hB
    clear hB
    obtain ⟨x0, x1, x2, x3⟩ := id hX
    go_wp2_with fail
    refine (C.out _ (aa_below HA.out hB0) x0).mono ?_
    rintro e V1 ⟨rfl, hB1⟩
    replace hB0 := bt hB0 hB1
    have y := bxa_below hX hB1
    clear hX x0 x1 x2 x3
    have hX := y
    obtain ⟨x0, x1, x2, x3⟩ := id hX
    clear y
    go_wp2_with fail
    refine (L.out _).mono ?_
    rintro e V2 ⟨rfl, hB2⟩
    replace hB0 := bt hB0 hB2
    have y := bxa_below hX hB2
    clear hX x0 x1 x2 x3
    have hX := y
    obtain ⟨x0, x1, x2, x3⟩ := id hX
    clear y
    go_wp2_with fail
    refine (U.out _).mono ?_
    rintro e V3 ⟨rfl, hB3⟩
    replace hB0 := bt hB0 hB3
    have y := bxa_below hX hB3
    clear hX x0 x1 x2 x3
    have hX := y
    obtain ⟨x0, x1, x2, x3⟩ := id hX
    clear y
    go_wp2_with fail
    refine (H.out _).mono ?_
    rintro e V4 ⟨rfl, hB4⟩
    replace hB0 := bt hB0 hB4
    have y := bxa_below hX hB4
    clear hX x0 x1 x2 x3
    have hX := y
    obtain ⟨x0, x1, x2, x3⟩ := id hX
    clear y
    go_wp2
    go_ret
    exact ⟨rfl, hB0⟩
end Go.Proofs.Ytmlkdfieakihlaa.Ax
