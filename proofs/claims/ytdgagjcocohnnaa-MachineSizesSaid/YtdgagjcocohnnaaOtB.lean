/-
  Layer 6 (outline): Same of the program and of the document's own.
-/
import Derived.Test.YtdgagjcocohnnaaOtA
namespace Go.Proofs.Ytdgagjcocohnnaa.Ot
open Go.RowKit
def EqC (n : Nat) (g : Nat → Pt) (n' : Nat) (g' : Nat → Pt) : Prop := n = n' ∧ ∀ i, i < n → g i = g' i
def EqO (N : Nat) (ns : Nat → Nat) (g : Nat → Nat → Pt) (N' : Nat) (ns' : Nat → Nat) (g' : Nat → Nat → Pt) : Prop := N = N' ∧ ∀ k, k < N → EqC (ns k) (g k) (ns' k) (g' k)
def EqcRel (w : World) (g g' : Nat → Pt) (n : Nat) (v : Value) (V : World) : Prop := ∃ k : Nat, v = .int .i64 k ∧ k ≤ n ∧ (∀ i, i < k → g i = g' i) ∧ Below w.heap.size w V
theorem pt_cases (p q : Pt) : p = q ∨ (p ≠ q ∧ ((p.x == q.x) = false ∨ (p.x = q.x ∧ (p.y == q.y) = false) ∨ (p.x = q.x ∧ p.y = q.y ∧ (p.o == q.o) = false))) := by
  by_cases h1 : p.x = q.x
  · by_cases h2 : p.y = q.y
    · by_cases h3 : p.o = q.o
      · exact .inl (pt_ext h1 h2 h3)
      · exact .inr ⟨fun e => h3 (by rw [e]), .inr (.inr ⟨h1, h2, beq_eq_false_iff_ne.2 h3⟩)⟩
    · exact .inr ⟨fun e => h2 (by rw [e]), .inr (.inl ⟨h1, beq_eq_false_iff_ne.2 h2⟩)⟩
  · exact .inr ⟨fun e => h1 (by rw [e]), .inl (beq_eq_false_iff_ne.2 h1)⟩
def EqoRel (w : World) (N : Nat) (ns : Nat → Nat) (g : Nat → Nat → Pt) (ns' : Nat → Nat) (g' : Nat → Nat → Pt) (v : Value) (V : World) : Prop := ∃ k : Nat, v = .int .i64 k ∧ k ≤ N ∧ (∀ i, i < k → EqC (ns i) (g i) (ns' i) (g' i)) ∧ Below w.heap.size w V
theorem ex_bool (P : Prop) : ∃ r : Bool, r = true ↔ P := by
  by_cases h : P
  · exact ⟨true, by simp [h]⟩
  · exact ⟨false, by simp [h]⟩
def RsRel (w : World) (g g' : Nat → Pt) (n : Nat) (v : Value) (V : World) : Prop := ∃ k : Nat, v = .int .i64 k ∧ k ≤ n ∧ (∀ i, i < k → g i = g' i) ∧ Below w.heap.size w V
set_option maxRecDepth 100000 in
set_option maxHeartbeats 4000000 in
theorem rSame_any (a a' : Option Addr) (N c N' c' : Nat) (ns ns' : Nat → Nat) (g g' : Nat → Nat → Pt) (r : Bool) (hr : Hid (r = true ↔ EqO N ns g N' ns' g')) (hN : N ≤ 1000000) (hN' : N' ≤ 1000000) (hs : ∀ k, k < N → ns k ≤ 1000000) (hs' : ∀ k, k < N' → ns' k ≤ 1000000) (w : World) (hA : OT w a N ns g) (hB : OT w a' N' ns' g') :
    Calls Try.prog 14 #[.slice a N c, .slice a' N' c'] w fun e w' => e = .returned (.bool r) ∧ Below w.heap.size w w' := by
  have HA := Lib.hid hA
  have HB := Lib.hid hB
  have HS := Lib.hid hs
  have HS' := Lib.hid hs'
  clear hA hB hs hs'
  by_cases hnn : N = N'
  · subst hnn
    go_enter Try.func14, Try.ntmps14
    go_wp2_with fail
    go_loopw [5] (fun v V => EqoRel w N ns g ns' g' v V) (fun v _ => N - (intOf v).toNat)
    case atStart => exact ⟨0, rfl, by omega, fun i hi => absurd hi (by omega), Below.refl _ _⟩
    case round =>
      obtain ⟨k, rfl, hk, hE, hV⟩ := hrel
      rename World => V
      rcases Nat.lt_or_ge k N with hkn | hkn
      · obtain ⟨b1, o1, a1, c1, rfl, x0, x1, x2, x3⟩ := ot_below HA.out hV k hkn
        obtain ⟨b2, o2, a2, c2, rfl, y0, y1, y2, y3⟩ := ot_below HB.out hV k hkn
        have k2 : (0 : Int) ≤ (k : Int) := by omega
        have k3 : (k : Int) < (N : Int) := by omega
        have s1 := HS.out k hkn
        have s2 := HS'.out k hkn
        by_cases hl : ns k = ns' k
        · have hN : Hid ((∀ i, i < ns k → g k i = g' k i) → ∀ V', Below w.heap.size w V' → EqoRel w N ns g ns' g' (.int .i64 ((k : Int) + 1)) V') := Lib.hid (fun hg V' hb => ⟨k + 1, rfl, by omega, fun i hi => by
            rcases Nat.lt_or_ge i k with h | h
            · exact hE i h
            · obtain rfl : i = k := by omega
              exact ⟨hl, hg⟩, hb⟩)
          have hY : Hid (∀ i, i < ns k → g k i ≠ g' k i → r = false) := Lib.hid (fun i hi hne => by
            rcases hh : r with _ | _
            · rfl
            · exact absurd (((hr.out.1 hh).2 k hkn).2 i hi) hne)
          rw [← hl] at y0 y1 y3 s2
          have X3 := Lib.hid x3
          have Y3 := Lib.hid y3
          have X0 := Lib.hid x0
          have Y0 := Lib.hid y0
          clear hE hl x3 y3
          generalize ns k = m at *
          generalize g k = gk at *
          generalize g' k = gk' at *
          go_upto_region 6 with (fail)
          go_quiet (fail)
          go_wp2_with fail
          go_loopw [6] (fun v W => RsRel V gk gk' m v W) (fun v _ => m - (intOf v).toNat)
          case atStart => exact ⟨0, rfl, by omega, fun i hi => absurd hi (by omega), bd (Below.refl _ _) _⟩
          case round =>
            clear x0 y0
            obtain ⟨i, rfl, hi, hEi, hW⟩ := hrel
            rename World => W
            have x0 := kc hW X0.out
            have y0 := kc hW Y0.out
            have i2 : (0 : Int) ≤ (i : Int) := by omega
            rcases Nat.lt_or_ge i m with him | him
            · obtain ⟨b3, o3, rfl, z0, z1, z2⟩ := pa_below X3.out hW i him
              obtain ⟨b4, o4, rfl, t0, t1, t2⟩ := pa_below Y3.out hW i him
              have i3 : (i : Int) < (m : Int) := by omega
              rcases pt_cases (gk i) (gk' i) with he | ⟨hne, hd⟩
              · have hN2 : Hid (∀ q, RsRel V gk gk' m (.int .i64 ((i : Int) + 1)) (W.drewN q)) := Lib.hid (fun q => ⟨i + 1, rfl, by omega, fun j hj => by
                  rcases Nat.lt_or_ge j i with h | h
                  · exact hEi j h
                  · obtain rfl : j = i := by omega
                    exact he, bd hW q⟩)
                rw [← he] at t0 t1 t2
                clear hEi he hN hY
                generalize gk i = x at *
                go_upto_region 11 with (fail)
                go_quiet (fail)
                go_wp2_with fail
                exact ⟨hN2.out _, by simp [intOf]; omega⟩
              · have R := Lib.hid (hY.out i him hne)
                clear hEi hne hN hY
                generalize gk i = x at *
                generalize gk' i = y at *
                rcases hd with hd | ⟨e1, hd⟩ | ⟨e1, e2, hd⟩
                · go_upto_region 11 with (fail)
                  go_quiet (fail)
                  go_wp2_with fail
                  go_ret
                  exact ⟨by rw [R.out]; rfl, bt hV (bd hW _)⟩
                · rw [← e1] at t0
                  clear e1
                  go_upto_region 11 with (fail)
                  go_quiet (fail)
                  go_wp2_with fail
                  go_ret
                  exact ⟨by rw [R.out]; rfl, bt hV (bd hW _)⟩
                · rw [← e1] at t0
                  rw [← e2] at t1
                  clear e1 e2
                  go_upto_region 11 with (fail)
                  go_quiet (fail)
                  go_wp2_with fail
                  go_ret
                  exact ⟨by rw [R.out]; rfl, bt hV (bd hW _)⟩
            · obtain rfl : i = m := by omega
              have R := Lib.hid (hN.out hEi _ (bt hV hW))
              clear hEi hN hY
              go_wp2_with fail
              exact ⟨R.out, by simp [intOf]; omega⟩
        · have R : Hid (r = false) := Lib.hid (by
            rcases hh : r with _ | _
            · rfl
            · exact absurd ((hr.out.1 hh).2 k hkn).1 hl)
          have q : (((ns k : Nat) : Int) == ((ns' k : Nat) : Int)) = false := beq_eq_false_iff_ne.2 (by omega)
          have q1 : (((ns k : Nat) : Int) != ((ns' k : Nat) : Int)) = true := by rw [bne_iff_ne]; omega
          clear hE hl x3 y3
          generalize ns k = m at *
          generalize ns' k = m' at *
          go_upto_region 6 with (fail)
          go_quiet (fail)
          go_wp2_with fail
          go_ret
          exact ⟨by rw [R.out]; rfl, bd hV _⟩
      · obtain rfl : k = N := by omega
        have R : Hid (r = true) := Lib.hid (hr.out.2 ⟨rfl, hE⟩)
        clear hE
        go_wp2
        go_ret
        exact ⟨by rw [R.out]; rfl, hV⟩
  · have R : Hid (r = false) := Lib.hid (by
      rcases hh : r with _ | _
      · rfl
      · exact absurd (hr.out.1 hh).1 hnn)
    have q : ((N : Int) != N') = true := by rw [bne_iff_ne]; omega
    have q2 : ((N : Int) == N') = false := beq_eq_false_iff_ne.2 (by omega)
    go_enter Try.func14, Try.ntmps14
    go_wp2_with fail
    go_ret
    exact ⟨by rw [R.out]; rfl, Below.refl _ _⟩
end Go.Proofs.Ytdgagjcocohnnaa.Ot
