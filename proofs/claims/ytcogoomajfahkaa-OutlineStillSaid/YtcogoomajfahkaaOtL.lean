/-
  Layer 6 (outline): deltas in memory; weights; checkDeltas.
-/
import Derived.Test.YtcogoomajfahkaaOtG
import Derived.Test.YtcogoomajfahkaaAxL
namespace Go.Proofs.Ytcogoomajfahkaa.Ot
open Go.RowKit
open Go.Proofs.Ytcogoomajfahkaa.Ax (Tns TA LA fit scal ps ratV Fits_any rFits_any Scalar_any rScalar_any)
open Go.Proofs.Ytcogoomajfahkaa.Ex (RoI RoB outI fits round_go muldiv_go)
/-- A delta: its region and its moves. -/
structure De where
  K : Nat
  r : Nat → Tns
  M : Nat
  x : Nat → Int
  y : Nat → Int
def MvAt (w : World) (b o : Nat) (x y : Int) : Prop := w.cell? ⟨b, o, none⟩ = some (.int .i64 x) ∧ w.cell? ⟨b, o + 1, none⟩ = some (.int .i64 y)
def MA (w : World) (a : Option Addr) (n : Nat) (x y : Nat → Int) : Prop := ∀ i, i < n → ∃ b o, a = some ⟨b, o, none⟩ ∧ MvAt w b (o + i * 2) (x i) (y i)
theorem ma_below {w W : World} {a : Option Addr} {n : Nat} {x y : Nat → Int} (h : MA w a n x y) (hB : Below w.heap.size w W) : MA W a n x y := fun i hi => by
  obtain ⟨b, o, e, h1, h2⟩ := h i hi
  exact ⟨b, o, e, kc hB h1, kc hB h2⟩
/-- Deltas in memory. -/
def DA (w : World) (a : Option Addr) (n : Nat) (d : Nat → De) : Prop :=
  ∀ i, i < n → ∃ b o ra rc ma mc, a = some ⟨b, o, none⟩ ∧ w.cell? ⟨b, o + i * 2, none⟩ = some (.slice ra (d i).K rc) ∧ w.cell? ⟨b, o + i * 2 + 1, none⟩ = some (.slice ma (d i).M mc) ∧
    (d i).K ≤ rc ∧ rc ≤ 9223372036854775807 ∧ (d i).M ≤ mc ∧ mc ≤ 9223372036854775807 ∧ TA w ra (d i).K (d i).r ∧ MA w ma (d i).M (d i).x (d i).y
theorem da_below {w W : World} {a : Option Addr} {n : Nat} {d : Nat → De} (h : DA w a n d) (hB : Below w.heap.size w W) : DA W a n d := fun i hi => by
  obtain ⟨b, o, ra, rc, ma, mc, e, h1, h2, h3, h4, h5, h6, h7, h8⟩ := h i hi
  exact ⟨b, o, ra, rc, ma, mc, e, kc hB h1, kc hB h2, h3, h4, h5, h6, Ax.ta_below h7 hB, ma_below h8 hB⟩
theorem da_less {w : World} {a : Option Addr} {n m : Nat} {d : Nat → De} (h : DA w a n d) (hm : m ≤ n) : DA w a m d := fun i hi => h i (by omega)
/-- Whether a delta fits. -/
def dFit (d : De) (m p : Int) : Bool := fit d.r d.K m && decide ((d.M : Int) = p)
def dFits (d : Nat → De) (m p : Int) : Nat → Bool
  | 0 => true
  | k + 1 => dFits d m p k && dFit (d k) m p
theorem dFits_no {d : Nat → De} {m p : Int} {i : Nat} (h : dFit (d i) m p = false) : ∀ k, i < k → dFits d m p k = false
  | 0, h0 => by omega
  | k + 1, h0 => by
    unfold dFits
    rcases Nat.lt_or_ge i k with hlt | hge
    · rw [dFits_no h k hlt]; rfl
    · obtain rfl : i = k := by omega
      rw [h, Bool.and_false]
theorem dFits_all {d : Nat → De} {m p : Int} : ∀ {n : Nat}, dFits d m p n = true → ∀ k, k < n → dFit (d k) m p = true
  | 0, _, k, hk => by omega
  | n + 1, h, k, hk => by
    unfold dFits at h
    rw [Bool.and_eq_true] at h
    rcases Nat.lt_or_ge k n with hlt | hge
    · exact dFits_all h.1 k hlt
    · obtain rfl : k = n := by omega
      exact h.2
/-- What the check of deltas says. -/
def ckD2 (d : Nat → De) (n : Nat) (m p : Int) : Int := if dFits d m p n = true then 0 else 12
theorem ckD2_yes {d : Nat → De} {n : Nat} {m p : Int} (h : dFits d m p n = true) : ckD2 d n m p = 0 := by unfold ckD2; rw [if_pos h]
theorem ckD2_no {d : Nat → De} {n : Nat} {m p : Int} (h : dFits d m p n = false) : ckD2 d n m p = 12 := by unfold ckD2; rw [if_neg (by rw [h]; exact Bool.false_ne_true)]
def ckD (d : Nat → De) (n : Nat) (m p : Int) : Int := if 8 < n then 2 else ckD2 d n m p
def CdRel (w : World) (d : Nat → De) (n : Nat) (m p : Int) (v : Value) (V : World) : Prop := ∃ k : Nat, v = .int .i64 k ∧ k ≤ n ∧ dFits d m p k = true ∧ Below w.heap.size w V
set_option maxRecDepth 100000 in
set_option maxHeartbeats 4000000 in
theorem checkDeltas_any (a : Option Addr) (n c : Nat) (d : Nat → De) (m p : Int) (hn : n ≤ 1000000) (w : World) (hA : DA w a n d) :
    Calls Try.prog 47 #[.slice a n c, .int .i64 m, .int .i64 p] w fun e w' => e = .returned (.int .i64 (ckD d n m p)) ∧ Below w.heap.size w w' := by
  unfold ckD
  by_cases h8 : 8 < n
  · rw [if_pos h8]
    have q : decide ((n : Int) > 8) = true := decide_eq_true (by omega)
    go_enter Try.func47, Try.ntmps47
    go_wp2_with fail
    go_ret
    exact ⟨rfl, Below.refl _ _⟩
  rw [if_neg h8]
  have q : decide ((n : Int) > 8) = false := decide_eq_false (by omega)
  have HA := Lib.hid hA
  clear hA
  go_enter Try.func47, Try.ntmps47
  go_wp2_with fail
  go_loopw [14] (fun v V => CdRel w d n m p v V) (fun v _ => n - (intOf v).toNat)
  case atStart => exact ⟨0, rfl, by omega, rfl, Below.refl _ _⟩
  case round =>
    obtain ⟨k, rfl, hle, hz, hB⟩ := hrel
    rename World => V
    rcases Nat.lt_or_ge k n with hk | hk
    · obtain ⟨b, o, ra, rc, ma, mc, rfl, x0, x1, h3, h4, h5, h6, hT, hM⟩ := da_below HA.out hB k hk
      have k2 : (0 : Int) ≤ (k : Int) := by omega
      have k3 : (k : Int) < (n : Int) := by omega
      have F := Lib.hid (fun V' h => Fits_any ra (d k).K rc (d k).r m (by omega) V' (Ax.ta_below hT h))
      have hN : Hid (dFit (d k) m p = true → ∀ V', Below V.heap.size V V' → CdRel w d n m p (.int .i64 ((k : Int) + 1)) V') := Lib.hid (fun h V' h2 => ⟨k + 1, rfl, by omega, by rw [dFits, hz, h]; rfl, bt hB h2⟩)
      have hY : Hid (dFit (d k) m p = false → ckD2 d n m p = 12) := Lib.hid (fun h => ckD2_no (dFits_no h n hk))
      clear hz hT hM
      unfold dFit at hN hY
      generalize fit (d k).r (d k).K m = f at *
      generalize (d k).K = K at *
      by_cases hp : (((d k).M : Nat) : Int) = p
      · rw [decide_eq_true hp, Bool.and_true] at hN hY
        have q1 : ((((d k).M : Nat) : Int) == p) = true := beq_iff_eq.2 hp
        have q2 : ((((d k).M : Nat) : Int) != p) = false := by rw [bne, q1]; rfl
        have q3 : Hid ((((d k).M : Nat) : Int) = p) := Lib.hid hp
        clear hp
        generalize (d k).M = M at *
        rcases f with _ | _
        · have hR := Lib.hid (hY.out rfl)
          clear hN hY
          go_wp2_with fail
          refine (F.out _ (ba (Below.refl _ _) _)).mono ?_
          rintro e V1 ⟨rfl, hb⟩
          go_wp2_with fail
          go_ret
          exact ⟨by rw [hR.out]; rfl, bt hB (bt (ba (Below.refl _ _) _) hb)⟩
        · have hR := Lib.hid (hN.out rfl)
          clear hN hY
          go_wp2_with fail
          refine (F.out _ (ba (Below.refl _ _) _)).mono ?_
          rintro e V1 ⟨rfl, hb⟩
          have t1 := kc hb (show (V.alloc (.cells #[.slice ra K rc, .slice ma M mc] 54)).cell? ⟨V.heap.size, 1, none⟩ = some (.slice ma M mc) by go_cell)
          have R := Lib.hid (hR.out _ (bt (ba (Below.refl _ _) _) hb))
          go_wp2_with fail
          exact ⟨R.out, by simp [intOf]; omega⟩
      · rw [decide_eq_false hp, Bool.and_false] at hN hY
        have q1 : ((((d k).M : Nat) : Int) == p) = false := beq_eq_false_iff_ne.2 hp
        have q2 : ((((d k).M : Nat) : Int) != p) = true := by rw [bne, q1]; rfl
        have hR := Lib.hid (hY.out rfl)
        clear hN hY
        generalize (d k).M = M at *
        rcases f with _ | _
        · go_wp2_with fail
          refine (F.out _ (ba (Below.refl _ _) _)).mono ?_
          rintro e V1 ⟨rfl, hb⟩
          go_wp2_with fail
          go_ret
          exact ⟨by rw [hR.out]; rfl, bt hB (bt (ba (Below.refl _ _) _) hb)⟩
        · go_wp2_with fail
          refine (F.out _ (ba (Below.refl _ _) _)).mono ?_
          rintro e V1 ⟨rfl, hb⟩
          have t1 := kc hb (show (V.alloc (.cells #[.slice ra K rc, .slice ma M mc] 54)).cell? ⟨V.heap.size, 1, none⟩ = some (.slice ma M mc) by go_cell)
          go_wp2_with fail
          go_ret
          exact ⟨by rw [hR.out]; rfl, bt hB (bt (ba (Below.refl _ _) _) hb)⟩
    · obtain rfl : k = n := by omega
      have hL := Lib.hid (ckD2_yes hz)
      clear hz
      go_wp2
      go_ret
      exact ⟨by rw [hL.out]; rfl, hB⟩
end Go.Proofs.Ytcogoomajfahkaa.Ot
