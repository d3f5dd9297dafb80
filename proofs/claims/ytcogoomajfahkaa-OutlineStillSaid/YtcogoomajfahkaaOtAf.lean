/-
  Layer 6 (outline): mathematics of shifted and scaled outlines.
-/
import Derived.Test.YtcogoomajfahkaaOtCa
namespace Go.Proofs.Ytcogoomajfahkaa.Ot
open Go.RowKit
/-- Equal but for multiples of 2^64. -/
def Cg (a b : Int) : Prop := ∃ k : Int, a = b + 18446744073709551616 * k
theorem cg_refl (a : Int) : Cg a a := ⟨0, by omega⟩
theorem cg_symm {a b : Int} (h : Cg a b) : Cg b a := by obtain ⟨k, h⟩ := h; exact ⟨-k, by omega⟩
theorem cg_trans {a b c : Int} (h : Cg a b) (h2 : Cg b c) : Cg a c := by obtain ⟨k, h⟩ := h; obtain ⟨l, h2⟩ := h2; exact ⟨k + l, by omega⟩
theorem cg_add {a b c d : Int} (h : Cg a b) (h2 : Cg c d) : Cg (a + c) (b + d) := by obtain ⟨k, h⟩ := h; obtain ⟨l, h2⟩ := h2; exact ⟨k + l, by omega⟩
theorem cg_mul {a b : Int} (m : Int) (h : Cg a b) : Cg (m * a) (m * b) := by
  obtain ⟨k, h⟩ := h
  refine ⟨m * k, ?_⟩
  rw [h, Int.mul_add, Int.mul_left_comm m]
theorem cg_w (a : Int) : Cg (wrap64 a) a := w_ex a
theorem cg_eq {a b : Int} (h : Cg a b) : wrap64 a = wrap64 b := by
  obtain ⟨k, h⟩ := h
  exact w_mod (by omega)
theorem cg_of {a b : Int} (h : a = b) : Cg a b := by rw [h]; exact cg_refl _
theorem mul3 (m A b C p q r : Int) : m * (p * A + q * b + r * C) = p * (m * A) + q * (m * b) + r * (m * C) := by
  rw [Int.mul_add, Int.mul_add, Int.mul_left_comm m p, Int.mul_left_comm m q, Int.mul_left_comm m r]
theorem cg_lin {A b C A' b' C' m x : Int} (p q r : Int) (h : 2 * p + q + 2 * r = 32) (hA : Cg A' (m * A + 2 * x)) (hb : Cg b' (m * b + x)) (hC : Cg C' (m * C + 2 * x)) : Cg (p * A' + q * b' + r * C') (m * (p * A + q * b + r * C) + 32 * x) := by
  refine cg_trans (cg_add (cg_add (cg_mul p hA) (cg_mul q hb)) (cg_mul r hC)) (cg_of ?_)
  rw [mul3, Int.mul_add, Int.mul_add, Int.mul_add]
  have : p * (2 * x) + q * x + r * (2 * x) = 32 * x := by
    rw [← h, Int.add_mul, Int.add_mul, Int.mul_assoc 2, Int.mul_assoc 2, Int.mul_left_comm p, Int.mul_left_comm r]
  omega
theorem cv_at (_ _ _ : Int) (t : Nat) (ht : 1 ≤ t ∧ t ≤ 4) : ∃ p q r : Int, 2 * p + q + 2 * r = 32 ∧ ∀ A b C : Int, cv A b C t = wrap64 (p * A + q * b + r * C) := by
  have : t = 1 ∨ t = 2 ∨ t = 3 ∨ t = 4 := by omega
  rcases this with rfl | rfl | rfl | rfl
  · exact ⟨9, 12, 1, by omega, fun A b C => by unfold cv; congr 1; omega⟩
  · exact ⟨4, 16, 4, by omega, fun A b C => by unfold cv; congr 1; omega⟩
  · exact ⟨1, 12, 9, by omega, fun A b C => by unfold cv; congr 1; omega⟩
  · exact ⟨0, 0, 16, by omega, fun A b C => by unfold cv; congr 1; omega⟩
theorem cg_cv {A b C A' b' C' m x : Int} {t : Nat} (ht : 1 ≤ t ∧ t ≤ 4) (hA : Cg A' (m * A + 2 * x)) (hb : Cg b' (m * b + x)) (hC : Cg C' (m * C + 2 * x)) : cv A' b' C' t = wrap64 (m * cv A b C t + 32 * x) := by
  obtain ⟨p, q, r, h, e⟩ := cv_at A b C t ht
  rw [e, e]
  exact cg_eq (cg_trans (cg_lin p q r h hA hb hC) (cg_add (cg_mul m (cg_symm (cg_w _))) (cg_refl _)))
/-- Multiplied and shifted. -/
def aff (m x y : Int) (p : Pt) : Pt := ⟨wrap64 (m * p.x + x), wrap64 (m * p.y + y), p.o⟩
theorem aff_sh (x y : Int) (p : Pt) : aff 1 x y p = shP x y p := by unfold aff shP; rw [Int.one_mul, Int.one_mul]
theorem aff_sc (n : Int) (p : Pt) : aff n 0 0 p = scP n p := by unfold aff scP; rw [Int.add_zero, Int.add_zero]
theorem cg_end {m x a b a' b' : Int} (ha : a' = wrap64 (m * a + x)) (hb : b' = wrap64 (m * b + x)) : Cg (wrap64 (a' + b')) (m * wrap64 (a + b) + 2 * x) := by
  refine cg_trans (cg_w _) ?_
  rw [ha, hb]
  refine cg_trans (cg_add (cg_w _) (cg_w _)) (cg_trans (cg_of ?_) (cg_add (cg_mul m (cg_symm (cg_w _))) (cg_refl _)))
  rw [Int.mul_add]
  omega
theorem endP_aff (m x y : Int) (g : Nat → Pt) (k j : Nat) : endP (fun i => aff m x y (g i)) k j = aff m x y (endP g k j) := by
  unfold endP
  have : onB (fun i => aff m x y (g i)) j = onB g j := rfl
  rw [this]
  split <;> rfl
theorem crvP_aff (m x y : Int) (g : Nat → Pt) (n k t : Nat) (ht : 1 ≤ t ∧ t ≤ 4) : crvP (fun i => aff m x y (g i)) n k t = aff m (32 * x) (32 * y) (crvP g n k t) := by
  unfold crvP
  refine pt_ext ?_ ?_ rfl
  · show cv (endX (fun i => aff m x y (g i)) k (k - 1)) (aff m x y (g k)).x (endX (fun i => aff m x y (g i)) k ((k + 1) % n)) t = wrap64 (m * cv (endX g k (k - 1)) (g k).x (endX g k ((k + 1) % n)) t + 32 * x)
    refine cg_cv ht ?_ (cg_w _) ?_
    · unfold endX; rw [endP_aff]; exact cg_end rfl rfl
    · unfold endX; rw [endP_aff]; exact cg_end rfl rfl
  · show cv (endY (fun i => aff m x y (g i)) k (k - 1)) (aff m x y (g k)).y (endY (fun i => aff m x y (g i)) k ((k + 1) % n)) t = wrap64 (m * cv (endY g k (k - 1)) (g k).y (endY g k ((k + 1) % n)) t + 32 * y)
    refine cg_cv ht ?_ (cg_w _) ?_
    · unfold endY; rw [endP_aff]; exact cg_end rfl rfl
    · unfold endY; rw [endP_aff]; exact cg_end rfl rfl
theorem on32_aff (m x y : Int) (p : Pt) : on32 (aff m x y p) = aff m (32 * x) (32 * y) (on32 p) := by
  have h : ∀ a z : Int, wrap64 (32 * wrap64 (m * a + z)) = wrap64 (m * wrap64 (32 * a) + 32 * z) := fun a z => by
    refine cg_eq (cg_trans (cg_mul 32 (cg_w _)) (cg_trans (cg_of ?_) (cg_add (cg_mul m (cg_symm (cg_w _))) (cg_refl _))))
    rw [Int.mul_add, Int.mul_left_comm]
  exact pt_ext (h _ _) (h _ _) rfl
theorem stepL_aff (m x y : Int) (g : Nat → Pt) (n k : Nat) : stepL (fun i => aff m x y (g i)) n k = (stepL g n k).map (aff m (32 * x) (32 * y)) := by
  unfold stepL
  have : onB (fun i => aff m x y (g i)) k = onB g k := rfl
  rw [this]
  split
  · rw [on32_aff]; rfl
  · unfold crv
    have hc : crvN (fun i => aff m x y (g i)) n k = crvN g n k := rfl
    rw [hc, List.map_map]
    refine List.map_congr_left fun i hi => ?_
    have hi := List.mem_range.1 hi
    have := (crvN_le g n k).2
    exact crvP_aff m x y g n k (i + 1) ⟨by omega, by omega⟩
theorem plK_aff (m x y : Int) (g : Nat → Pt) (n : Nat) : ∀ k, plK (fun i => aff m x y (g i)) n k = (plK g n k).map (aff m (32 * x) (32 * y))
  | 0 => rfl
  | k + 1 => by rw [plK, plK, plK_aff m x y g n k, stepL_aff, List.map_append]
theorem flN_aff (m x y : Int) (ns : Nat → Nat) (g : Nat → Nat → Pt) (k : Nat) : flN ns (fun k i => aff m x y (g k i)) k = flN ns g k := by
  unfold flN
  rw [plK_aff, List.length_map]
theorem flP_aff (m x y : Int) (ns : Nat → Nat) (g : Nat → Nat → Pt) (k i : Nat) (h : i < flN ns g k) : flP ns (fun k i => aff m x y (g k i)) k i = aff m (32 * x) (32 * y) (flP ns g k i) := by
  unfold flP
  unfold flN at h
  rw [plK_aff, List.getD_eq_getElem?_getD, List.getD_eq_getElem?_getD, List.getElem?_map, List.getElem?_eq_getElem h]
  rfl
theorem shP_w (x y : Int) (p : Pt) : shP (wrap64 x) (wrap64 y) p = shP x y p := by unfold shP; rw [w_addr, w_addr]
theorem inst_sh (x y : Int) (ns : Nat → Nat) (g : Nat → Nat → Pt) (d : Nat → De) (q : Nat → Int) (n k i : Nat) : inst ns (fun k i => shP x y (g k i)) d q n k i = shP x y (inst ns g d q n k i) := by
  unfold inst inP shP
  refine pt_ext ?_ ?_ rfl
  · simp only
    rw [w_addl, w_addl]
    congr 1
    omega
  · simp only
    rw [w_addl, w_addl]
    congr 1
    omega
theorem vts_ok {r : Nat → Ax.Tns} : ∀ {n : Nat}, (∀ i, i < n → Ax.vt (r i) = true) → Ax.vts r n = true
  | 0, _ => rfl
  | n + 1, h => by
    unfold Ax.vts
    rw [vts_ok (fun i hi => h i (by omega)), h n (by omega)]
    rfl
theorem case_ck {ax P dN : Nat} {d : Nat → De} (h8 : dN ≤ 8) (h : ∀ j, j < dN → okD ax P (d j)) : ckD d dN ax P = 0 := by
  unfold ckD
  rw [if_neg (by omega)]
  refine ckD2_yes ?_
  have : ∀ n, n ≤ dN → dFits d ax P n = true := by
    intro n
    induction n with
    | zero => intro _; rfl
    | succ n ih =>
      intro hn
      unfold dFits
      rw [ih (by omega)]
      obtain ⟨h1, h2, h3, _⟩ := h n (by omega)
      unfold dFit Ax.fit
      rw [h1, h2, vts_ok (fun i hi => by obtain ⟨j, hj, e⟩ := h3 i hi; rw [e]; exact tn6_ok j hj)]
      simp
  exact this dN (Nat.le_refl _)
end Go.Proofs.Ytcogoomajfahkaa.Ot
