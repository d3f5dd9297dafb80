/-
  Layer 9 (machine): fits; a run in memory; check.
-/
import Derived.Test.YtdgagjcocohnnaaMcK
namespace Go.Proofs.Ytdgagjcocohnnaa.Mc
open Go.RowKit
set_option maxHeartbeats 4000000 in
theorem fits_any (p : Opn) (left : Int) (w : World) :
    Calls Try.prog 63 #[opV p, .int .i64 left] w fun e w' => e = .returned (.bool (fitB p left)) ∧ Below w.heap.size w w' := by
  have LE := Lib.hid (fun w => lengthOf_any p w)
  unfold fitB
  obtain ⟨c, n, m⟩ := p
  generalize blkL ⟨c, n, m⟩ = l at *
  unfold opV at *
  simp only at LE ⊢
  have e := op3 w c n m
  have hB : Below w.heap.size w (w.alloc (.cells #[.int .i64 c, .int .i64 n, .int .i64 m] 45)) := ba (Below.refl _ _) _
  obtain ⟨e0, e1, e2⟩ := e
  have FIN : ∀ b : Bool, (decide (c = 14) || (decide (1 ≤ n) && decide (n ≤ 16))) = b →
      Calls Try.prog 63 #[.agg #[.int .i64 c, .int .i64 n, .int .i64 m], .int .i64 left] w fun e w' => e = .returned (.bool (b && (decide (1 ≤ l) && decide (l ≤ left)))) ∧ Below w.heap.size w w' := by
    intro b hb
    by_cases h1 : c = 14
    · subst h1
      obtain rfl : b = true := by rw [← hb]; rfl
      clear hb
      by_cases h3 : 1 ≤ l <;> by_cases h4 : l ≤ left <;> simp only [h3, h4, decide_true, decide_false, Bool.and_true, Bool.and_false]
      all_goals
        go_enter Try.func63, Try.ntmps63
        go_wp2_with (first
          | ((with_reducible refine (LE.out _).mono ?_); rintro e v1 ⟨rfl, hv1⟩; replace e0 := kc hv1 e0; replace e1 := kc hv1 e1; replace e2 := kc hv1 e2; replace hB := bt hB hv1))
        go_ret
        exact ⟨by first | rfl | (simp [*]; done) | (simp; omega), hB⟩
    · have g1 : (c == 14) = false := beq_eq_false_iff_ne.2 h1
      rw [decide_eq_false h1, Bool.false_or] at hb
      subst hb
      by_cases h5 : 1 ≤ n <;> by_cases h6 : n ≤ 16 <;> by_cases h3 : 1 ≤ l <;> by_cases h4 : l ≤ left <;> simp only [h3, h4, h5, h6, decide_true, decide_false, Bool.and_true, Bool.and_false]
      all_goals first
        | (exfalso; omega)
        | (go_enter Try.func63, Try.ntmps63
           go_wp2_with (first
             | ((with_reducible refine (LE.out _).mono ?_); rintro e v1 ⟨rfl, hv1⟩; replace e0 := kc hv1 e0; replace e1 := kc hv1 e1; replace e2 := kc hv1 e2; replace hB := bt hB hv1))
           go_ret
           exact ⟨by first | rfl | (simp [*]; done) | (simp; omega), hB⟩)
  exact FIN _ rfl
/-- A run in its block B. -/
structure RuA (B : Nat) (pa : Option Addr) (np pc : Nat) (sz : Int) (l : List Int) (st : Int) (V : World) : Prop where
  kk : ∀ k, 1 ≤ k → k < 16 → V.cell? ⟨B, k * 6, none⟩ = some (.bool (kd k).uN) ∧ V.cell? ⟨B, k * 6 + 1, none⟩ = some (.bool (kd k).uM) ∧ V.cell? ⟨B, k * 6 + 2, none⟩ = some (.bool (kd k).oP) ∧ V.cell? ⟨B, k * 6 + 3, none⟩ = some (.int .i64 (kd k).ta) ∧ V.cell? ⟨B, k * 6 + 4, none⟩ = some (.int .i64 (kd k).pu) ∧ V.cell? ⟨B, k * 6 + 5, none⟩ = some (.func (Fn.func (kd k).fn) #[] #[])
  c96 : V.cell? ⟨B, 96, none⟩ = some (.slice pa np pc)
  c97 : V.cell? ⟨B, 97, none⟩ = some (.int .i64 sz)
  c98 : V.cell? ⟨B, 98, none⟩ = some (.int .i64 st)
  f98 : V.frozen? ⟨B, 98, none⟩ = false
  stk : ∀ i, i < 8 → ∃ v, V.cell? ⟨B, 99 + i, none⟩ = some (.int .i64 v) ∧ V.frozen? ⟨B, 99 + i, none⟩ = false ∧ (∀ x, l[i]? = some x → v = x)
  c107 : V.cell? ⟨B, 107, none⟩ = some (.int .i64 l.length)
  f107 : V.frozen? ⟨B, 107, none⟩ = false
  len : l.length ≤ 8
theorem ru_below {B : Nat} {pa : Option Addr} {np pc : Nat} {sz : Int} {l : List Int} {st : Int} {V V' : World} (h : RuA B pa np pc sz l st V) (hB : Below V.heap.size V V') : RuA B pa np pc sz l st V' :=
  ⟨fun k h1 h2 => by
    obtain ⟨a, b, c, d, e, f⟩ := h.kk k h1 h2
    exact ⟨kc hB a, kc hB b, kc hB c, kc hB d, kc hB e, kc hB f⟩, kc hB h.c96, kc hB h.c97, kc hB h.c98, kf hB h.c98 h.f98, fun i hi => by
    obtain ⟨v, a, b, c⟩ := h.stk i hi
    exact ⟨v, kc hB a, kf hB a b, c⟩, kc hB h.c107, kf hB h.c107 h.f107, h.len⟩
/-- The error of an operation; 0 if there is none. -/
def chkE (np h st : Int) (p : Opn) (left enc : Int) : Int :=
  if decide (2000 ≤ st) = true then 21 else if (decide (p.c < 1) || decide (15 < p.c)) = true then 5
  else if ((decide (p.n ≠ 0) && !(kd p.c.toNat).uN) || (decide (p.m ≠ 0) && !(kd p.c.toNat).uM)) = true then 5
  else if (hasB p && !fitB p left) = true then 5 else if (hasB p && decide (3 ≤ enc)) = true then 20
  else if (decide (h < (kd p.c.toNat).ta) || decide (8 < h - (kd p.c.toNat).ta + (kd p.c.toNat).pu)) = true then 20
  else if ((kd p.c.toNat).oP && (decide (p.n < 0) || decide (np ≤ p.n))) = true then 22 else 0
theorem failIf_b (b : Bool) (e : Int) (w : World) : Calls Try.prog 61 #[.bool b, .int .i64 e] w fun r w' => r = (if b = true then pan e else .returned (.tuple #[])) ∧ w' = w := by
  cases b
  · exact failIf_no e w
  · exact failIf_yes e w
end Go.Proofs.Ytdgagjcocohnnaa.Mc
