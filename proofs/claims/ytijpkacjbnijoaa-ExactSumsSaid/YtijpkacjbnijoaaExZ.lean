/-
  For every three ratios ExactSums returns true, and what it was given reads as before. No condition.
-/
import Derived.Test.YtijpkacjbnijoaaExY
import Derived.Test.YtijpkacjbnijoaaExTn
import Derived.Test.YtijpkacjbnijoaaExW
namespace Go.Proofs.Ytijpkacjbnijoaa
open Go.ChangeShapes Go.WideShapes Go.ChangeAt Go.RowKit

namespace Ex
def Small (n d : Int) : Prop := (-9223372036854775808 ≤ n ∧ n ≤ 9223372036854775807) ∧ 1 ≤ d ∧ d ≤ 9223372036854775807

theorem sum_call {n d m e : Int} (h1 : Small n d) (h2 : Small m e) (P Q : Int) (h3 : Small P Q) (h : redN (n * e + m * d) (d * e) = redN P Q ∧ redD (n * e + m * d) (d * e) = redD P Q) :
    Hid (∀ w, Calls Try.prog 20 #[.agg #[.int .i64 n, .int .i64 d], .agg #[.int .i64 m, .int .i64 e]] w fun en w' => en = .returned (.tuple #[.agg #[.int .i64 (redN P Q), .int .i64 (redD P Q)], .bool true]) ∧ Below w.heap.size w w') := by
  have s := sum_go n d m e h1.1 ⟨by have := h1.2.1; omega, h1.2.2⟩ h2.1 ⟨by have := h2.2.1; omega, h2.2.2⟩
  obtain ⟨k1, k2, k3⟩ := sum_is h1.2.1 h2.2.1 P Q h3.2.1 h3.1 h3.2.2 h
  rw [k1, k2, k3] at s
  exact Lib.hid s
theorem mul_call {n d m e : Int} (h1 : Small n d) (h2 : Small m e) (P Q : Int) (h3 : Small P Q) (h : redN (n * m) (d * e) = redN P Q ∧ redD (n * m) (d * e) = redD P Q) :
    Hid (∀ w, Calls Try.prog 22 #[.agg #[.int .i64 n, .int .i64 d], .agg #[.int .i64 m, .int .i64 e]] w fun en w' => en = .returned (.tuple #[.agg #[.int .i64 (redN P Q), .int .i64 (redD P Q)], .bool true]) ∧ Below w.heap.size w w') := by
  have s := mul_go n d m e h1.1 ⟨by have := h1.2.1; omega, h1.2.2⟩ h2.1 ⟨by have := h2.2.1; omega, h2.2.2⟩
  obtain ⟨k1, k2, k3⟩ := mul_is h1.2.1 h2.2.1 P Q h3.2.1 h3.1 h3.2.2 h
  rw [k1, k2, k3] at s
  exact Lib.hid s
theorem small_red {P Q : Int} (h : Small P Q) : Small (redN P Q) (redD P Q) := red_bd0 P Q h.1 h.2
theorem cmp_call {n d m e : Int} (h1 : Small n d) (h2 : Small m e) : Hid (∀ w, Calls Try.prog 18 #[.agg #[.int .i64 n, .int .i64 d], .agg #[.int .i64 m, .int .i64 e]] w fun en w' => en = .returned (.int .i64 (CmI n d m e)) ∧ Below w.heap.size w w') :=
  Lib.hid (cmp_go n d m e h1.1 ⟨by have := h1.2.1; omega, h1.2.2⟩ h2.1 ⟨by have := h2.2.1; omega, h2.2.2⟩)

theorem sums_small (n0 d0 n1 d1 n2 d2 a b c d e f : Int) (k0 : d0 % 262144 = b - 1) (k1 : d1 % 262144 = d - 1) (k2 : d2 % 262144 = f - 1)
    (c0 : -9223372036854775808 ≤ d0 ∧ d0 ≤ 9223372036854775807) (c1 : -9223372036854775808 ≤ d1 ∧ d1 ≤ 9223372036854775807) (c2 : -9223372036854775808 ≤ d2 ∧ d2 ≤ 9223372036854775807)
    (r0 : n0.tmod 262144 = a) (r1 : n1.tmod 262144 = c) (r2 : n2.tmod 262144 = e)
    (ba : -262144 < a ∧ a < 262144) (bc : -262144 < c ∧ c < 262144) (be : -262144 < e ∧ e < 262144)
    (hb : 1 ≤ b ∧ b ≤ 262144) (hd : 1 ≤ d ∧ d ≤ 262144) (hf : 1 ≤ f ∧ f ≤ 262144) (w : World) :
    Calls Try.prog 7 #[.agg #[.int .i64 n0, .int .i64 d0, .int .i64 n1, .int .i64 d1, .int .i64 n2, .int .i64 d2]] w fun en w' => en = .returned (.bool true) ∧ Below w.heap.size w w' := by
  have M0 := mod_any d0 262144 c0 (by omega)
  have M1 := mod_any d1 262144 c1 (by omega)
  have M2 := mod_any d2 262144 c2 (by omega)
  rw [k0] at M0
  rw [k1] at M1
  rw [k2] at M2
  have fl : ∀ {n m : Int}, (∀ w, Calls Try.prog 16 #[.int .i64 n, .int .i64 262144] w fun e w' => e = .returned (.int .i64 m) ∧ w = w') → Hid (∀ w, Calls Try.prog 16 #[.int .i64 n, .int .i64 262144] w fun e w' => e = .returned (.int .i64 m) ∧ w' = w) :=
    fun h => Lib.hid fun w => (h w).mono fun _ _ ⟨h1, h2⟩ => ⟨h1, h2.symm⟩
  -- the bounds of all that is made
  have ad := pb (a := a) (b := d) (M := 262144) (K := 262144) (by omega) (by omega) (by omega) (by omega)
  have cb := pb (a := c) (b := b) (M := 262144) (K := 262144) (by omega) (by omega) (by omega) (by omega)
  have af := pb (a := a) (b := f) (M := 262144) (K := 262144) (by omega) (by omega) (by omega) (by omega)
  have eb := pb (a := e) (b := b) (M := 262144) (K := 262144) (by omega) (by omega) (by omega) (by omega)
  have cf := pb (a := c) (b := f) (M := 262144) (K := 262144) (by omega) (by omega) (by omega) (by omega)
  have ed := pb (a := e) (b := d) (M := 262144) (K := 262144) (by omega) (by omega) (by omega) (by omega)
  have ac := pb (a := a) (b := c) (M := 262144) (K := 262144) (by omega) (by omega) (by omega) (by omega)
  have ae := pb (a := a) (b := e) (M := 262144) (K := 262144) (by omega) (by omega) (by omega) (by omega)
  have ce := pb (a := c) (b := e) (M := 262144) (K := 262144) (by omega) (by omega) (by omega) (by omega)
  have bd := pb (a := b) (b := d) (M := 262144) (K := 262144) (by omega) (by omega) (by omega) (by omega)
  have bf := pb (a := b) (b := f) (M := 262144) (K := 262144) (by omega) (by omega) (by omega) (by omega)
  have df := pb (a := d) (b := f) (M := 262144) (K := 262144) (by omega) (by omega) (by omega) (by omega)
  have bd1 : 1 ≤ b * d := Int.mul_pos (by omega) (by omega)
  have bf1 : 1 ≤ b * f := Int.mul_pos (by omega) (by omega)
  have df1 : 1 ≤ d * f := Int.mul_pos (by omega) (by omega)
  have bdf1 : 1 ≤ b * d * f := Int.mul_pos (by omega) (by omega)
  have bdf := pb (a := b * d) (b := f) (M := 262144 * 262144) (K := 262144) (by omega) (by omega) (by omega) (by omega)
  have p1f := pb (a := a * d + c * b) (b := f) (M := 2 * (262144 * 262144)) (K := 262144) (by omega) (by omega) (by omega) (by omega)
  have ebd := pb (a := e) (b := b * d) (M := 262144) (K := 262144 * 262144) (by omega) (by omega) (by omega) (by omega)
  have ace := pb (a := a * c) (b := e) (M := 262144 * 262144) (K := 262144) (by omega) (by omega) (by omega) (by omega)
  have p4a := pb (a := c * f + e * d) (b := a) (M := 2 * (262144 * 262144)) (K := 262144) (by omega) (by omega) (by omega) (by omega)
  have hx : Small a b := ⟨by omega, by omega, by omega⟩
  have hy : Small c d := ⟨by omega, by omega, by omega⟩
  have hz : Small e f := ⟨by omega, by omega, by omega⟩
  have hn : Small (-c) d := ⟨by omega, by omega, by omega⟩
  have h1 : Small (a * d + c * b) (b * d) := ⟨by omega, by omega, by omega⟩
  have h2 : Small (a * c) (b * d) := ⟨by omega, by omega, by omega⟩
  have h3 : Small ((a * d + c * b) * f + e * (b * d)) (b * d * f) := ⟨by omega, by omega, by omega⟩
  have h4 : Small (c * f + e * d) (d * f) := ⟨by omega, by omega, by omega⟩
  have h5 : Small (a * c * e) (b * d * f) := ⟨by omega, by omega, by omega⟩
  have h6 : Small (c * e) (d * f) := ⟨by omega, by omega, by omega⟩
  have dfb : d * f * b = b * d * f := (assoc_sum a b c d e f).2
  have h7 : Small ((c * f + e * d) * a) (d * f * b) := ⟨by omega, by omega, by omega⟩
  have h8 : Small (a * e) (b * f) := ⟨by omega, by omega, by omega⟩
  have h9 : Small (a * f + e * b) (b * f) := ⟨by omega, by omega, by omega⟩
  have low := lowest_any a b hx.1 hx.2.2
  rw [show LoN a b = redN a b from if_neg (by omega), show LoD a b = redD a b from if_neg (by omega), show LoB b = true from decide_eq_true (by omega)] at low
  have A1 := assoc_sum a b c d e f
  have A2 := assoc_mul a b c d e f
  have A3 := distr a b c d e f
  have A4 := back a b c d
  have A5 := keeps a b c d e f
  have cx := cmp_call hx hy
  rw [show CmI a b c d = sgn (a * d - c * b) from if_neg (by omega)] at cx
  have cy := cmp_call (small_red h9) (small_red h4)
  rw [cmp_red _ _ _ _ (by omega) (by omega), A5, sgn_mul' _ _ (Int.mul_pos (by omega) (by omega))] at cy
  have cz := cmp_call (small_red hx) hx
  rw [cmp_low a b (by omega)] at cz
  have q6 : redN (redN (a * c) (b * d) * redD (a * e) (b * f) + redN (a * e) (b * f) * redD (a * c) (b * d)) (redD (a * c) (b * d) * redD (a * e) (b * f)) = redN ((c * f + e * d) * a) (d * f * b) ∧ redD (redN (a * c) (b * d) * redD (a * e) (b * f) + redN (a * e) (b * f) * redD (a * c) (b * d)) (redD (a * c) (b * d) * redD (a * e) (b * f)) = redD ((c * f + e * d) * a) (d * f * b) := by
    have s1 := sum_lowest (a * c) (b * d) (a * e) (b * f) bd1 bf1
    rw [A3.1, A3.2] at s1
    have s2 := red_scale b ((c * f + e * d) * a) (d * f * b) (by omega) (by omega)
    exact ⟨s1.1.trans s2.1, s1.2.trans s2.2⟩
  have q8 : redN (redN (a * d + c * b) (b * d) * d + -c * redD (a * d + c * b) (b * d)) (redD (a * d + c * b) (b * d) * d) = redN a b ∧ redD (redN (a * d + c * b) (b * d) * d + -c * redD (a * d + c * b) (b * d)) (redD (a * d + c * b) (b * d) * d) = redD a b := by
    have s1 := red_sum_left (a * d + c * b) (b * d) (-c) d bd1 (by omega)
    rw [A4.1, A4.2] at s1
    have s2 := red_scale (d * d) a b (Int.mul_pos (by omega) (by omega)) (by omega)
    exact ⟨s1.1.trans s2.1, s1.2.trans s2.2⟩
  have s5 : redN (a * redD (c * f + e * d) (d * f) + redN (c * f + e * d) (d * f) * b) (b * redD (c * f + e * d) (d * f)) = redN ((a * d + c * b) * f + e * (b * d)) (b * d * f) ∧ redD (a * redD (c * f + e * d) (d * f) + redN (c * f + e * d) (d * f) * b) (b * redD (c * f + e * d) (d * f)) = redD ((a * d + c * b) * f + e * (b * d)) (b * d * f) := by
    have s1 := red_sum_left (c * f + e * d) (d * f) a b df1 (by omega)
    rw [A1.1, A1.2] at s1
    rw [Int.add_comm (a * _), Int.mul_comm b]
    exact s1
  have m5 : redN (a * redN (c * e) (d * f)) (b * redD (c * e) (d * f)) = redN (a * c * e) (b * d * f) ∧ redD (a * redN (c * e) (d * f)) (b * redD (c * e) (d * f)) = redD (a * c * e) (b * d * f) := by
    have s1 := red_mul_left (c * e) (d * f) a b df1 (by omega)
    rw [A2.1, A2.2] at s1
    rw [Int.mul_comm a, Int.mul_comm b]
    exact s1
  have m6 : redN (a * redN (c * f + e * d) (d * f)) (b * redD (c * f + e * d) (d * f)) = redN ((c * f + e * d) * a) (d * f * b) ∧ redD (a * redN (c * f + e * d) (d * f)) (b * redD (c * f + e * d) (d * f)) = redD ((c * f + e * d) * a) (d * f * b) := by
    have s1 := red_mul_left (c * f + e * d) (d * f) a b df1 (by omega)
    rw [Int.mul_comm a, Int.mul_comm b]
    exact s1
  exact sums_walk n0 d0 n1 d1 n2 d2 a b c d e f _ _ _ _ _ _ _ _ _ _ _ _ _ _ _ _ _ _ _ _ _ (fl M0) (fl M1) (fl M2)
    (sum_call hx hy _ _ h1 ⟨rfl, rfl⟩) (sum_call hy hx _ _ h1 (by rw [Int.add_comm, Int.mul_comm d b]; exact ⟨rfl, rfl⟩)) (sum_call (small_red h1) hz _ _ h3 (red_sum_left _ _ _ _ bd1 (by omega)))
    (sum_call hy hz _ _ h4 ⟨rfl, rfl⟩) (sum_call hx (small_red h4) _ _ h3 s5) (sum_call (small_red h2) (small_red h8) _ _ h7 q6)
    (sum_call hx hz _ _ h9 ⟨rfl, rfl⟩) (sum_call (small_red h1) hn _ _ hx q8)
    (mul_call hx hy _ _ h2 ⟨rfl, rfl⟩) (mul_call hy hx _ _ h2 (by rw [Int.mul_comm c a, Int.mul_comm d b]; exact ⟨rfl, rfl⟩)) (mul_call (small_red h2) hz _ _ h5 (red_mul_left _ _ _ _ bd1 (by omega)))
    (mul_call hy hz _ _ h6 ⟨rfl, rfl⟩) (mul_call hx (small_red h6) _ _ h5 m5) (mul_call hx (small_red h4) _ _ h7 m6) (mul_call hx hz _ _ h8 ⟨rfl, rfl⟩)
    cy cx cz (Lib.hid low) r0 r1 r2 ba bc be hb hd hf w
theorem tmod_bd (n : Int) : -262144 < n.tmod 262144 ∧ n.tmod 262144 < 262144 := by
  have h : (n.tmod 262144).natAbs < 262144 := by rw [Int.natAbs_tmod]; exact Nat.mod_lt _ (by decide)
  omega
theorem sums_any (n0 d0 n1 d1 n2 d2 : Int) (c0 : -9223372036854775808 ≤ d0 ∧ d0 ≤ 9223372036854775807) (c1 : -9223372036854775808 ≤ d1 ∧ d1 ≤ 9223372036854775807) (c2 : -9223372036854775808 ≤ d2 ∧ d2 ≤ 9223372036854775807) (w : World) :
    Calls Try.prog 7 #[.agg #[.int .i64 n0, .int .i64 d0, .int .i64 n1, .int .i64 d1, .int .i64 n2, .int .i64 d2]] w fun en w' => en = .returned (.bool true) ∧ Below w.heap.size w w' :=
  sums_small n0 d0 n1 d1 n2 d2 _ (d0 % 262144 + 1) _ (d1 % 262144 + 1) _ (d2 % 262144 + 1) (by omega) (by omega) (by omega) c0 c1 c2 rfl rfl rfl (tmod_bd _) (tmod_bd _) (tmod_bd _) (by omega) (by omega) (by omega) w
end Ex

set_option maxHeartbeats 1000000 in
set_option maxRecDepth 100000 in
theorem sums_lifted (os : Os) (started : os.Started) (H : Type) (enc : TypeId × Value → H) :
    ReturnsInHanded {} Try.checked os 7 .any (Rows.exactSumsSpec.pre6 enc Try.prog Try.f7 Rows.exactSumsRow.domain false) (Rows.exactSumsSpec.post enc Try.prog Try.f7 false true false false) := by
  refine returnsInHanded_of_change (C := Try.checked) own started (by kernel_rfl) Try.func7
    (ChangeSpec.witness6 (enc := enc) (C := Try.checked) false ⟨#[], #[.agg #[.int .i64 0, .int .i64 0, .int .i64 0, .int .i64 0, .int .i64 0, .int .i64 0]], []⟩ 8 (by kernel_rfl) (by kernel_rfl) (by kernel_rfl) (by kernel_rfl)) ?_
  intro W base args ds gs before hval0 hW hcnd _
  have hval : ∀ (j : Nat) t v, Try.f7.params[j]? = some t → args[j]? = some v → Value.okWide Try.prog W .any base t v := hval0
  have hW' := hW
  obtain ⟨p, q, hA0, hV, rfl, hfz, hnd⟩ := hW
  have hA : DataW.TrodAll enc Try.prog W 0 (fun _ => true) true Try.f7.params.toList args.toList ds p := hA0
  rw [Try.params7] at hA hval
  obtain ⟨v0, d0, rfl, rfl, h0⟩ := trodAll_one hA
  obtain ⟨rfl, rfl⟩ := trodVars_none hV
  obtain ⟨a, b, c, d, e, f, rfl, rfl, rfl, wa, wb, wc, wd, we, wf⟩ := open_rats (hval 0 34 v0 rfl rfl) h0
  clear hA0 hval0
  simp only [List.append_nil] at hW'
  refine (Ex.sums_any a b c d e f (wf_bounds wb) (wf_bounds wd) (wf_bounds wf) W).mono fun e W' ⟨he, hb⟩ => ?_
  subst he
  refine ⟨_, rfl, _, _, _, [], [], [], hW', ?_, ?_, rfl, hb.frame _, fun h => by cases h⟩
  · exact trodAll_mk1 (shut_bool Try.underlying4 true)
  · exact trodAll_mk1 (shut_rats wa wb wc wd we wf)

theorem sums_holds : Rows.ExactSumsSaid :=
  OpenClaim.holds_of_wide 7 Try.f7 rfl rfl rfl rfl rfl rfl rfl ⟨rfl, rfl, rfl, rfl, rfl⟩ rfl rfl rfl rfl rfl (by kernel_rfl) Try.func7 (by kernel_rfl)
    (of_decide_eq_true (by kernel_rfl)) (by unfold Func.isWrapper; rw [if_neg (of_decide_eq_false (by kernel_rfl))]; exact ⟨rfl, rfl⟩)
    (fun os started H enc _ => sums_lifted os started H enc)

end Go.Proofs.Ytijpkacjbnijoaa
