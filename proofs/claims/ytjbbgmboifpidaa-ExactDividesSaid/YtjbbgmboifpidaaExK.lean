/-
  The walks of layer 1 (exact): Cmp.
-/
import Derived.Test.YtjbbgmboifpidaaExI
import Derived.Lib.QuietBelow
namespace Go.Proofs.Ytjbbgmboifpidaa.Ex
open Go.RowKit Go.Sort

theorem valid_is (n d : Int) (b : Bool) (h : decide (1 ≤ d) = b) (w : World) :
    Calls Try.prog 40 #[ratV n d] w fun e w' => e = .returned (.bool b) ∧ Below w.heap.size w w' := by
  have := valid_any n d w
  rw [h] at this
  exact this

set_option maxHeartbeats 2000000 in
theorem cmp_go (n d m e : Int) (hn : -9223372036854775808 ≤ n ∧ n ≤ 9223372036854775807) (hd : -9223372036854775808 ≤ d ∧ d ≤ 9223372036854775807) (hm : -9223372036854775808 ≤ m ∧ m ≤ 9223372036854775807) (he : -9223372036854775808 ≤ e ∧ e ≤ 9223372036854775807) (w : World) :
    Calls Try.prog 18 #[ratV n d, ratV m e] w fun en w' => en = .returned (.int .i64 (CmI n d m e)) ∧ Below w.heap.size w w' := by
  rcases Int.lt_or_le d 1 with h1 | h1
  · have K : Hid (CmI n d m e = 0) := Lib.hid (if_pos (.inl h1))
    have A := Lib.hid (valid_is n d false (decide_eq_false (by omega)))
    clear h1 hd hn hm he
    unfold ratV at *
    go_enter Try.func18, Try.ntmps18
    go_wp2_with fail
    refine (A.out _).mono ?_
    rintro en w1 ⟨rfl, hb1⟩
    have hB : Below w.heap.size w w1 := bt (ba (ba (Below.refl _ _) _) _) hb1
    go_wp2
    go_ret
    exact ⟨congrArg (fun n : Int => Ending.returned (Value.int .i64 n)) K.out.symm, hB⟩
  · rcases Int.lt_or_le e 1 with h2 | h2
    · have K : Hid (CmI n d m e = 0) := Lib.hid (if_pos (.inr h2))
      have A := Lib.hid (valid_is n d true (decide_eq_true h1))
      have B := Lib.hid (valid_is m e false (decide_eq_false (by omega)))
      clear h1 h2 hd hn hm he
      unfold ratV at *
      go_enter Try.func18, Try.ntmps18
      go_wp2_with fail
      refine (A.out _).mono ?_
      rintro en w1 ⟨rfl, hb1⟩
      have a1 := kc hb1 (b := w.heap.size) (o := 0) (v := .int .i64 n) (by go_cell)
      have b1 := kc hb1 (b := w.heap.size) (o := 1) (v := .int .i64 d) (by go_cell)
      have c1 := kc hb1 (b := w.heap.size + 1) (o := 0) (v := .int .i64 m) (by go_cell)
      have g1 := kc hb1 (b := w.heap.size + 1) (o := 1) (v := .int .i64 e) (by go_cell)
      have hB : Below w.heap.size w w1 := bt (ba (ba (Below.refl _ _) _) _) hb1
      clear hb1
      go_wp2_with fail
      refine (B.out _).mono ?_
      rintro en w2 ⟨rfl, hb2⟩
      go_wp2
      go_ret
      exact ⟨congrArg (fun n : Int => Ending.returned (Value.int .i64 n)) K.out.symm, bt hB hb2⟩
    · have K : Hid (CmI n d m e = sgn (n * e - m * d)) := Lib.hid (if_neg (by omega))
      have A := Lib.hid (valid_is n d true (decide_eq_true h1))
      have B := Lib.hid (valid_is m e true (decide_eq_true h2))
      have P := Lib.hid (product_any n e hn he)
      have Q := Lib.hid (product_any m d hm hd)
      have M := Lib.hid (minus_any (n * e) (m * d))
      have hf : fits2 (n * e - m * d) := by
        have := mul_bounds1 hn ⟨show 0 ≤ e by omega, he.2⟩
        have := mul_bounds1 hm ⟨show 0 ≤ d by omega, hd.2⟩
        unfold fits2; omega
      have S := Lib.hid (wsign_any (n * e - m * d) hf)
      clear h1 h2 hd hn hm he hf
      unfold ratV at *
      generalize wideV (n * e) = p at *
      generalize wideV (m * d) = q at *
      generalize wideV (n * e - m * d) = r at *
      go_enter Try.func18, Try.ntmps18
      go_wp2_with fail
      refine (A.out _).mono ?_
      rintro en w1 ⟨rfl, hb1⟩
      have a1 := kc hb1 (b := w.heap.size) (o := 0) (v := .int .i64 n) (by go_cell)
      have b1 := kc hb1 (b := w.heap.size) (o := 1) (v := .int .i64 d) (by go_cell)
      have c1 := kc hb1 (b := w.heap.size + 1) (o := 0) (v := .int .i64 m) (by go_cell)
      have g1 := kc hb1 (b := w.heap.size + 1) (o := 1) (v := .int .i64 e) (by go_cell)
      have hB : Below w.heap.size w w1 := bt (ba (ba (Below.refl _ _) _) _) hb1
      clear hb1
      go_wp2_with fail
      refine (B.out _).mono ?_
      rintro en w2 ⟨rfl, hb2⟩
      have a2 := kc hb2 (b := w.heap.size) (o := 0) (v := .int .i64 n) (by go_cell)
      have b2 := kc hb2 (b := w.heap.size) (o := 1) (v := .int .i64 d) (by go_cell)
      have c2 := kc hb2 (b := w.heap.size + 1) (o := 0) (v := .int .i64 m) (by go_cell)
      have g2 := kc hb2 (b := w.heap.size + 1) (o := 1) (v := .int .i64 e) (by go_cell)
      replace hB := bt hB hb2
      clear hb2 a1 b1 c1 g1
      have a3 := cell_regrown a2
      have b3 := cell_regrown b2
      have c3 := cell_regrown c2
      have g3 := cell_regrown g2
      go_wp2_with fail
      refine wp_region_quiet_below (by kernel_rfl) (by kernel_rfl) ?_
      repeat (quiet_step (first | (with_reducible exact Calls.regrown_of (P.out _)) | (with_reducible exact Calls.regrown_of (Q.out _)) | (with_reducible exact Calls.regrown_of (M.out _)) | (with_reducible exact Calls.regrown_of (S.out _))))
      refine wpQuiet_nil ?_
      intro _ hw'
      obtain ⟨⟨dq, osq⟩, hw''⟩ := hw'
      subst hw''
      go_wp2
      go_ret
      exact ⟨congrArg (fun n : Int => Ending.returned (Value.int .i64 n)) K.out.symm, bt hB (below_regrown w2 dq osq)⟩

end Go.Proofs.Ytjbbgmboifpidaa.Ex
