/-
  The document's own Mul, walked.
-/
import Derived.Test.YtmlkdfieakihlaaExRk
import Derived.Deep.RegionHeld3
namespace Go.Proofs.Ytmlkdfieakihlaa.Ex
open Go.RowKit

theorem uquo (a b u : Int) (h : a / b = u) (a0 : 0 ≤ a) (a1 : a ≤ 18446744073709551615) (b0 : 0 < b) : IntKind.u64.wrap (a.tdiv b) = u := by
  rw [Int.tdiv_eq_ediv_of_nonneg a0, h]
  have h1 : 0 ≤ a / b := Int.ediv_nonneg a0 (by omega)
  have h2 := Int.ediv_le_self (a := a) b a0
  exact IntWalk.u64_in _ (by omega)

set_option maxRecDepth 100000 in
set_option maxHeartbeats 4000000 in
theorem mulr_core (n d m e n1 d1 m1 e1 N D M E g h u v s t x0 x1 y0 y1 rn rd : Int) (sn sm b3 b4 : Bool) (q3 : decide (n1 < 0) = sn) (q4 : decide (m1 < 0) = sm)
    (A1 : (Hid (∀ w, Calls Try.prog 57 #[ratV n d] w fun en w' => en = .returned (.tuple #[ratV n1 d1, .bool true]) ∧ Below w.heap.size w w')))
    (A2 : (Hid (∀ w, Calls Try.prog 57 #[ratV m e] w fun en w' => en = .returned (.tuple #[ratV m1 e1, .bool true]) ∧ Below w.heap.size w w')))
    (S1 : (Hid (∀ w, Calls Try.prog 59 #[.int .i64 n1] w fun en w' => en = .returned (.int .u64 N) ∧ Below w.heap.size w w')))
    (S2 : (Hid (∀ w, Calls Try.prog 59 #[.int .i64 e1] w fun en w' => en = .returned (.int .u64 E) ∧ Below w.heap.size w w')))
    (S3 : (Hid (∀ w, Calls Try.prog 59 #[.int .i64 m1] w fun en w' => en = .returned (.int .u64 M) ∧ Below w.heap.size w w')))
    (S4 : (Hid (∀ w, Calls Try.prog 59 #[.int .i64 d1] w fun en w' => en = .returned (.int .u64 D) ∧ Below w.heap.size w w')))
    (G : (Hid (∀ w, Calls Try.prog 58 #[.int .u64 N, .int .u64 E] w fun en w' => en = .returned (.int .u64 g) ∧ Below w.heap.size w w')))
    (H : (Hid (∀ w, Calls Try.prog 58 #[.int .u64 M, .int .u64 D] w fun en w' => en = .returned (.int .u64 h) ∧ Below w.heap.size w w')))
    (P : (Hid (∀ w, Calls Try.prog 61 #[.int .u64 u, .int .u64 v] w fun en w' => en = .returned (.agg #[.int .u64 x0, .int .u64 x1]) ∧ Below w.heap.size w w')))
    (Q : (Hid (∀ w, Calls Try.prog 61 #[.int .u64 s, .int .u64 t] w fun en w' => en = .returned (.agg #[.int .u64 y0, .int .u64 y1]) ∧ Below w.heap.size w w')))
    (W1 : (Hid (∀ w, Calls Try.prog 60 #[.bool (!(sn == sm)), .agg #[.int .u64 x0, .int .u64 x1]] w fun en w' => en = .returned (.tuple #[.int .i64 rn, .bool b3]) ∧ Below w.heap.size w w')))
    (W2 : (Hid (∀ w, Calls Try.prog 60 #[.bool false, .agg #[.int .u64 y0, .int .u64 y1]] w fun en w' => en = .returned (.tuple #[.int .i64 rd, .bool b4]) ∧ Below w.heap.size w w')))
    (_gne : (g == 0) = false) (_hne : (h == 0) = false) (hu : N / g = u) (hv : M / h = v) (hs : D / h = s) (ht : E / g = t) (N0 : 0 ≤ N) (M0 : 0 ≤ M) (D0 : 0 ≤ D) (E0 : 0 ≤ E) (N1 : N ≤ 18446744073709551615) (M1 : M ≤ 18446744073709551615) (D1 : D ≤ 18446744073709551615) (E1 : E ≤ 18446744073709551615) (g0 : 0 < g) (h0 : 0 < h) (w : World) :
    Calls Try.prog 40 #[ratV n d, ratV m e] w fun en w' => en = .returned (.tuple #[ratV (if b3 && b4 then rn else 0) (if b3 && b4 then rd else 0), .bool (b3 && b4)]) ∧ Below w.heap.size w w' := by
  replace hu := uquo _ _ _ hu N0 N1 g0
  replace hv := uquo _ _ _ hv M0 M1 h0
  replace hs := uquo _ _ _ hs D0 D1 h0
  replace ht := uquo _ _ _ ht E0 E1 g0
  unfold ratV at *
  go_enter Try.func40, Try.ntmps40
  go_wp2_with fail
  refine (A1.out _).mono ?_
  rintro en w1 ⟨rfl, hb⟩
  have fr0 := kf hb (b := w.heap.size + 1 + 1) (o := 0) (v := .int .i64 0) (t := false) (by go_cell) (by go_cell)
  have fr1 := kf hb (b := w.heap.size + 1 + 1) (o := 1) (v := .int .i64 0) (t := false) (by go_cell) (by go_cell)
  have ym := kc hb (b := w.heap.size + 1) (o := 0) (v := .int .i64 m) (by go_cell)
  have ye := kc hb (b := w.heap.size + 1) (o := 1) (v := .int .i64 e) (by go_cell)
  have r0 := kc hb (b := w.heap.size + 1 + 1) (o := 0) (v := .int .i64 0) (by go_cell)
  have r1 := kc hb (b := w.heap.size + 1 + 1) (o := 1) (v := .int .i64 0) (by go_cell)
  have hB : Below w.heap.size w w1 := bt (ba (ba (ba (Below.refl _ _) _) _) _) hb
  have hz1 : w.heap.size + 1 + 1 < w1.heap.size := by have := hb.size; simp at this; omega
  have hz0 : w.heap.size + 1 < w1.heap.size := by omega
  clear hb
  go_wp2_with fail
  refine (A2.out _).mono ?_
  rintro en w2 ⟨rfl, hb⟩
  have an := kc hb (b := w1.heap.size) (o := 0) (v := .int .i64 n1) (by go_cell)
  have ad := kc hb (b := w1.heap.size) (o := 1) (v := .int .i64 d1) (by go_cell)
  have fr0' := kf hb (b := w.heap.size + 1 + 1) (o := 0) (v := .int .i64 0) (t := false) (by go_cell) (by go_cell)
  have fr1' := kf hb (b := w.heap.size + 1 + 1) (o := 1) (v := .int .i64 0) (t := false) (by go_cell) (by go_cell)
  have r0' := kc hb (b := w.heap.size + 1 + 1) (o := 0) (v := .int .i64 0) (by go_cell)
  have r1' := kc hb (b := w.heap.size + 1 + 1) (o := 1) (v := .int .i64 0) (by go_cell)
  have hB2 : Below w.heap.size w w2 := bt (ba hB _) hb
  have hz2 : w1.heap.size < w2.heap.size := by have := hb.size; simp at this; omega
  clear hb ym ye r0 r1 fr0 fr1 hB
  have hz3 : w.heap.size + 1 + 1 < w2.heap.size := by omega
  have an2 : (w2.alloc (.cells #[.int .i64 m1, .int .i64 e1] 44)).cell? ⟨w1.heap.size, 0, none⟩ = some (.int .i64 n1) := by go_cell
  have ad2 : (w2.alloc (.cells #[.int .i64 m1, .int .i64 e1] 44)).cell? ⟨w1.heap.size, 1, none⟩ = some (.int .i64 d1) := by go_cell
  have bn2 : (w2.alloc (.cells #[.int .i64 m1, .int .i64 e1] 44)).cell? ⟨w2.heap.size, 0, none⟩ = some (.int .i64 m1) := by go_cell
  have bd2 : (w2.alloc (.cells #[.int .i64 m1, .int .i64 e1] 44)).cell? ⟨w2.heap.size, 1, none⟩ = some (.int .i64 e1) := by go_cell
  have r0 : (w2.alloc (.cells #[.int .i64 m1, .int .i64 e1] 44)).cell? ⟨w.heap.size + 1 + 1, 0, none⟩ = some (.int .i64 0) := by go_cell
  have r1 : (w2.alloc (.cells #[.int .i64 m1, .int .i64 e1] 44)).cell? ⟨w.heap.size + 1 + 1, 1, none⟩ = some (.int .i64 0) := by go_cell
  have fr0 : (w2.alloc (.cells #[.int .i64 m1, .int .i64 e1] 44)).frozen? ⟨w.heap.size + 1 + 1, 0, none⟩ = false := by go_cell
  have fr1 : (w2.alloc (.cells #[.int .i64 m1, .int .i64 e1] 44)).frozen? ⟨w.heap.size + 1 + 1, 1, none⟩ = false := by go_cell
  have hA : Below w.heap.size w (w2.alloc (.cells #[.int .i64 m1, .int .i64 e1] 44)) := ba hB2 _
  clear an ad r0' r1' fr0' fr1' hB2
  go_wp2_with fail
  generalize (w2.alloc (.cells #[.int .i64 m1, .int .i64 e1] 44)) = V at *
  generalize w2.heap.size = bb at *
  generalize w1.heap.size = ba1 at *
  have zan2 := cell_regrown an2
  have zad2 := cell_regrown ad2
  have zbn2 := cell_regrown bn2
  have zbd2 := cell_regrown bd2
  refine wp_region_quiet_below (by kernel_rfl) (by kernel_rfl) ?_
  repeat (go_big_quiet_step ((first | (with_reducible exact Calls.regrown_of (S1.out _)) | (with_reducible exact Calls.regrown_of (S2.out _)) | (with_reducible exact Calls.regrown_of (G.out _)))))
  refine wpQuiet_nil ?_
  intro _ hw'
  obtain ⟨⟨dq, osq⟩, hw''⟩ := hw'
  subst hw''
  have hN1 := below_regrown V dq osq
  clear zan2 zad2 zbn2 zbd2
  generalize Go.«Sort».grow (redrawn V dq) osq = V2 at *
  replace fr0 := kf hN1 r0 fr0
  replace fr1 := kf hN1 r1 fr1
  replace r0 := kc hN1 r0
  replace r1 := kc hN1 r1
  replace an2 := kc hN1 an2
  replace ad2 := kc hN1 ad2
  replace bn2 := kc hN1 bn2
  replace bd2 := kc hN1 bd2
  replace hA := bt hA hN1
  clear hN1
  go_wp2_with fail
  have zan2 := cell_regrown an2
  have zad2 := cell_regrown ad2
  have zbn2 := cell_regrown bn2
  have zbd2 := cell_regrown bd2
  refine wp_region_quiet_below (by kernel_rfl) (by kernel_rfl) ?_
  repeat (go_big_quiet_step ((first | (with_reducible exact Calls.regrown_of (S3.out _)) | (with_reducible exact Calls.regrown_of (S4.out _)) | (with_reducible exact Calls.regrown_of (H.out _)))))
  refine wpQuiet_nil ?_
  intro _ hw'
  obtain ⟨⟨dq, osq⟩, hw''⟩ := hw'
  subst hw''
  have hN2 := below_regrown V2 dq osq
  clear zan2 zad2 zbn2 zbd2
  generalize Go.«Sort».grow (redrawn V2 dq) osq = V3 at *
  replace fr0 := kf hN2 r0 fr0
  replace fr1 := kf hN2 r1 fr1
  replace r0 := kc hN2 r0
  replace r1 := kc hN2 r1
  replace an2 := kc hN2 an2
  replace ad2 := kc hN2 ad2
  replace bn2 := kc hN2 bn2
  replace bd2 := kc hN2 bd2
  replace hA := bt hA hN2
  clear hN2
  go_wp2_with fail
  have zan2 := cell_regrown an2
  have zad2 := cell_regrown ad2
  have zbn2 := cell_regrown bn2
  have zbd2 := cell_regrown bd2
  refine wp_region_quiet_below (by kernel_rfl) (by kernel_rfl) ?_
  repeat (go_big_quiet_step ((first | (with_reducible exact Calls.regrown_of (S1.out _)) | (with_reducible exact Calls.regrown_of (S3.out _)) | (with_reducible exact Calls.regrown_of (P.out _)) | (with_reducible exact Calls.regrown_of (W1.out _)))))
  refine wpQuiet_nil ?_
  intro _ hw'
  obtain ⟨⟨dq, osq⟩, hw''⟩ := hw'
  subst hw''
  have hN3 := below_regrown V3 dq osq
  clear zan2 zad2 zbn2 zbd2
  generalize Go.«Sort».grow (redrawn V3 dq) osq = V4 at *
  replace fr0 := kf hN3 r0 fr0
  replace fr1 := kf hN3 r1 fr1
  replace r0 := kc hN3 r0
  replace r1 := kc hN3 r1
  replace an2 := kc hN3 an2
  replace ad2 := kc hN3 ad2
  replace bn2 := kc hN3 bn2
  replace bd2 := kc hN3 bd2
  replace hA := bt hA hN3
  clear hN3
  go_wp2_with fail
  have zan2 := cell_regrown an2
  have zad2 := cell_regrown ad2
  have zbn2 := cell_regrown bn2
  have zbd2 := cell_regrown bd2
  refine wp_region_quiet_below (by kernel_rfl) (by kernel_rfl) ?_
  repeat (go_big_quiet_step ((first | (with_reducible exact Calls.regrown_of (S4.out _)) | (with_reducible exact Calls.regrown_of (S2.out _)) | (with_reducible exact Calls.regrown_of (Q.out _)) | (with_reducible exact Calls.regrown_of (W2.out _)))))
  refine wpQuiet_nil ?_
  intro _ hw'
  obtain ⟨⟨dq, osq⟩, hw''⟩ := hw'
  subst hw''
  have hN4 := below_regrown V4 dq osq
  clear zan2 zad2 zbn2 zbd2
  generalize Go.«Sort».grow (redrawn V4 dq) osq = V5 at *
  replace fr0 := kf hN4 r0 fr0
  replace fr1 := kf hN4 r1 fr1
  replace r0 := kc hN4 r0
  replace r1 := kc hN4 r1
  replace an2 := kc hN4 an2
  replace ad2 := kc hN4 ad2
  replace bn2 := kc hN4 bn2
  replace bd2 := kc hN4 bd2
  replace hA := bt hA hN4
  clear hN4
  have hl : w.heap.size ≤ w.heap.size + 1 + 1 := by omega
  clear hz1 hz0 hz2 hz3 hu hv hs ht N0 M0 D0 E0 N1 M1 D1 E1 g0 h0 _gne _hne q3 q4
  clear an2 ad2 bn2 bd2 S1 S2 S3 S4 G H P Q W1 W2 A1 A2
  cases b3 <;> cases b4
  · go_wp2
    all_goals
      refine bodyPost_ret (v := .tuple #[.agg #[.int .i64 0, .int .i64 0], .bool false]) (by simp [results, Try.results40, go_sem, r0, r1]; try rfl) rfl ⟨rfl, ?_⟩
      (first | exact bs (bs hA hl _) hl _ | exact bd1 (bs (bs hA hl _) hl _) | exact bs (bs (bs (bs hA hl _) hl _) hl _) hl _ | exact bd1 (bs (bs (bs (bs hA hl _) hl _) hl _) hl _) | exact bs (bs (bd1 hA) hl _) hl _)
  · go_wp2
    all_goals
      refine bodyPost_ret (v := .tuple #[.agg #[.int .i64 0, .int .i64 0], .bool false]) (by simp [results, Try.results40, go_sem, r0, r1]; try rfl) rfl ⟨rfl, ?_⟩
      (first | exact bs (bs hA hl _) hl _ | exact bd1 (bs (bs hA hl _) hl _) | exact bs (bs (bs (bs hA hl _) hl _) hl _) hl _ | exact bd1 (bs (bs (bs (bs hA hl _) hl _) hl _) hl _) | exact bs (bs (bd1 hA) hl _) hl _)
  · go_wp2
    all_goals
      refine bodyPost_ret (v := .tuple #[.agg #[.int .i64 0, .int .i64 0], .bool false]) (by simp [results, Try.results40, go_sem, r0, r1]; try rfl) rfl ⟨rfl, ?_⟩
      (first | exact bs (bs hA hl _) hl _ | exact bd1 (bs (bs hA hl _) hl _) | exact bs (bs (bs (bs hA hl _) hl _) hl _) hl _ | exact bd1 (bs (bs (bs (bs hA hl _) hl _) hl _) hl _) | exact bs (bs (bd1 hA) hl _) hl _)
  · go_wp2
    all_goals
      refine bodyPost_ret (v := .tuple #[.agg #[.int .i64 rn, .int .i64 rd], .bool true]) (by simp [results, Try.results40, go_sem, r0, r1]; try rfl) rfl ⟨rfl, ?_⟩
      (first | exact bs (bs hA hl _) hl _ | exact bd1 (bs (bs hA hl _) hl _) | exact bs (bs (bs (bs hA hl _) hl _) hl _) hl _ | exact bd1 (bs (bs (bs (bs hA hl _) hl _) hl _) hl _) | exact bs (bs (bd1 hA) hl _) hl _)
end Go.Proofs.Ytmlkdfieakihlaa.Ex
