/-
  The walks of layer 1 (exact): Sum.
-/
import Derived.Test.YtjbbgmboifpidaaExJ
import Derived.Test.YtjbbgmboifpidaaExRed
import Derived.Deep.RegionHeld3
import Derived.Deep.DeepCutAuto
namespace Go.Proofs.Ytjbbgmboifpidaa.Ex
open Go.RowKit

/-- Beside one row that may be written: nothing that was there has turned. -/
theorem gr (w : World) (r : Nat) : w.grownBy w (some r) := ⟨rfl, rfl, rfl, Nat.le_refl _, fun _ _ _ => rfl⟩
theorem gd1 {a w : World} {r : Option Nat} (h : a.grownBy w r) : a.grownBy w.drew r := ⟨h.os, h.tape, h.output, h.size, h.block⟩
theorem gt {a w v : World} {r : Option Nat} (h : a.grownBy w r) (hb : Below w.heap.size w v) : a.grownBy v r :=
  ⟨hb.os.trans h.os, hb.tape.trans h.tape, hb.output.trans h.output, Nat.le_trans h.size hb.size, fun i hi hn => (hb.block i (Nat.lt_of_lt_of_le hi h.size)).trans (h.block i hi hn)⟩
theorem gs {a w : World} {r o : Nat} (h : a.grownBy w (some r)) (u : Value) : a.grownBy (w.setCell ⟨r, o, none⟩ u) (some r) :=
  ⟨h.os, h.tape, h.output, by simpa [World.setCell] using h.size, fun i hi hne => (Below.heap_setCell w _ u i (by rintro rfl; exact hne rfl)).trans (h.block i hi hne)⟩
theorem gc {a w : World} {r b o : Nat} {v : Value} (h : a.grownBy w (some r)) (hc : a.cell? ⟨b, o, none⟩ = some v) (hn : b ≠ r) : w.cell? ⟨b, o, none⟩ = some v :=
  h.cell hc (by simpa using hn)
theorem gB {w a v : World} {r : Nat} (h : Below w.heap.size w a) (g : a.grownBy v (some r)) (hr : w.heap.size ≤ r) : Below w.heap.size w v :=
  ⟨g.os.trans h.os, g.tape.trans h.tape, g.output.trans h.output, Nat.le_trans h.size g.size, fun i hi => (g.block i (Nat.lt_of_lt_of_le hi h.size) (fun e => by injection e; omega)).trans (h.block i hi)⟩

theorem quo_wrap (a b : Int) (ha : 0 ≤ a) (hb : 1 ≤ b) (ha1 : a ≤ 9223372036854775807) : IntKind.i64.wrap (a.tdiv b) = a / b := by
  have := Int.ediv_nonneg ha (show 0 ≤ b by omega)
  have := Int.ediv_le_self b ha
  rw [Int.tdiv_eq_ediv_of_nonneg ha]; exact IntWalk.i64_in _ (by omega)

set_option maxHeartbeats 2000000 in
theorem sum_core (n d m e n1 d1 m1 e1 g y z N D h u : Int) (_hu : u = N % g)
    (B : Hid (∀ w, Calls Try.prog 43 #[ratV n d, ratV m e] w fun en w' => en = .returned (.tuple #[ratV n1 d1, ratV m1 e1, .bool true]) ∧ Below w.heap.size w w'))
    (G : Hid (∀ w, Calls Try.prog 44 #[.int .i64 d1, .int .i64 e1] w fun en w' => en = .returned (.int .i64 g) ∧ Below w.heap.size w w'))
    (P : Hid (∀ w, Calls Try.prog 32 #[.int .i64 n1, .int .i64 y] w fun en w' => en = .returned (wideV (n1 * y)) ∧ Below w.heap.size w w'))
    (Q : Hid (∀ w, Calls Try.prog 32 #[.int .i64 m1, .int .i64 z] w fun en w' => en = .returned (wideV (m1 * z)) ∧ Below w.heap.size w w'))
    (L : Hid (∀ w, Calls Try.prog 36 #[wideV (n1 * y), wideV (m1 * z)] w fun en w' => en = .returned (wideV N) ∧ Below w.heap.size w w'))
    (R : Hid (∀ w, Calls Try.prog 32 #[.int .i64 d1, .int .i64 y] w fun en w' => en = .returned (wideV D) ∧ Below w.heap.size w w'))
    (T : Hid (∀ w, Calls Try.prog 47 #[wideV N, .int .u64 g] w fun en w' => en = .returned (.int .u64 u) ∧ Below w.heap.size w w'))
    (V : Hid (∀ w, Calls Try.prog 46 #[.int .u64 u, .int .u64 g] w fun en w' => en = .returned (.int .u64 h) ∧ Below w.heap.size w w'))
    (X : Hid (∀ w, Calls Try.prog 45 #[wideV N, wideV D, .int .u64 h] w fun en w' => en = .returned (.tuple #[ratV (rtN N D h) (rtD N D h), .bool (rtB N D h)]) ∧ Below w.heap.size w w'))
    (hy : e1 / g = y) (hz : d1 / g = z) (hd : 1 ≤ d1) (he : 1 ≤ e1) (hg : 1 ≤ g) (hd' : d1 ≤ 9223372036854775807) (he' : e1 ≤ 9223372036854775807) (hg' : g ≤ 9223372036854775807) (w : World) :
    Calls Try.prog 20 #[ratV n d, ratV m e] w fun en w' => en = .returned (.tuple #[ratV (rtN N D h) (rtD N D h), .bool (rtB N D h)]) ∧ Below w.heap.size w w' := by
  unfold ratV wideV at *
  generalize hiW N = N0 at *
  generalize loW N = N1 at *
  generalize hiW D = D0 at *
  generalize loW D = D1 at *
  generalize hiW (n1 * y) = p0 at *
  generalize loW (n1 * y) = p1 at *
  generalize hiW (m1 * z) = q0 at *
  generalize loW (m1 * z) = q1 at *
  generalize rtN N D h = xn at *
  generalize rtD N D h = xd at *
  generalize rtB N D h = xb at *
  have hy0 : 0 ≤ y := by rw [← hy]; exact Int.ediv_nonneg (by omega) (by omega)
  have hz0 : 0 ≤ z := by rw [← hz]; exact Int.ediv_nonneg (by omega) (by omega)
  have hy1 : y ≤ 9223372036854775807 := by rw [← hy]; have := Int.ediv_le_self (a := e1) g (by omega); omega
  have hz1 : z ≤ 9223372036854775807 := by rw [← hz]; have := Int.ediv_le_self (a := d1) g (by omega); omega
  have gne : (g == 0) = false := beq_eq_false_iff_ne.2 (by omega)
  clear _hu
  go_enter Try.func20, Try.ntmps20
  go_wp2_with fail
  refine (B.out _).mono ?_
  rintro en w1 ⟨rfl, hb1⟩
  have a1 := kc hb1 (b := w.heap.size) (o := 0) (v := .int .i64 n) (by go_cell)
  have fa1 := kf hb1 (b := w.heap.size) (o := 0) (v := .int .i64 n) (t := false) (by go_cell) (by go_cell)
  have b1 := kc hb1 (b := w.heap.size) (o := 1) (v := .int .i64 d) (by go_cell)
  have fb1 := kf hb1 (b := w.heap.size) (o := 1) (v := .int .i64 d) (t := false) (by go_cell) (by go_cell)
  have c1 := kc hb1 (b := w.heap.size + 1) (o := 0) (v := .int .i64 m) (by go_cell)
  have fc1 := kf hb1 (b := w.heap.size + 1) (o := 0) (v := .int .i64 m) (t := false) (by go_cell) (by go_cell)
  have g1 := kc hb1 (b := w.heap.size + 1) (o := 1) (v := .int .i64 e) (by go_cell)
  have fg1 := kf hb1 (b := w.heap.size + 1) (o := 1) (v := .int .i64 e) (t := false) (by go_cell) (by go_cell)
  have r1 := kc hb1 (b := w.heap.size + 1 + 1) (o := 0) (v := .int .i64 0) (by go_cell)
  have fr1 := kf hb1 (b := w.heap.size + 1 + 1) (o := 0) (v := .int .i64 0) (t := false) (by go_cell) (by go_cell)
  have s1 := kc hb1 (b := w.heap.size + 1 + 1) (o := 1) (v := .int .i64 0) (by go_cell)
  have fs1 := kf hb1 (b := w.heap.size + 1 + 1) (o := 1) (v := .int .i64 0) (t := false) (by go_cell) (by go_cell)
  have hB : Below w.heap.size w w1 := bt (ba (ba (ba (Below.refl _ _) _) _) _) hb1
  clear hb1
  go_wp2_with fail
  refine (G.out _).mono ?_
  rintro en w2 ⟨rfl, hb2⟩
  have a2 := kc hb2 (b := w.heap.size) (o := 0) (v := .int .i64 n1) (by go_cell)
  have b2 := kc hb2 (b := w.heap.size) (o := 1) (v := .int .i64 d1) (by go_cell)
  have c2 := kc hb2 (b := w.heap.size + 1) (o := 0) (v := .int .i64 m1) (by go_cell)
  have g2 := kc hb2 (b := w.heap.size + 1) (o := 1) (v := .int .i64 e1) (by go_cell)
  have r2 := kc hb2 (b := w.heap.size + 1 + 1) (o := 0) (v := .int .i64 0) (by go_cell)
  have fr2 := kf hb2 (b := w.heap.size + 1 + 1) (o := 0) (v := .int .i64 0) (t := false) (by go_cell) (by go_cell)
  have s2 := kc hb2 (b := w.heap.size + 1 + 1) (o := 1) (v := .int .i64 0) (by go_cell)
  have fs2 := kf hb2 (b := w.heap.size + 1 + 1) (o := 1) (v := .int .i64 0) (t := false) (by go_cell) (by go_cell)
  replace hB : Below w.heap.size w w2 := bt (bs (bs (bs (bs hB (by simp) _) (by simp) _) (by simp) _) (by simp) _) hb2
  clear hb2 a1 fa1 b1 fb1 c1 fc1 g1 fg1 r1 fr1 s1 fs1
  go_upto_region 5 with (fail)
  go_cut [8] (fun s8 wx => ∃ b : Nat, s8 = .pointer (some ⟨b, 0, none⟩) ∧ wx.cell? ⟨b, 0, none⟩ = some (.int .u64 N0) ∧ wx.cell? ⟨b, 1, none⟩ = some (.int .u64 N1) ∧ w2.heap.size ≤ b ∧ Below w2.heap.size w2 wx)
  case first =>
    have a3 : ∀ w', Below w2.heap.size w2 w' → w'.cell? ⟨w.heap.size, 0, none⟩ = some (.int .i64 n1) := fun _ h => kc h a2
    have b3 : ∀ w', Below w2.heap.size w2 w' → w'.cell? ⟨w.heap.size, 1, none⟩ = some (.int .i64 d1) := fun _ h => kc h b2
    have c3 : ∀ w', Below w2.heap.size w2 w' → w'.cell? ⟨w.heap.size + 1, 0, none⟩ = some (.int .i64 m1) := fun _ h => kc h c2
    have g3 : ∀ w', Below w2.heap.size w2 w' → w'.cell? ⟨w.heap.size + 1, 1, none⟩ = some (.int .i64 e1) := fun _ h => kc h g2
    have q3 := quo_wrap e1 g (by omega) hg he'
    have q4 := quo_wrap d1 g (by omega) hg hd'
    rw [hy] at q3
    rw [hz] at q4
    have gz : ¬ g = 0 := by omega
    clear a2 b2 c2 g2
    go_region_held3 (fun w' => Below w2.heap.size w2 w') (first
      | (with_reducible exact bd1 (Below.refl _ _))
      | (with_reducible exact bd1 (ba (Below.refl _ _) _))
      | (with_reducible exact bt (by assumption) hba)
      | (with_reducible exact ba (by assumption) _)
      | (with_reducible exact bs (bs (by assumption) (Nat.le_refl _) _) (Nat.le_refl _) _)
      | (with_reducible exact bs (bs (by assumption) (Below.size (by assumption)) _) (Below.size (by assumption)) _)
)
      (first | ((with_reducible refine (P.out _).mono ?_); rintro en wa ⟨rfl, hba⟩; have hqa : Below w2.heap.size w2 wa := bt (by assumption) hba; obtain ⟨hcc, hff⟩ := bcell hba; have hz := hba.size; (try simp at hz); (try have hz2 := Nat.lt_of_lt_of_le (Nat.lt_succ_self _) hz); (try have hz3 : w2.heap.size < wa.heap.size := by omega)) | ((with_reducible refine (Q.out _).mono ?_); rintro en wa ⟨rfl, hba⟩; have hqa : Below w2.heap.size w2 wa := bt (by assumption) hba; obtain ⟨hcc, hff⟩ := bcell hba; have hz := hba.size; (try simp at hz); (try have hz2 := Nat.lt_of_lt_of_le (Nat.lt_succ_self _) hz); (try have hz3 : w2.heap.size < wa.heap.size := by omega)) | ((with_reducible refine (L.out _).mono ?_); rintro en wa ⟨rfl, hba⟩; have hqa : Below w2.heap.size w2 wa := bt (by assumption) hba; obtain ⟨hcc, hff⟩ := bcell hba; have hz := hba.size; (try simp at hz); (try have hz2 := Nat.lt_of_lt_of_le (Nat.lt_succ_self _) hz); (try have hz3 : w2.heap.size < wa.heap.size := by omega)))
    all_goals (go_wp2_with fail; go_meet; first | exact ⟨_, rfl, by go_simp, by go_simp, Below.size (by assumption), by with_reducible assumption⟩ | exact ⟨_, rfl, by go_simp, by go_simp, Nat.le_refl _, by with_reducible assumption⟩)
  case rest =>
    obtain ⟨b8, rfl, x1, x2, l8, hb3⟩ := hcut
    obtain ⟨w3, rfl⟩ : ∃ w3 : World, w3 = wc := ⟨_, rfl⟩
    have d3 := kc hb3 b2
    have e3 := kc hb3 g2
    have r3 := kc hb3 r2
    have s3 := kc hb3 s2
    have fr3 := kf hb3 r2 fr2
    have fs3 := kf hb3 s2 fs2
    have l3 : w.heap.size + 1 + 1 < w2.heap.size := block_lt_of_cell r2
    have l23 := hb3.size
    replace hB := bt hB hb3
    clear hb3 a2 b2 c2 g2 r2 s2 fr2 fs2
    go_upto_region 6 with (fail)
    go_cut [9] (fun s9 wx => ∃ b : Nat, s9 = .pointer (some ⟨b, 0, none⟩) ∧ wx.cell? ⟨b, 0, none⟩ = some (.int .u64 D0) ∧ wx.cell? ⟨b, 1, none⟩ = some (.int .u64 D1) ∧ w3.heap.size ≤ b ∧ Below w3.heap.size w3 wx)
    case first =>
      have b4 : ∀ w', Below w3.heap.size w3 w' → w'.cell? ⟨w.heap.size, 1, none⟩ = some (.int .i64 d1) := fun _ h => kc h d3
      have g4 : ∀ w', Below w3.heap.size w3 w' → w'.cell? ⟨w.heap.size + 1, 1, none⟩ = some (.int .i64 e1) := fun _ h => kc h e3
      have q3 := quo_wrap e1 g (by omega) hg he'
      rw [hy] at q3
      have gz : ¬ g = 0 := by omega
      clear hz
      go_region_held3 (fun w' => Below w3.heap.size w3 w') (first
        | (with_reducible exact bd1 (Below.refl _ _))
        | (with_reducible exact bd1 (ba (Below.refl _ _) _))
        | (with_reducible exact bt (by assumption) hba)
        | (with_reducible exact ba (by assumption) _)
        | (with_reducible exact bs (bs (by assumption) (Nat.le_refl _) _) (Nat.le_refl _) _)
        | (with_reducible exact bs (bs (by assumption) (Below.size (by assumption)) _) (Below.size (by assumption)) _))
        (first | ((with_reducible refine (R.out _).mono ?_); rintro en wa ⟨rfl, hba⟩; have hqa : Below w3.heap.size w3 wa := bt (by assumption) hba; obtain ⟨hcc, hff⟩ := bcell hba; have hz := hba.size; (try simp at hz); (try have hz2 := Nat.lt_of_lt_of_le (Nat.lt_succ_self _) hz); (try have hz3 : w3.heap.size < wa.heap.size := by omega)))
      all_goals (go_wp2_with fail; go_meet; first | exact ⟨_, rfl, by go_simp, by go_simp, Below.size (by assumption), by with_reducible assumption⟩ | exact ⟨_, rfl, by go_simp, by go_simp, Nat.le_refl _, by with_reducible assumption⟩)
    case rest =>
      obtain ⟨b9, rfl, y1, y2, l9, hb4⟩ := hcut
      obtain ⟨w4, rfl⟩ : ∃ w4 : World, w4 = wc := ⟨_, rfl⟩
      replace x1 := kc hb4 x1
      replace x2 := kc hb4 x2
      replace fr3 := kf hb4 r3 fr3
      replace fs3 := kf hb4 s3 fs3
      replace r3 := kc hb4 r3
      replace s3 := kc hb4 s3
      replace hB := bt hB hb4
      have l4 := hb4.size
      clear hb4 d3 e3
      have n8 : b8 ≠ w.heap.size + 1 + 1 := by omega
      have n9 : b9 ≠ w.heap.size + 1 + 1 := by omega
      have X1 : ∀ w', w4.grownBy w' (some (w.heap.size + 1 + 1)) → w'.cell? ⟨b8, 0, none⟩ = some (.int .u64 N0) := fun _ h => gc h x1 n8
      have X2 : ∀ w', w4.grownBy w' (some (w.heap.size + 1 + 1)) → w'.cell? ⟨b8, 1, none⟩ = some (.int .u64 N1) := fun _ h => gc h x2 n8
      have Y1 : ∀ w', w4.grownBy w' (some (w.heap.size + 1 + 1)) → w'.cell? ⟨b9, 0, none⟩ = some (.int .u64 D0) := fun _ h => gc h y1 n9
      have Y2 : ∀ w', w4.grownBy w' (some (w.heap.size + 1 + 1)) → w'.cell? ⟨b9, 1, none⟩ = some (.int .u64 D1) := fun _ h => gc h y2 n9
      have gw : IntKind.u64.wrap g = g := IntWalk.u64_in g (by omega)
      clear hy hz x1 x2 y1 y2 l9 l8 l3 l4 l23 n8 n9
      go_upto_region 7 with (fail)
      go_region_held3 (fun w' => w4.grownBy w' (some (w.heap.size + 1 + 1))) (first
        | (with_reducible exact gd1 (gr _ _))
        | (with_reducible exact gt (by assumption) hba)
        | (with_reducible exact gs (gs (by assumption) _) _))
        (first
        | ((with_reducible refine (T.out _).mono ?_); rintro en wa ⟨rfl, hba⟩; have hqa : w4.grownBy wa (some (w.heap.size + 1 + 1)) := gt (by assumption) hba; replace fr3 := kf hba r3 fr3; replace fs3 := kf hba s3 fs3; replace r3 := kc hba r3; replace s3 := kc hba s3)
        | ((with_reducible refine (V.out _).mono ?_); rintro en wa ⟨rfl, hba⟩; have hqa : w4.grownBy wa (some (w.heap.size + 1 + 1)) := gt (by assumption) hba; replace fr3 := kf hba r3 fr3; replace fs3 := kf hba s3 fs3; replace r3 := kc hba r3; replace s3 := kc hba s3)
        | ((with_reducible refine (X.out _).mono ?_); rintro en wa ⟨rfl, hba⟩; have hqa : w4.grownBy wa (some (w.heap.size + 1 + 1)) := gt (by assumption) hba; replace fr3 := kf hba r3 fr3; replace fs3 := kf hba s3 fs3; replace r3 := kc hba r3; replace s3 := kc hba s3))
      go_wp2
      refine bodyPost_ret (by simp [results, Try.results20, go_sem, r3, s3]; try rfl) rfl ⟨rfl, ?_⟩
      exact gB hB (by with_reducible assumption) (by omega)

end Go.Proofs.Ytjbbgmboifpidaa.Ex
