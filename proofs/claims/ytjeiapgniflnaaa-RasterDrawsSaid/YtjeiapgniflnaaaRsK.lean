/-
  Layer 7 (raster): a blank picture of the program.
-/
import Derived.Test.YtjeiapgniflnaaaRsJ
import Derived.Test.YtjeiapgniflnaaaBmOne
namespace Go.Proofs.Ytjeiapgniflnaaa.Rs
open Go.RowKit
open Go.Proofs.Ytjeiapgniflnaaa.Ot
open Go.Proofs.Ytjeiapgniflnaaa.Bm (bv OB New_yes New_no sd)
theorem rcUp_in (r : Rc) (p : Pt) : (rcUp r p).a ≤ r.a ∧ (rcUp r p).b ≤ r.b ∧ r.c ≤ (rcUp r p).c ∧ r.d ≤ (rcUp r p).d ∧ ((rcUp r p).a ≤ p.x ∧ p.x ≤ (rcUp r p).c) ∧ ((rcUp r p).b ≤ p.y ∧ p.y ≤ (rcUp r p).d) := by
  unfold rcUp; simp only; omega
def leR (r q : Rc) : Prop := q.a ≤ r.a ∧ q.b ≤ r.b ∧ r.c ≤ q.c ∧ r.d ≤ q.d
theorem bxRow_le (g : Nat → Pt) (R : Rc) : ∀ i, leR R (bxRow g R i)
  | 0 => ⟨Int.le_refl _, Int.le_refl _, Int.le_refl _, Int.le_refl _⟩
  | i + 1 => by
    obtain ⟨h1, h2, h3, h4⟩ := bxRow_le g R i
    obtain ⟨k1, k2, k3, k4, _⟩ := rcUp_in (bxRow g R i) (g i)
    exact ⟨by rw [bxRow]; omega, by rw [bxRow]; omega, by rw [bxRow]; omega, by rw [bxRow]; omega⟩
theorem bxRow_has (g : Nat → Pt) (R : Rc) : ∀ {n i : Nat}, i < n → ((bxRow g R n).a ≤ (g i).x ∧ (g i).x ≤ (bxRow g R n).c) ∧ ((bxRow g R n).b ≤ (g i).y ∧ (g i).y ≤ (bxRow g R n).d)
  | 0, _, h => by omega
  | n + 1, i, h => by
    obtain ⟨k1, k2, k3, k4, k5, k6⟩ := rcUp_in (bxRow g R n) (g n)
    rcases Nat.lt_or_ge i n with h2 | h2
    · have := bxRow_has g R h2
      rw [bxRow]; omega
    · obtain rfl : i = n := by omega
      exact ⟨k5, k6⟩
theorem bxAll_le (ns : Nat → Nat) (g : Nat → Nat → Pt) {k : Nat} : ∀ {N : Nat}, k ≤ N → leR (bxAll ns g k) (bxAll ns g N)
  | 0, h => by obtain rfl : k = 0 := by omega
               exact ⟨Int.le_refl _, Int.le_refl _, Int.le_refl _, Int.le_refl _⟩
  | N + 1, h => by
    rcases Nat.lt_or_ge N k with hk | hk
    · obtain rfl : k = N + 1 := by omega
      exact ⟨Int.le_refl _, Int.le_refl _, Int.le_refl _, Int.le_refl _⟩
    · obtain ⟨h1, h2, h3, h4⟩ := bxAll_le ns g hk
      obtain ⟨k1, k2, k3, k4⟩ := bxRow_le (g N) (bxAll ns g N) (ns N)
      exact ⟨by rw [bxAll]; omega, by rw [bxAll]; omega, by rw [bxAll]; omega, by rw [bxAll]; omega⟩
theorem bxAll_has (ns : Nat → Nat) (g : Nat → Nat → Pt) {N k i : Nat} (hk : k < N) (hi : i < ns k) : ((bxAll ns g N).a ≤ (g k i).x ∧ (g k i).x ≤ (bxAll ns g N).c) ∧ ((bxAll ns g N).b ≤ (g k i).y ∧ (g k i).y ≤ (bxAll ns g N).d) := by
  have h1 := bxRow_has (g k) (bxAll ns g k) hi
  obtain ⟨k1, k2, k3, k4⟩ := bxAll_le ns g (show k + 1 ≤ N by omega)
  rw [bxAll] at k1 k2 k3 k4
  omega
theorem bxAll_none {ns : Nat → Nat} (g : Nat → Nat → Pt) : ∀ {N : Nat}, pre ns N = 0 → bxAll ns g N = rcM
  | 0, _ => rfl
  | N + 1, h => by
    rw [pre] at h
    rw [bxAll, bxAll_none g (show pre ns N = 0 by omega), show ns N = 0 by omega]
    rfl
theorem pre_some {ns : Nat → Nat} : ∀ {N : Nat}, 0 < pre ns N → ∃ k, k < N ∧ 0 < ns k
  | 0, h => by unfold pre at h; omega
  | N + 1, h => by
    rw [pre] at h
    by_cases h2 : 0 < ns N
    · exact ⟨N, by omega, h2⟩
    · obtain ⟨k, h3, h4⟩ := pre_some (N := N) (ns := ns) (by omega)
      exact ⟨k, by omega, h4⟩
theorem bxRow_in (g : Nat → Pt) (R : Rc) (n : Nat) (h : allR g n = true) (hR : -1073741824 ≤ R.a ∧ R.a ≤ 1073741824 ∧ -1073741824 ≤ R.b ∧ R.b ≤ 1073741824 ∧ -1073741824 ≤ R.c ∧ R.c ≤ 1073741824 ∧ -1073741824 ≤ R.d ∧ R.d ≤ 1073741824) : -1073741824 ≤ (bxRow g R n).a ∧ (bxRow g R n).a ≤ 1073741824 ∧ -1073741824 ≤ (bxRow g R n).b ∧ (bxRow g R n).b ≤ 1073741824 ∧ -1073741824 ≤ (bxRow g R n).c ∧ (bxRow g R n).c ≤ 1073741824 ∧ -1073741824 ≤ (bxRow g R n).d ∧ (bxRow g R n).d ≤ 1073741824 := by
  induction n with
  | zero => exact hR
  | succ n ih =>
    have h2 : allR g n = true := by unfold allR at h; rw [Bool.and_eq_true] at h; exact h.1
    have h3 := (okR_iff _).1 (allR_at h (Nat.lt_succ_self n))
    have := ih h2
    rw [bxRow]
    unfold rcUp
    simp only
    omega
theorem bxAll_in {ns : Nat → Nat} {g : Nat → Nat → Pt} : ∀ {N : Nat}, allO ns g N = true → -1073741824 ≤ (bxAll ns g N).a ∧ (bxAll ns g N).a ≤ 1073741824 ∧ -1073741824 ≤ (bxAll ns g N).b ∧ (bxAll ns g N).b ≤ 1073741824 ∧ -1073741824 ≤ (bxAll ns g N).c ∧ (bxAll ns g N).c ≤ 1073741824 ∧ -1073741824 ≤ (bxAll ns g N).d ∧ (bxAll ns g N).d ≤ 1073741824
  | 0, _ => by unfold bxAll rcM; simp only; omega
  | N + 1, h => by
    have h2 : allO ns g N = true := by unfold allO at h; rw [Bool.and_eq_true] at h; exact h.1
    rw [bxAll]
    exact bxRow_in _ _ _ (allO_at h (Nat.lt_succ_self N)) (bxAll_in h2)
def pz : Value := .agg #[.int .i64 0, .int .i64 0, .int .i64 0, .int .i64 0, .slice none 0 0]
theorem new4 (V : World) (r : Rc) (T : TypeId) : (V.alloc (.cells #[.int .i64 r.a, .int .i64 r.b, .int .i64 r.c, .int .i64 r.d] T)).cell? ⟨V.heap.size, 0, none⟩ = some (.int .i64 r.a) ∧ (V.alloc (.cells #[.int .i64 r.a, .int .i64 r.b, .int .i64 r.c, .int .i64 r.d] T)).cell? ⟨V.heap.size, 1, none⟩ = some (.int .i64 r.b) ∧ (V.alloc (.cells #[.int .i64 r.a, .int .i64 r.b, .int .i64 r.c, .int .i64 r.d] T)).cell? ⟨V.heap.size, 2, none⟩ = some (.int .i64 r.c) ∧ (V.alloc (.cells #[.int .i64 r.a, .int .i64 r.b, .int .i64 r.c, .int .i64 r.d] T)).cell? ⟨V.heap.size, 3, none⟩ = some (.int .i64 r.d) := ⟨by go_cell, by go_cell, by go_cell, by go_cell⟩
/-- The cells of a picture that is to be returned. -/
def PzAt (V : World) (b : Nat) : Prop := (V.cell? ⟨b, 0, none⟩ = some (.int .i64 0) ∧ V.cell? ⟨b, 1, none⟩ = some (.int .i64 0) ∧ V.cell? ⟨b, 2, none⟩ = some (.int .i64 0) ∧ V.cell? ⟨b, 3, none⟩ = some (.int .i64 0) ∧ V.cell? ⟨b, 4, none⟩ = some (.slice none 0 0)) ∧ (V.frozen? ⟨b, 0, none⟩ = false ∧ V.frozen? ⟨b, 1, none⟩ = false ∧ V.frozen? ⟨b, 2, none⟩ = false ∧ V.frozen? ⟨b, 3, none⟩ = false ∧ V.frozen? ⟨b, 4, none⟩ = false)
theorem pzat_below {V V' : World} {b : Nat} (h : PzAt V b) (hB : Below V.heap.size V V') : PzAt V' b := by
  obtain ⟨⟨h0, h1, h2, h3, h4⟩, f0, f1, f2, f3, f4⟩ := h
  exact ⟨⟨kc hB h0, kc hB h1, kc hB h2, kc hB h3, kc hB h4⟩, kf hB h0 f0, kf hB h1 f1, kf hB h2 f2, kf hB h3 f3, kf hB h4 f4⟩
theorem pzat_new (V : World) (T : TypeId) : PzAt (V.alloc (.cells #[.int .i64 0, .int .i64 0, .int .i64 0, .int .i64 0, .slice none 0 0] T)) V.heap.size :=
  ⟨⟨by go_cell, by go_cell, by go_cell, by go_cell, by go_cell⟩, by go_cell, by go_cell, by go_cell, by go_cell, by go_cell⟩
theorem ne_size {w V : World} {o : Obj} (h : Below (w.alloc o).heap.size (w.alloc o) V) : ¬ V.heap.size = w.heap.size := by
  have := h.size
  rw [World.size_alloc] at this
  omega
theorem ne_size2 {w V : World} {o : Obj} (h : Below (w.alloc o).heap.size (w.alloc o) V) : ¬ w.heap.size = V.heap.size := fun e => ne_size h e.symm
set_option maxRecDepth 100000 in
set_option maxHeartbeats 4000000 in
theorem blank_none (a : Option Addr) (N c : Nat) (ns : Nat → Nat) (g : Nat → Nat → Pt) (u : Int) (h0 : pre ns N = 0) (hN : N ≤ 1000000) (w : World) (hA : OT w a N ns g) :
    Calls Try.prog 37 #[.slice a N c, .int .i64 u] w fun e w' => e = .returned (.tuple #[pz, .int .i64 0]) ∧ Below w.heap.size w w' := by
  have BX := Lib.hid (fun W hb => box_any a N c ns g hN (by omega) W (ot_below hA hb))
  rw [bxAll_none g h0] at BX
  unfold rcV rcM at BX
  unfold pz
  clear hA
  go_enter Try.func37, Try.ntmps37
  have P0 := pzat_new w 40
  have hA1 : Below w.heap.size w (w.alloc (.cells #[.int .i64 0, .int .i64 0, .int .i64 0, .int .i64 0, .slice none 0 0] 40)) := ba (Below.refl _ _) _
  have BY := Lib.hid (BX.out _ hA1)
  go_wp2_with ((with_reducible refine (BY.out).mono ?_); rintro e V1 ⟨rfl, hB1⟩; obtain ⟨⟨c0, c1, c2, c3, c4⟩, f0, f1, f2, f3, f4⟩ := pzat_below (pzat_below P0 hB1) (ba (Below.refl _ V1) (.cells #[.int .i64 1073741824, .int .i64 1073741824, .int .i64 (-1073741824), .int .i64 (-1073741824)] 74)); have hne := ne_size hB1; have hne2 := ne_size2 hB1)
  refine bodyPost_ret (v := .tuple #[.agg #[.int .i64 0, .int .i64 0, .int .i64 0, .int .i64 0, .slice none 0 0], .int .i64 0]) (by simp [results, Try.results37, go_sem, *]) rfl ⟨rfl, ?_⟩
  repeat (with_reducible refine bs ?_ (Nat.le_refl _) _)
  first
  | exact ba (bt hA1 hB1) _
  | (refine ba ?_ _; repeat (with_reducible refine bs ?_ (Nat.le_refl _) _)
     exact bt hA1 hB1)
/-- What a new bitmap leaves. -/
def NwR (m n : Nat) (yes : Bool) (V : World) (a : Option Addr) : Prop := if yes = true then ∃ b, a = some ⟨b, 0, none⟩ ∧ OB V b n (fun _ => false) ∧ m ≤ b else a = none
theorem nwr_below {m n : Nat} {yes : Bool} {V V' : World} {a : Option Addr} (h : NwR m n yes V a) (hB : Below V.heap.size V V') : NwR m n yes V' a := by
  unfold NwR at *
  split at h
  · obtain ⟨b, e, h1, h2⟩ := h
    rename_i hy
    rw [if_pos hy]
    exact ⟨b, e, Bm.ob_below h1 hB, h2⟩
  · rename_i hy
    rw [if_neg hy]
    exact h
theorem nwr_set {m n : Nat} {yes : Bool} {V : World} {a : Option Addr} {r : Nat} (hr : r < m) (h : NwR m n yes V a) (o : Nat) (v : Value) : NwR m n yes (V.setCell ⟨r, o, none⟩ v) a := by
  unfold NwR at *
  split at h
  · obtain ⟨b, e, h1, h2⟩ := h
    rename_i hy
    rw [if_pos hy]
    exact ⟨b, e, Bm.ob_other h1 (by omega), h2⟩
  · rename_i hy
    rw [if_neg hy]
    exact h
theorem nwr_less {m m' n : Nat} {yes : Bool} {V : World} {a : Option Addr} (hm : m' ≤ m) (h : NwR m n yes V a) : NwR m' n yes V a := by
  unfold NwR at *
  split at h
  · obtain ⟨b, e, h1, h2⟩ := h
    rename_i hy
    rw [if_pos hy]
    exact ⟨b, e, h1, by omega⟩
  · rename_i hy
    rw [if_neg hy]
    exact h
theorem nw3 {V wn : World} {T : TypeId} (h : Below (V.alloc (.cells #[.int .i64 0, .int .i64 0, .slice none 0 0] T)).drew.heap.size (V.alloc (.cells #[.int .i64 0, .int .i64 0, .slice none 0 0] T)).drew wn) : wn.cell? ⟨V.heap.size, 0, none⟩ = some (.int .i64 0) ∧ wn.cell? ⟨V.heap.size, 1, none⟩ = some (.int .i64 0) ∧ wn.cell? ⟨V.heap.size, 2, none⟩ = some (.slice none 0 0) ∧ wn.frozen? ⟨V.heap.size, 0, none⟩ = false ∧ wn.frozen? ⟨V.heap.size, 1, none⟩ = false ∧ wn.frozen? ⟨V.heap.size, 2, none⟩ = false := by
  have c0 : (V.alloc (.cells #[.int .i64 0, .int .i64 0, .slice none 0 0] T)).drew.cell? ⟨V.heap.size, 0, none⟩ = some (.int .i64 0) := by go_cell
  have c1 : (V.alloc (.cells #[.int .i64 0, .int .i64 0, .slice none 0 0] T)).drew.cell? ⟨V.heap.size, 1, none⟩ = some (.int .i64 0) := by go_cell
  have c2 : (V.alloc (.cells #[.int .i64 0, .int .i64 0, .slice none 0 0] T)).drew.cell? ⟨V.heap.size, 2, none⟩ = some (.slice none 0 0) := by go_cell
  exact ⟨kc h c0, kc h c1, kc h c2, kf h c0 (by go_cell), kf h c1 (by go_cell), kf h c2 (by go_cell)⟩
theorem fl_in {x u : Int} (hu : 4 ≤ u) (hx : -1073741824 ≤ x ∧ x ≤ 1073741824) : -268435456 ≤ x / u ∧ x / u ≤ 268435456 := by
  constructor
  · rw [Int.le_ediv_iff_mul_le (by omega)]
    omega
  · apply Int.ediv_le_of_le_mul (by omega)
    omega
theorem fl_facts {x0 x1 u : Int} (hu : 4 ≤ u) (h0 : -1073741824 ≤ x0 ∧ x0 ≤ 1073741824) (h1 : -1073741824 ≤ x1 ∧ x1 ≤ 1073741824) : (wrap64 (x1 / u - x0 / u) = x1 / u - x0 / u ∧ IntKind.i64.wrap (x1 / u - x0 / u) = x1 / u - x0 / u) ∧ (wrap64 (x1 / u - x0 / u + 1) = x1 / u - x0 / u + 1 ∧ IntKind.i64.wrap (x1 / u - x0 / u + 1) = x1 / u - x0 / u + 1) := by
  have := fl_in hu h0
  have := fl_in hu h1
  exact ⟨both rfl (by omega), both rfl (by omega)⟩
set_option maxRecDepth 100000 in
set_option maxHeartbeats 16000000 in
theorem blank_core (a : Option Addr) (N c : Nat) (ns : Nat → Nat) (g : Nat → Nat → Pt) (u : Int) (hu : isU u = true) (R : Rc) (hR : bxAll ns g N = R) (h0 : R.a ≤ R.c) (hin : -1073741824 ≤ R.a ∧ R.a ≤ 1073741824 ∧ -1073741824 ≤ R.b ∧ R.b ≤ 1073741824 ∧ -1073741824 ≤ R.c ∧ R.c ≤ 1073741824 ∧ -1073741824 ≤ R.d ∧ R.d ≤ 1073741824) (hN : N ≤ 1000000) (hs : pre ns N ≤ 1000000) (w : World) (hA : OT w a N ns g)
    (n : Nat) (yes : Bool) (W H er : Int) (hNew : ∀ V, w.heap.size < V.heap.size → Calls Try.prog 48 #[.int .i64 (R.c / u - R.a / u + 1), .int .i64 (R.d / u - R.b / u + 1)] V fun e V' => ∃ sa, e = .returned (.tuple #[bv W H sa n n, .int .i64 er]) ∧ NwR V.heap.size n yes V' sa ∧ Below V.heap.size V V') :
    Calls Try.prog 37 #[.slice a N c, .int .i64 u] w fun e w' => ∃ sa, e = .returned (.tuple #[.agg #[.int .i64 (R.a / u), .int .i64 (R.b / u), .int .i64 W, .int .i64 H, .slice sa n n], .int .i64 er]) ∧ NwR (w.heap.size + 1) n yes w' sa ∧ Below w.heap.size w w' := by
  have BX := Lib.hid (fun W hb => box_any a N c ns g hN hs W (ot_below hA hb))
  rw [hR] at BX
  obtain ⟨u1, u2, u3⟩ := (isU_iff u).1 hu
  obtain ⟨i1, i2, i3, i4, i5, i6, i7, i8⟩ := hin
  have F1 := Lib.hid (fun w => floor_any R.a u (by omega) (by omega) w)
  have F2 := Lib.hid (fun w => floor_any R.b u (by omega) (by omega) w)
  have F3 := Lib.hid (fun w => floor_any R.c u (by omega) (by omega) w)
  have F4 := Lib.hid (fun w => floor_any R.d u (by omega) (by omega) w)
  obtain ⟨⟨x1, x2⟩, x3, x4⟩ := fl_facts (x0 := R.a) (x1 := R.c) u1 ⟨i1, i2⟩ ⟨i5, i6⟩
  obtain ⟨⟨y1, y2⟩, y3, y4⟩ := fl_facts (x0 := R.b) (x1 := R.d) u1 ⟨i3, i4⟩ ⟨i7, i8⟩
  have hlt : decide (R.c < R.a) = false := decide_eq_false (by omega)
  have NW := Lib.hid hNew
  clear hA hR hNew u1 u2 u3 i1 i2 i3 i4 i5 i6 i7 i8 hu h0
  unfold rcV at BX
  unfold bv at NW
  go_enter Try.func37, Try.ntmps37
  have P0 := pzat_new w 40
  have hA1 : Below w.heap.size w (w.alloc (.cells #[.int .i64 0, .int .i64 0, .int .i64 0, .int .i64 0, .slice none 0 0] 40)) := ba (Below.refl _ _) _
  have BY := Lib.hid (BX.out _ hA1)
  go_wp2_with ((with_reducible refine (BY.out).mono ?_); rintro e V1 ⟨rfl, hB1⟩; have hne := ne_size hB1)
  have N4 := new4 V1 R 74
  have hA2 : Below V1.heap.size V1 (V1.alloc (.cells #[.int .i64 R.a, .int .i64 R.b, .int .i64 R.c, .int .i64 R.d] 74)) := ba (Below.refl _ _) _
  replace P0 := pzat_below (pzat_below P0 hB1) hA2
  have hB := bt (bt hA1 hB1) hA2
  have hsz : w.heap.size < (V1.alloc (.cells #[.int .i64 R.a, .int .i64 R.b, .int .i64 R.c, .int .i64 R.d] 74)).heap.size := by
    have := hB1.size
    rw [World.size_alloc] at this ⊢
    omega
  generalize hb6 : V1.heap.size = b6 at *
  generalize (V1.alloc (.cells #[.int .i64 R.a, .int .i64 R.b, .int .i64 R.c, .int .i64 R.d] 74)) = V at *
  obtain ⟨n0, n1, n2, n3⟩ := N4
  clear hb6 hA1 hA2 hB1 BX BY
  have P1 : ∀ w', Below V.heap.size V w' → w'.cell? ⟨b6, 0, none⟩ = some (.int .i64 R.a) := fun _ h => kc h n0
  have P2 : ∀ w', Below V.heap.size V w' → w'.cell? ⟨b6, 1, none⟩ = some (.int .i64 R.b) := fun _ h => kc h n1
  have HV := Lib.hid hB
  have HZ := Lib.hid hsz
  have HP := Lib.hid P0
  clear hB hsz P0 hne
  go_region_held3 (fun w' => Below V.heap.size V w') (first
    | (with_reducible exact bd1 (Below.refl _ _))
    | (with_reducible assumption))
    (first
    | ((with_reducible refine (F1.out _).mono ?_); rintro en wa ⟨rfl, rfl⟩)
    | ((with_reducible refine (F2.out _).mono ?_); rintro en wb ⟨rfl, rfl⟩))
  have hVd : Below V.heap.size V V.drew := bd1 (Below.refl _ _)
  replace n2 := kc hVd n2
  replace n3 := kc hVd n3
  have hB := bt HV.out hVd
  have P0 := pzat_below HP.out hVd
  have hsz : w.heap.size < V.drew.heap.size := Nat.lt_of_lt_of_le HZ.out hVd.size
  clear P1 P2 HV HZ HP n0 n1 hVd
  generalize V.drew = V2 at *
  go_upto_region 5 with (fail)
  have P3 : ∀ w', Below V2.heap.size V2 w' → w'.cell? ⟨b6, 2, none⟩ = some (.int .i64 R.c) := fun _ h => kc h n2
  have P4 : ∀ w', Below V2.heap.size V2 w' → w'.cell? ⟨b6, 3, none⟩ = some (.int .i64 R.d) := fun _ h => kc h n3
  have NN := Lib.hid (fun V' (hb : Below V2.heap.size V2 V') => NW.out V' (Nat.lt_of_lt_of_le hsz hb.size))
  have HV := Lib.hid hB
  have HP := Lib.hid P0
  have hsz2 : w.heap.size + 1 ≤ V2.heap.size := hsz
  clear hB hsz P0 NW
  go_region_held3 (fun w' => Below V2.heap.size V2 w') (first
    | (with_reducible exact bd1 (Below.refl _ _))
    | (with_reducible assumption)
    | (with_reducible exact ba (by assumption) _)
    | (with_reducible exact ba (bt (bd1 (Below.refl _ _)) hbn) _)
    | (with_reducible exact bd1 (ba (Below.refl _ _) _))
    | (with_reducible exact bs (bs (bs (bt (bd1 (ba (Below.refl _ _) _)) hbn) (Nat.le_refl _) _) (Nat.le_refl _) _) (Nat.le_refl _) _)
    | (with_reducible exact bt (bd1 (Below.refl _ _)) hbn)
    | (with_reducible exact bt (bd1 (ba (Below.refl _ _) _)) hbn)
    | (with_reducible exact bt (ba (bd1 (Below.refl _ _)) _) hbn)
    | (with_reducible exact bt (by assumption) hbn)
    | (with_reducible exact bs (bs (bs (by assumption) (Nat.le_refl _) _) (Nat.le_refl _) _) (Nat.le_refl _) _))
    (first
    | ((with_reducible refine (F3.out _).mono ?_); rintro en wa ⟨rfl, rfl⟩)
    | ((with_reducible refine (F4.out _).mono ?_); rintro en wb ⟨rfl, rfl⟩)
    | ((with_reducible refine (NN.out V2.drew (bd1 (Below.refl _ _))).mono ?_); rintro en wn ⟨sa, rfl, hnr, hbn⟩)
    | ((with_reducible refine (NN.out _ (bd1 (ba (Below.refl _ _) _))).mono ?_); rintro en wn ⟨sa, rfl, hnr, hbn⟩; obtain ⟨z0, z1, z2, z3, z4, z5⟩ := nw3 hbn))
  · have hf : Below V2.heap.size V2 (wn.alloc (.cells #[.int .i64 W, .int .i64 H, .slice sa n n] 38)) := by with_reducible assumption
    have k0 : (wn.alloc (.cells #[.int .i64 W, .int .i64 H, .slice sa n n] 38)).cell? ⟨wn.heap.size, 0, none⟩ = some (.int .i64 W) := by go_cell
    have k1 : (wn.alloc (.cells #[.int .i64 W, .int .i64 H, .slice sa n n] 38)).cell? ⟨wn.heap.size, 1, none⟩ = some (.int .i64 H) := by go_cell
    have k2 : (wn.alloc (.cells #[.int .i64 W, .int .i64 H, .slice sa n n] 38)).cell? ⟨wn.heap.size, 2, none⟩ = some (.slice sa n n) := by go_cell
    have hn2 : NwR (w.heap.size + 1) n yes (wn.alloc (.cells #[.int .i64 W, .int .i64 H, .slice sa n n] 38)) sa := nwr_less hsz2 (nwr_below hnr (ba (Below.refl _ _) _))
    have hVf := bt HV.out hf
    obtain ⟨⟨c0, c1, c2, c3, c4⟩, f0, f1, f2, f3, f4⟩ := pzat_below HP.out hf
    clear hf
    generalize (wn.alloc (.cells #[.int .i64 W, .int .i64 H, .slice sa n n] 38)) = Wf at *
    go_wp2_with fail
    refine bodyPost_ret (v := .tuple #[.agg #[.int .i64 (R.a / u), .int .i64 (R.b / u), .int .i64 W, .int .i64 H, .slice sa n n], .int .i64 er]) (by simp [results, Try.results37, go_sem, *]) rfl ⟨sa, rfl, ?_, ?_⟩
    · exact nwr_set (Nat.lt_succ_self _) (nwr_set (Nat.lt_succ_self _) (nwr_set (Nat.lt_succ_self _) (nwr_set (Nat.lt_succ_self _) (nwr_set (Nat.lt_succ_self _) hn2 _ _) _ _) _ _) _ _) _ _
    · repeat (with_reducible refine bs ?_ (Nat.le_refl _) _)
      exact hVf
  all_goals
    have hf : Below V2.heap.size V2 (((wn.setCell ⟨V2.heap.size, 0, none⟩ (.int .i64 W)).setCell ⟨V2.heap.size, 1, none⟩ (.int .i64 H)).setCell ⟨V2.heap.size, 2, none⟩ (.slice sa n n)) := by with_reducible assumption
    have k0 : (((wn.setCell ⟨V2.heap.size, 0, none⟩ (.int .i64 W)).setCell ⟨V2.heap.size, 1, none⟩ (.int .i64 H)).setCell ⟨V2.heap.size, 2, none⟩ (.slice sa n n)).cell? ⟨V2.heap.size, 0, none⟩ = some (.int .i64 W) := by go_cell
    have k1 : (((wn.setCell ⟨V2.heap.size, 0, none⟩ (.int .i64 W)).setCell ⟨V2.heap.size, 1, none⟩ (.int .i64 H)).setCell ⟨V2.heap.size, 2, none⟩ (.slice sa n n)).cell? ⟨V2.heap.size, 1, none⟩ = some (.int .i64 H) := by go_cell
    have k2 : (((wn.setCell ⟨V2.heap.size, 0, none⟩ (.int .i64 W)).setCell ⟨V2.heap.size, 1, none⟩ (.int .i64 H)).setCell ⟨V2.heap.size, 2, none⟩ (.slice sa n n)).cell? ⟨V2.heap.size, 2, none⟩ = some (.slice sa n n) := by go_cell
    have hlt3 : V2.heap.size < (V2.alloc (.cells #[.int .i64 0, .int .i64 0, .slice none 0 0] 38)).drew.heap.size := by show V2.heap.size < (V2.alloc (.cells #[.int .i64 0, .int .i64 0, .slice none 0 0] 38)).heap.size; rw [World.size_alloc]; omega
    have hn2 : NwR (w.heap.size + 1) n yes (((wn.setCell ⟨V2.heap.size, 0, none⟩ (.int .i64 W)).setCell ⟨V2.heap.size, 1, none⟩ (.int .i64 H)).setCell ⟨V2.heap.size, 2, none⟩ (.slice sa n n)) sa := nwr_less (Nat.le_trans hsz2 (Nat.le_of_lt hlt3)) (nwr_set hlt3 (nwr_set hlt3 (nwr_set hlt3 hnr _ _) _ _) _ _)
    have hVf := bt HV.out hf
    obtain ⟨⟨c0, c1, c2, c3, c4⟩, f0, f1, f2, f3, f4⟩ := pzat_below HP.out hf
    clear hf
    generalize (((wn.setCell ⟨V2.heap.size, 0, none⟩ (.int .i64 W)).setCell ⟨V2.heap.size, 1, none⟩ (.int .i64 H)).setCell ⟨V2.heap.size, 2, none⟩ (.slice sa n n)) = Wf at *
    go_wp2_with fail
    refine bodyPost_ret (v := .tuple #[.agg #[.int .i64 (R.a / u), .int .i64 (R.b / u), .int .i64 W, .int .i64 H, .slice sa n n], .int .i64 er]) (by simp [results, Try.results37, go_sem, *]) rfl ⟨sa, rfl, ?_, ?_⟩
    · exact nwr_set (Nat.lt_succ_self _) (nwr_set (Nat.lt_succ_self _) (nwr_set (Nat.lt_succ_self _) (nwr_set (Nat.lt_succ_self _) (nwr_set (Nat.lt_succ_self _) hn2 _ _) _ _) _ _) _ _) _ _
    · repeat (with_reducible refine bs ?_ (Nat.le_refl _) _)
      exact hVf
end Go.Proofs.Ytjeiapgniflnaaa.Rs