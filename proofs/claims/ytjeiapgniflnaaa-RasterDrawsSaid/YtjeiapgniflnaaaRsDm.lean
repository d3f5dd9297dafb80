/-
  Layer 7 (raster): the document's own Dots: floors of a box, all points one after the other, appends of whole lists.
-/
import Derived.Test.YtjeiapgniflnaaaRsMm
import Derived.Test.YtjeiapgniflnaaaRsO
import Derived.Test.YtjeiapgniflnaaaExThree
import Derived.Test.YtjeiapgniflnaaaOtF
namespace Go.Proofs.Ytjeiapgniflnaaa.Rs
open Go.RowKit
open Go.Proofs.Ytjeiapgniflnaaa.Ot
open Go.Proofs.Ytjeiapgniflnaaa.Ex (FlI FlB floorQ sgn_pos fits outI floor_ref)
theorem fits_in {q : Int} (h : -9223372036854775808 ≤ q ∧ q ≤ 9223372036854775807) : fits q = true := decide_eq_true h
def fz (u : Int) (f : Nat → Pt) (j : Nat) : Pt := ⟨(f j).x / u, (f j).y / u, false⟩
theorem pre_lt {ns : Nat → Nat} {N k i : Nat} (hk : k < N) (hi : i < ns k) : pre ns k + i < pre ns N := by
  have := pre_mono ns (show k + 1 ≤ N by omega)
  rw [pre] at this
  omega
theorem bx_fl {ns : Nat → Nat} {g : Nat → Nat → Pt} {N : Nat} {u : Int} (hu : 4 ≤ u) (hr : allO ns g N = true) (h0 : 0 < pre ns N) : bxRow (fz u (fl N ns g)) rcM (pre ns N) = ⟨(bxAll ns g N).a / u, (bxAll ns g N).b / u, (bxAll ns g N).c / u, (bxAll ns g N).d / u⟩ := by
  obtain ⟨⟨k1, i1, a1, b1, e1⟩, ⟨k2, i2, a2, b2, e2⟩, ⟨k3, i3, a3, b3, e3⟩, ⟨k4, i4, a4, b4, e4⟩⟩ := bx_att hr h0
  have hin := bxAll_in hr
  have q1 := fl_in (x := (bxAll ns g N).a) hu (by omega)
  have q2 := fl_in (x := (bxAll ns g N).b) hu (by omega)
  have q3 := fl_in (x := (bxAll ns g N).c) hu (by omega)
  have q4 := fl_in (x := (bxAll ns g N).d) hu (by omega)
  have hh : ∀ {k i : Nat}, k < N → i < ns k → fz u (fl N ns g) (pre ns k + i) = ⟨(g k i).x / u, (g k i).y / u, false⟩ := fun hk hi => by unfold fz; rw [fl_at hk hi]
  have s1 := (bxRow_has (fz u (fl N ns g)) rcM (pre_lt a1 b1)).1.1
  have s2 := (bxRow_has (fz u (fl N ns g)) rcM (pre_lt a2 b2)).2.1
  have s3 := (bxRow_has (fz u (fl N ns g)) rcM (pre_lt a3 b3)).1.2
  have s4 := (bxRow_has (fz u (fl N ns g)) rcM (pre_lt a4 b4)).2.2
  rw [hh a1 b1] at s1
  rw [hh a2 b2] at s2
  rw [hh a3 b3] at s3
  rw [hh a4 b4] at s4
  simp only [e1] at s1
  simp only [e2] at s2
  simp only [e3] at s3
  simp only [e4] at s4
  obtain ⟨r1, r2, r3, r4⟩ := bxRow_att (fz u (fl N ns g)) rcM (pre ns N)
  have fj : ∀ j, j < pre ns N → ∃ k i, k < N ∧ i < ns k ∧ fl N ns g j = g k i := fun j hj => by
    obtain ⟨h1, h2, _⟩ := loc_in ns hj
    exact ⟨_, _, h1, h2, rfl⟩
  generalize bxRow (fz u (fl N ns g)) rcM (pre ns N) = S at *
  obtain ⟨Sa, Sb, Sc, Sd⟩ := S
  simp only [rcM, fz] at r1 r2 r3 r4 s1 s2 s3 s4
  have g1 : Sa = (bxAll ns g N).a / u := by
    rcases r1 with h | ⟨j, hj, h⟩
    · omega
    · obtain ⟨k, i, hk, hi, e⟩ := fj j hj
      rw [e] at h
      have := Int.ediv_le_ediv (show 0 < u by omega) (bxAll_has ns g hk hi).1.1
      omega
  have g2 : Sb = (bxAll ns g N).b / u := by
    rcases r2 with h | ⟨j, hj, h⟩
    · omega
    · obtain ⟨k, i, hk, hi, e⟩ := fj j hj
      rw [e] at h
      have := Int.ediv_le_ediv (show 0 < u by omega) (bxAll_has ns g hk hi).2.1
      omega
  have g3 : Sc = (bxAll ns g N).c / u := by
    rcases r3 with h | ⟨j, hj, h⟩
    · omega
    · obtain ⟨k, i, hk, hi, e⟩ := fj j hj
      rw [e] at h
      have := Int.ediv_le_ediv (show 0 < u by omega) (bxAll_has ns g hk hi).1.2
      omega
  have g4 : Sd = (bxAll ns g N).d / u := by
    rcases r4 with h | ⟨j, hj, h⟩
    · omega
    · obtain ⟨k, i, hk, hi, e⟩ := fj j hj
      rw [e] at h
      have := Int.ediv_le_ediv (show 0 < u by omega) (bxAll_has ns g hk hi).2.2
      omega
  rw [g1, g2, g3, g4]
theorem lst_congr {f f' : Nat → Pt} {n : Nat} (h : ∀ i, i < n → f i = f' i) : lst f n = lst f' n := List.map_congr_left (fun i hi => h i (List.mem_range.1 hi))
theorem lst_fl {N k : Nat} {ns : Nat → Nat} {g : Nat → Nat → Pt} (hk : k < N) : lst (jn (fl N ns g) (g k) (pre ns k)) (pre ns k + ns k) = lst (fl N ns g) (pre ns (k + 1)) := by
  rw [show pre ns (k + 1) = pre ns k + ns k from rfl]
  refine lst_congr (fun i hi => ?_)
  unfold jn
  split
  · rfl
  · rw [show i = pre ns k + (i - pre ns k) by omega, fl_at hk (by omega), Nat.add_sub_cancel_left]
/-- Points out of nil change nothing. -/
theorem run_app_none {W : World} {S n : Nat} {T : TypeId} {v : Value} {xs : List Value} (h : W.ownsRow S 63 3 v n xs) (c : Nat) : (Builtin.append_ #[49, 49] T #[v, .slice none 0 c]).run Try.prog W = .ok v W := by
  obtain ⟨i0, ki1, ki2, ki3, ki4⟩ := info_parts infoP
  rcases h.2 with ⟨rfl, _⟩ | ⟨b, cap, cur, rfl, hb, hh, hkc, hcm, _⟩
  · simp [Builtin.append_, run_underlying Try.underlying49, sizeOf, typeInfo, ki1, Builtin.lenOf, Builtin.firstCells, loadCells, loadCellsFrom]
  · simp [Builtin.append_, run_underlying Try.underlying49, sizeOf, typeInfo, ki1, Builtin.lenOf, Builtin.firstCells, loadCells, loadCellsFrom, storeCells, hkc]
/-- append of a list of points to points of the call's own. -/
theorem wpList_app {ops : Array Oper} {rest : List Oper} {o : Oper} {a : Act} {W : World} {Q : Exit → Act → World → Prop} (S n m c : Nat) (ad : Option Addr) (v : Value) (f g : Nat → Pt) (hgd : o.guard = none) (s x : Operand)
    (ho : o.op = .call { callee := .builtin .append, args := #[s, x], argTypes := #[49, 49] })
    (hs : a.eval s = v) (hx : a.eval x = .slice ad m c)
    (hv : W.ownsRow S 63 3 v n (vals (lst f n))) (hD : PA W ad m g) (hn : n ≤ 1000000) (hm : m ≤ 1000000) (hS : S ≤ W.heap.size)
    (hk : ∀ v' W', W'.ownsRow S 63 3 v' (n + m) (vals (lst (jn f g n) (n + m))) → W.grownBy W' v.ownBlock → wpList Try.prog ops Q rest (a.put o.dst v') W') : wpList Try.prog ops Q (o :: rest) a W := by
  rcases ad with _ | ad
  · have h0 : m = 0 := by
      rcases Nat.eq_zero_or_pos m with h | h
      · exact h
      · obtain ⟨b, o, e, _⟩ := hD 0 h
        cases e
    subst h0
    refine wpList_plain hgd fun _ hK => ?_
    have hr := run_app_none (T := o.type) hv c
    unfold Oper.wp execOp
    simp only [ho, resolve, invoke, builtin, Sem.run_bind, Sem.run_pure, Result.andThen_ok, List.map_toArray, List.map_cons, List.map_nil, hs, hx, hr]
    refine hK _ _ (hk v W ?_ ⟨rfl, rfl, rfl, Nat.le_refl _, fun _ _ _ => rfl⟩)
    rw [← lst_jn, show lst g 0 = [] from rfl, List.append_nil]
    exact hv
  · refine wpList_plain hgd fun _ hK => ?_
    obtain ⟨i0, ki1, ki2, ki3, ki4⟩ := info_parts infoP
    obtain ⟨v', W', hr, h2, h3, _, _⟩ := run_append_own_at (P := Try.prog) W S 49 o.type 63 i0 _ 3 24 Try.underlying49 ki1 ki2 ki3 ki4 rfl (by decide) _ n _ hv ad m c (vals (lst g m)) (by rw [vals_len, lst_len]) (pa_news hD) (vals_one _) (by unfold maxLen; omega) (by omega) hS
    unfold Oper.wp execOp
    simp only [ho, resolve, invoke, builtin, Sem.run_bind, Sem.run_pure, Result.andThen_ok, List.map_toArray, List.map_cons, List.map_nil, hs, hx, hr]
    refine hK _ _ (hk v' W' ?_ h3)
    rw [← lst_jn, vals_app]
    exact h2
/-- The document's Floor of what is in range. -/
theorem rFloor {x u : Int} (hu : 4 ≤ u ∧ u ≤ 1073741824) (hx : -1073741824 ≤ x ∧ x ≤ 1073741824) (W : World) : Calls Try.prog 39 #[.int .i64 x, .int .i64 u] W fun e w' => e = .returned (.tuple #[.int .i64 (x / u), .bool true]) ∧ Below W.heap.size W w' := by
  have h := fl_in (x := x) hu.1 hx
  have e : FlI x u = x / u ∧ FlB x u = true := by
    unfold FlI FlB floorQ
    rw [if_neg (by omega), if_neg (by omega), sgn_pos (by omega), show x * 1 = x by omega, show u * 1 = u by omega, fits_in (by omega)]
    unfold outI
    rw [if_pos (fits_in (by omega))]
    exact ⟨rfl, rfl⟩
  rw [← e.1, ← e.2]
  exact floor_ref x u (by omega) (by omega) W
end Go.Proofs.Ytjeiapgniflnaaa.Rs
