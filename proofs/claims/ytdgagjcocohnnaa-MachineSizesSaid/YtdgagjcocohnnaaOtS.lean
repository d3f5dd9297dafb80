/-
  Layer 6 (outline): changed of the program.
-/
import Derived.Test.YtdgagjcocohnnaaOtK
namespace Go.Proofs.Ytdgagjcocohnnaa.Ot
open Go.RowKit Go.Shelf
attribute [local go_sem] Oper.semAt_some
theorem oo_set {V : World} {n₀ S N k i : Nat} {ns B : Nat → Nat} {g g' : Nat → Nat → Pt} {q : Pt} (h : OO V n₀ S N ns B g) (hk : k < N) (hi : i < ns k) (e : ∀ k', k' < N → ∀ i', i' < ns k' → g' k' i' = if k' = k ∧ i' = i then q else g k' i') :
    OO (((V.setCell ⟨B k, i * 3, none⟩ (.int .i64 q.x)).setCell ⟨B k, i * 3 + 1, none⟩ (.int .i64 q.y)).setCell ⟨B k, i * 3 + 2, none⟩ (.bool q.o)) n₀ S N ns B g' := by
  have hG : V.grownBy (((V.setCell ⟨B k, i * 3, none⟩ (.int .i64 q.x)).setCell ⟨B k, i * 3 + 1, none⟩ (.int .i64 q.y)).setCell ⟨B k, i * 3 + 2, none⟩ (.bool q.o)) (some (B k)) := gs (gs (gs (gr _ _) _) _) _
  have hS := (h.far k hk (by omega)).2
  refine ⟨h.lo, fun j hj => ?_, fun j hj => ?_, h.far, h.own⟩
  · obtain ⟨a, c, e1, h1, h2, h3⟩ := h.cell j hj
    exact ⟨a, c, gc hG e1 (Ne.symm hS), h1, h2, h3⟩
  · by_cases hjk : j = k
    · subst hjk
      refine po_congr (po_set (g := fun i' => if i' = i then q else g j i') (h.pts j hj) hi (fun _ => rfl)) (fun i' hi' => ?_)
      rw [e j hj i' hi']
      by_cases h' : i' = i
      · subst h'; simp
      · simp [h']
    · refine po_congr (po_grown (h.pts j hj) hG (fun h0 hb => hjk (h.own j k hj hk h0 (by omega) hb))) (fun i' hi' => ?_)
      rw [e j hj i' hi']
      simp [hjk]
/-- What changed has made behind some rounds. -/
def chG (ns : Nat → Nat) (f : Nat → Pt → Pt) (g : Nat → Nat → Pt) (j k i : Nat) : Pt := if pre ns k + i < j then f (pre ns k + i) (g k i) else g k i
structure CI (w : World) (cf : Nat) (lb : Array Value) (S X N : Nat) (ns B : Nat → Nat) (f : Nat → Pt → Pt) (g : Nat → Nat → Pt) (j : Nat) (V : World) : Prop where
  box : V.cell? ⟨w.heap.size, 0, none⟩ = some (.func (.func cf) #[] lb)
  oo : OO V w.heap.size S N ns B (chG ns f g j)
  it : V.cell? ⟨X, 0, none⟩ = some (.slice (some ⟨S, 0, none⟩) N N)
  be : Below w.heap.size w V
theorem ci_below {w V V' : World} {cf : Nat} {lb : Array Value} {S X N : Nat} {ns B : Nat → Nat} {f : Nat → Pt → Pt} {g : Nat → Nat → Pt} {j : Nat} (h : CI w cf lb S X N ns B f g j V) (hB : Below V.heap.size V V') : CI w cf lb S X N ns B f g j V' :=
  ⟨kc hB h.box, oo_below h.oo hB, kc hB h.it, bt h.be hB⟩
theorem ci_put {w V : World} {cf : Nat} {lb : Array Value} {S X N : Nat} {ns B : Nat → Nat} {f : Nat → Pt → Pt} {g : Nat → Nat → Pt} {j : Nat} {r : Nat} {o : Obj} (o' : Obj) (hr : w.heap.size ≤ r) (h : CI w cf lb S X N ns B f g j V) (ho : V.heap[r]? = some o) (hc : o.isCells = false) : CI w cf lb S X N ns B f g j (V.putObj r o') :=
  ⟨(put_cell o' ho hc h.box).1, oo_put o' ho hc h.oo, (put_cell o' ho hc h.it).1, below_put h.be hr o'⟩
theorem ci_next {w V V1 : World} {cf : Nat} {lb : Array Value} {S X N : Nat} {ns B : Nat → Nat} {f : Nat → Pt → Pt} {g : Nat → Nat → Pt} {j k i : Nat} (h : CI w cf lb S X N ns B f g j V) (hk : k < N) (hi : i < ns k) (hj : pre ns k + i = j) (hB : Below V.heap.size V V1) (V2 : World) {q : Pt} (hq : q = f j (g k i))
    (hV : V2 = ((V1.setCell ⟨B k, i * 3, none⟩ (.int .i64 q.x)).setCell ⟨B k, i * 3 + 1, none⟩ (.int .i64 q.y)).setCell ⟨B k, i * 3 + 2, none⟩ (.bool q.o)) :
    KeepsOthers V V2 ∧ CI w cf lb S X N ns B f g (j + 1) V2 := by
  subst hV
  have h1 := ci_below h hB
  obtain ⟨⟨c1, c2, c3⟩, _⟩ := h.oo.pts k hk i hi
  obtain ⟨⟨d1, d2, d3⟩, _⟩ := h1.oo.pts k hk 0 (by omega)
  have hlo := (h.oo.far k hk (by omega)).1
  have hG : V1.grownBy (((V1.setCell ⟨B k, i * 3, none⟩ (.int .i64 q.x)).setCell ⟨B k, i * 3 + 1, none⟩ (.int .i64 q.y)).setCell ⟨B k, i * 3 + 2, none⟩ (.bool q.o)) (some (B k)) := gs (gs (gs (gr _ _) _) _) _
  have n1 : w.heap.size ≠ B k := by
    intro e
    have := h1.box
    rw [e] at this
    simp only [Nat.zero_mul] at d1
    rw [this] at d1
    cases d1
  have n2 : X ≠ B k := by
    intro e
    have := h1.it
    rw [e] at this
    simp only [Nat.zero_mul] at d1
    rw [this] at d1
    cases d1
  refine ⟨gko (r := B k) (gs (gs (gs (gt (gr _ _) hB) _) _) _) c1, gc hG h1.box n1, oo_set h1.oo hk hi (fun k' hk' i' hi' => ?_), gc hG h1.it n2, bs (bs (bs h1.be hlo _) hlo _) hlo _⟩
  unfold chG
  by_cases e : k' = k ∧ i' = i
  · obtain ⟨rfl, rfl⟩ := e
    rw [if_pos (by omega), if_pos ⟨rfl, rfl⟩, hq, hj]
  · rw [if_neg e]
    have hne : pre ns k' + i' ≠ j := by
      intro he
      have e1 := loc_at ns hi' hk'
      have e2 := loc_at ns hi hk
      rw [he] at e1
      rw [hj, e1] at e2
      cases e2
      exact e ⟨rfl, rfl⟩
    by_cases hlt : pre ns k' + i' < j
    · rw [if_pos hlt, if_pos (by omega)]
    · rw [if_neg hlt, if_neg (by omega)]
theorem dB {w v : World} (h : Below w.drew.heap.size w.drew v) : Below w.heap.size w v := ⟨h.os, h.tape, h.output, h.size, h.block⟩
def ChRel (w : World) (cf : Nat) (lb : Array Value) (S N : Nat) (ns : Nat → Nat) (g : Nat → Nat → Pt) (v : Value) (V : World) : Prop :=
  ∃ (k : Nat) (B : Nat → Nat), v = .int .i64 (k : Int) ∧ k ≤ N ∧ V.cell? ⟨w.heap.size, 0, none⟩ = some (.func (.func cf) #[] lb) ∧ OO V w.heap.size S k ns B g ∧ SL V S N ∧ Below w.heap.size w V
theorem nil_oo (V : World) (n₀ S : Nat) (ns : Nat → Nat) (g : Nat → Nat → Pt) (h : n₀ ≤ S) : OO V n₀ S 0 ns (fun _ => 0) g :=
  ⟨h, fun k hk => absurd hk (by omega), fun k hk => absurd hk (by omega), fun k hk => absurd hk (by omega), fun k l hk => absurd hk (by omega)⟩
set_option maxRecDepth 100000 in
set_option maxHeartbeats 8000000 in
theorem changed_any (a : Option Addr) (N c : Nat) (ns : Nat → Nat) (g : Nat → Nat → Pt) (hN : N ≤ 1000000) (hs : pre ns N ≤ 1000000) (w : World) (hA : OT w a N ns g) (cf : Nat) (lb : Array Value) (f : Nat → Pt → Pt)
    (eg : ∀ args W, (callFunc cf args).run Try.prog W = .ok (.enter cf args) W)
    (HF : ∀ (j : Nat) (p : Pt) (V : World), j < pre ns N → Below w.heap.size w V → Calls Try.prog cf (#[.int .i64 (j : Int), .agg #[.int .i64 p.x, .int .i64 p.y, .bool p.o]] ++ lb) V fun e V' => e = .returned (.agg #[.int .i64 (f j p).x, .int .i64 (f j p).y, .bool (f j p).o]) ∧ Below V.heap.size V V') :
    Calls Try.prog 34 #[.slice a N c, .func (.func cf) #[] lb] w fun e w' => ∃ S B, e = .returned (.slice (some ⟨S, 0, none⟩) N N) ∧ OO w' w.heap.size S N ns B (fun k i => f (pre ns k + i) (g k i)) ∧ Below w.heap.size w w' := by
  refine (callsIn_wide (n := 5)).1 ?_
  have HA := Lib.hid hA
  have HF := Lib.hid HF
  have hsk : Hid (∀ k, k < N → ns k ≤ 1000000) := Lib.hid (fun k hk => by
    have := pre_mono ns (show k + 1 ≤ N by omega)
    rw [pre] at this
    omega)
  obtain ⟨V0, hmk, hO, hB0, hlt⟩ := make_lists (w.alloc (.cells #[.func (.func cf) #[] lb] 84)) N hN
  have hbx : V0.cell? ⟨w.heap.size, 0, none⟩ = some (.func (.func cf) #[] lb) := kc hB0 (by go_cell)
  have R0 : ChRel w cf lb (w.heap.size + 1) N ns g (.int .i64 0) V0 := ⟨0, fun _ => 0, rfl, by omega, hbx, nil_oo _ _ _ _ _ (by omega), by simpa using hO, bt (ba (Below.refl _ _) _) hB0⟩
  simp only [World.size_alloc] at hmk
  clear hA hO hbx hB0 hlt
  refine callsIn_of_wp_marks Try.func34 rfl trivial ?_ rfl
  simp only [Try.ntmps34, List.size_toArray, List.length_cons, List.length_nil, Nat.reduceAdd, Nat.reduceSub, Array.replicate_succ, Array.replicate_zero, List.push_toArray, List.append_toArray, List.nil_append, List.cons_append]
  gi_wp2
  clear hmk
  gi_loopw [15] (fun v V => ChRel w cf lb (w.heap.size + 1) N ns g v V) (fun v _ => N - (intOf v).toNat)
  case atStart => exact R0
  case round =>
    clear R0
    obtain ⟨k, B, rfl, hk, hbx, hO, hSL, hB⟩ := hrel
    rename World => V
    rcases Nat.lt_or_ge k N with hkN | hkN
    · obtain ⟨b, off, a', c', rfl, hc, h1, h2, hp⟩ := ot_below HA.out hB k hkN
      have CL := Lib.hid (Clone_any a' (ns k) c' (g k) (hsk.out k hkN) V hp)
      have k2 : (0 : Int) ≤ (k : Int) := by omega
      have k3 : (k : Int) < (N : Int) := by omega
      have hle := hB.size
      clear hp HF
      gi_wp2_with (refine ⟨trivial, ?_⟩; gi_at_call 57; refine (callsIn_wide.2 CL.out).mono ?_; rintro e V2 ⟨v, rfl, hown, hB2⟩; obtain ⟨av, cv, bv, rfl, q1, q2, q3, q4, q5⟩ := own_lst hown; obtain ⟨o1, o2⟩ := oo_next (ns := ns) (g := g) hO hSL hkN hle hB2 rfl q1 q2 q4 q5 q3; obtain ⟨⟨sv, s1⟩, s2⟩ := sl_below hSL hB2 k hkN; have R := Lib.hid (show ChRel w cf lb (w.heap.size + 1) N ns g (.int .i64 ((k : Int) + 1)) (V2.setCell ⟨w.heap.size + 1, k, none⟩ (.slice av (ns k) cv)) from ⟨k + 1, _, rfl, by omega, gc (gs (gr _ _) _) (kc hB2 hbx) (by omega), o1, o2, bs (bt hB hB2) hO.lo _⟩); clear hown o1 o2 hO hSL hB q3 hB2 CL)
      go_roundw
      case rel => exact R.out
      case measure => simp [intOf]; omega
    · obtain rfl : k = N := by omega
      gi_wp2_with (refine ⟨trivial, ?_⟩; gi_at_call 58; refine (callsIn_wide.2 (points_any (some ⟨w.heap.size + 1, 0, none⟩) k k _)).mono ?_; rintro e V2 ⟨rfl, rfl⟩)
      have hB := hB
      have hVs : w.heap.size ≤ V.heap.size := hB.size
      have h0 : CI w cf lb (w.heap.size + 1) V.heap.size k ns B f g 0 (V.alloc (.cells #[.slice (some ⟨w.heap.size + 1, 0, none⟩) k k] 28)) :=
        ⟨kc (ba (Below.refl _ _) _) hbx, oo_congr (oo_below hO (ba (Below.refl _ _) _)) (fun k' _ i' _ => by unfold chG; rw [if_neg (by omega)]), by go_cell, ba hB _⟩
      clear hbx hO hSL hB hk hkN
      refine range_points (n := 5) (gf := 71) (lb := #[.pointer (some ⟨V.heap.size, 0, none⟩)]) (by omega) rfl (enters_of Try.func71 (by kernel_rfl) rfl) (fun _ => rfl)
        (points_gives 4 (by omega) (some ⟨w.heap.size + 1, 0, none⟩) k k ns B (fun _ => 0) V.heap.size hN hs) (fun j U => CI w cf lb (w.heap.size + 1) V.heap.size k ns B f g j U) (fun h hB => ci_below h hB)
        (fun o' hr h ho hc => ci_put o' (by simp only [World.size_alloc] at hr; omega) h ho hc) (fun h => ⟨h.it, oo_ox h.oo⟩) (fun h hk hf => by cases hf) h0
        (fun j => { tmps := #[.slice a k c, .func (.func cf) #[] lb, undef, .pointer (some ⟨w.heap.size, 0, none⟩), .slice none 0 0, .slice (some ⟨w.heap.size + 1, 0, none⟩) k k, u6, u7, .int .i64 (j : Int), .pointer (some ⟨B (loc ns k j).1, (loc ns k j).2 * 3, none⟩), .slice a k c,
          .int .i64 (k : Int), .slice (some ⟨w.heap.size + 1, 0, none⟩) k k, .slice a k c, .int .i64 (k : Int), .int .i64 (k : Int), .bool false, u17, u18, u19, u20, u21, u22, u23, u24, u25, .slice (some ⟨w.heap.size + 1, 0, none⟩) k k,
          .func (.func 71) #[] #[.pointer (some ⟨V.heap.size, 0, none⟩)], .int .i64 (j : Int), .pointer (some ⟨B (loc ns k j).1, (loc ns k j).2 * 3, none⟩), undef, undef, undef, undef, undef, undef, undef, undef, undef], defers := [] }) ?assign ?body ?done
      case assign =>
        intro l j W K hK
        simp only [pargs]
        gi_wp2
        exact hK
      case body =>
        intro l j V2 hI hj hf
        obtain ⟨l1, l2, l3⟩ := loc_in ns hj
        have HC := Lib.hid (HF.out j (g (loc ns k j).1 (loc ns k j).2) V2.drew hj (bd1 hI.be))
        obtain ⟨⟨p0, p1, p2⟩, z0, z1, z2⟩ := hI.oo.pts _ l1 _ l2
        have hch : chG ns f g j (loc ns k j).1 (loc ns k j).2 = g (loc ns k j).1 (loc ns k j).2 := by unfold chG; rw [if_neg (by omega)]
        rw [hch] at p0 p1 p2
        have hbx := hI.box
        have NX := Lib.hid (fun V1 hB V3 (q : Pt) hq hV => ci_next (V1 := V1) hI l1 l2 l3 hB V3 (q := q) hq hV)
        have hne : w.heap.size ≠ B (loc ns k j).1 := by
          intro e
          have h1 := (hI.oo.pts _ l1 0 (by omega)).1.1
          rw [← e, Nat.zero_mul, hbx] at h1
          cases h1
        have BX : ∀ w', V2.grownBy w' (some (B (loc ns k j).1)) → w'.cell? ⟨w.heap.size, 0, none⟩ = some (.func (.func cf) #[] lb) := fun _ h => gc h hbx hne
        clear hch hbx hI l3 HF
        generalize (loc ns k j).1 = kk at *
        generalize (loc ns k j).2 = ii at *
        generalize g kk ii = p at *
        gi_wp2
        refine region_held_round (S := fun w' => V2.grownBy w' (some (B kk))) (by rintro ⟨_, _, h⟩; exact h) (by kernel_rfl) mixedF (gd1 (gr _ _)) (fun hHeld => ?_)
        refine wpAnyH_take (i := 0) (v := ?_) rfl (by kernel_rfl) (by kernel_rfl) (by kernel_rfl) (fun _ _ _ h => h) (Or.inl ⟨by rfl, ?_⟩) (by assumption) ?_
        rotate_left
        · intro w hSw; (try dsimp only at hSw); go_simp; try with_reducible rfl
        try simp only [Act.put, List.setIfInBounds_toArray]
        refine wpAnyH_take (i := 1) (v := ?_) rfl (by kernel_rfl) (by kernel_rfl) (by kernel_rfl) (fun _ _ _ h => h) (Or.inl ⟨by rfl, ?_⟩) (by assumption) ?_
        rotate_left
        · intro w hSw; (try dsimp only at hSw); go_simp; try with_reducible rfl
        try simp only [Act.put]
        refine wpAnyH_take (i := 2) (v := ?_) rfl (by kernel_rfl) (by kernel_rfl) (by kernel_rfl) (fun _ _ _ h => h) (Or.inl ⟨by rfl, ?_⟩) (by assumption) ?_
        rotate_left
        · intro w hSw; (try dsimp only at hSw); go_simp; try with_reducible rfl
        try simp only [Act.put]
        refine wpAnyH_take (i := 3) (v := ?_) rfl (by kernel_rfl) (by kernel_rfl) (by kernel_rfl) (fun _ _ _ h => h) (Or.inl ⟨by rfl, ?_⟩) (by assumption) ?_
        rotate_left
        · intro w hSw; (try dsimp only at hSw); go_simp; try with_reducible rfl
        try simp only [Act.put]
        refine wpAnyH_take (i := 4) (v := ?_) rfl (by kernel_rfl) (by kernel_rfl) (by kernel_rfl) (fun _ _ _ h => h) (Or.inl ⟨by rfl, ?_⟩) (by assumption) ?_
        rotate_left
        · intro w hSw; (try dsimp only at hSw); go_simp; try with_reducible rfl
        try simp only [Act.put]
        refine wpAnyH_ready (rs := [5]) (by kernel_rfl) (by simp) ?_
        refine AllReadyH.cons rfl (fun K hK => ?_) AllReadyH.nil
        go_simp
        try dsimp only
        refine hK.out _ _ (hHeld) (fun hHeld => ?_)
        clear hK K
        try simp only [Act.put, List.setIfInBounds_toArray, List.set_cons_zero, List.set_cons_succ]
        refine wpAnyH_ready (rs := [6]) (by kernel_rfl) (by simp) ?_
        refine AllReadyH.cons rfl (fun K hK => ?_) AllReadyH.nil
        go_simp
        refine HC.out.mono ?_
        rintro e V3 ⟨rfl, hB1⟩
        try dsimp only
        refine hK.out _ _ (gt hHeld hB1) (fun hHeld => ?_)
        clear hK K
        try simp only [Act.put, List.setIfInBounds_toArray, List.set_cons_zero, List.set_cons_succ]
        refine wpAnyH_take (i := 7) (v := ?_) rfl (by kernel_rfl) (by kernel_rfl) (by kernel_rfl) (fun _ _ _ h => h) (Or.inl ⟨by rfl, ?_⟩) (by assumption) ?_
        rotate_left
        · intro w hSw; (try dsimp only at hSw); go_simp; try with_reducible rfl
        try simp only [Act.put, List.setIfInBounds_toArray]
        have hB2 := dB hB1
        have y0 := kc hB2 p0
        have y1 := kc hB2 p1
        have y2 := kc hB2 p2
        have t0 := kf hB2 p0 z0
        have t1 := kf hB2 p1 z1
        have t2 := kf hB2 p2 z2
        refine wpAnyH_ready (rs := [8]) (by kernel_rfl) (by simp) ?_
        refine AllReadyH.cons rfl (fun K hK => ?_) AllReadyH.nil
        go_simp
        try dsimp only
        refine hK.out _ _ (gs (gs (gs hHeld _) _) _) (fun hHeld => ?_)
        clear hK K
        try simp only [Act.put, List.setIfInBounds_toArray, List.set_cons_zero, List.set_cons_succ]
        refine wpAnyH_done (by kernel_rfl) ?_ _
        gi_wp2
        exact NX.out _ hB2 _ _ rfl rfl
      case done =>
        rintro D V2 hI hD hK
        have hOO := oo_congr hI.oo (g' := fun k i => f (pre ns k + i) (g k i)) (fun k' hk' i' hi' => by
          have := pre_mono ns (show k' + 1 ≤ k by omega)
          rw [pre] at this
          unfold chG
          rw [if_pos (by omega)])
        have hbe := hI.be
        clear hI
        gi_wp2
        refine ⟨by simp, .inl ⟨_, _, rfl, run_takeDeferred hK, ?_⟩⟩
        exact ⟨_, results_tmp rfl _ _ _, ⟨_, B, rfl, oo_put _ hK rfl hOO, below_put hbe (by simp only [World.size_alloc] at hD; omega) _⟩⟩
end Go.Proofs.Ytdgagjcocohnnaa.Ot
