/-
  Layer 9 (machine): made programs.
-/
import Derived.Test.YtdgagjcocohnnaaMcDa
namespace Go.Proofs.Ytdgagjcocohnnaa.Mc
open Go.RowKit
open Go.Proofs.Ytdgagjcocohnnaa.Ax (DS LA)
/-- A part, with a condition or without. -/
def Pc1 (C : Int) (u : List Opn) : Prop := ∃ u0, UForm C u0 ∧ (u = u0 ∨ ∃ c, u = [⟨9, 0, 0⟩, ⟨1, c, 0⟩, ⟨3, 0, 0⟩, ⟨14, (u0.length : Nat), 0⟩] ++ u0)
/-- .. within a loop or not. -/
def Pc2 (C : Int) (u : List Opn) : Prop := ∃ u1, Pc1 C u1 ∧ (u = u1 ∨ ∃ r, 1 ≤ r ∧ r ≤ 3 ∧ u = [⟨15, r, (u1.length : Nat)⟩] ++ u1)
def MadeP (C : Int) (out : List Opn) : Prop := ∃ ps : List (List Opn), ps.length ≤ 3 ∧ (∀ p ∈ ps, Pc2 C p) ∧ out = ps.flatten
theorem uform_len {C : Int} {u : List Opn} (h : UForm C u) : 1 ≤ u.length ∧ u.length ≤ 6 := by
  obtain ⟨a, b, g, _, _, _, _, _, h⟩ := h
  rcases h with rfl | ⟨j, _, _, rfl⟩ | ⟨j, c, _, _, rfl⟩ | rfl
  · exact ⟨by show 1 ≤ 3; decide, by show 3 ≤ 6; decide⟩
  · exact ⟨by show 1 ≤ 4; decide, by show 4 ≤ 6; decide⟩
  · exact ⟨by show 1 ≤ 5; decide, by show 5 ≤ 6; decide⟩
  · exact ⟨by show 1 ≤ 6; decide, by show 6 ≤ 6; decide⟩
theorem pc1_len {C : Int} {u : List Opn} (h : Pc1 C u) : 1 ≤ u.length ∧ u.length ≤ 10 := by
  obtain ⟨u0, h0, h⟩ := h
  have := uform_len h0
  rcases h with rfl | ⟨c, rfl⟩
  · omega
  · rw [List.length_append]
    show 1 ≤ 4 + u0.length ∧ 4 + u0.length ≤ 10
    omega
theorem pc2_len {C : Int} {u : List Opn} (h : Pc2 C u) : 1 ≤ u.length ∧ u.length ≤ 11 := by
  obtain ⟨u0, h0, h⟩ := h
  have := pc1_len h0
  rcases h with rfl | ⟨c, _, _, rfl⟩
  · omega
  · rw [List.length_append]
    show 1 ≤ 1 + u0.length ∧ 1 + u0.length ≤ 11
    omega
theorem flat_len {C : Int} : ∀ {ps : List (List Opn)}, (∀ p ∈ ps, Pc2 C p) → ps.flatten.length ≤ 11 * ps.length
  | [], _ => Nat.le_refl _
  | p :: r, h => by
    have h1 := pc2_len (h p List.mem_cons_self)
    have h2 := flat_len (fun q hq => h q (List.mem_cons_of_mem _ hq) : ∀ p ∈ r, Pc2 C p)
    rw [List.flatten_cons, List.length_append, List.length_cons]
    omega
/-- A list that has just been laid, as one's own. -/
theorem own_l {V : World} {S : Nat} {l : List Opn} {n : Nat} {cs : Array Value} (hn : l.length = n) (hcs : cs = (opCells l).toArray) (hS : S ≤ V.heap.size) (hm : n ≤ 100) : (V.alloc (.cells cs 45)).ownsRow S 45 3 (.slice (some ⟨V.heap.size, 0, none⟩) n n) n (opCells l) := by
  subst hcs
  refine ⟨by rw [opCells_len, hn], .inr ⟨V.heap.size, n, (opCells l).toArray, rfl, hS, World.alloc_heap_new V _, Nat.le_refl _, by unfold maxLen; omega, ?_, ?_⟩⟩
  · rw [List.size_toArray, opCells_len, hn]
  · show (opCells l).take (n * 3) = opCells l
    rw [← hn, ← opCells_len, List.take_length]
theorem own_g {w w' : World} {B S : Nat} {e : TypeId} {sz : Nat} {v : Value} {n : Nat} {xs : List Value} (h : w.ownsRow S e sz v n xs) (hG : w.grownBy w' (some B)) (hB : B < S) : w'.ownsRow S e sz v n xs :=
  h.kept (row := some B) hG (by
    rcases hv : v.ownBlock with _ | g
    · exact .inl rfl
    · have := (h.lt g hv).1
      exact .inr (fun e => by injection e with e; omega))
theorem pra_g {w w' : World} {B n : Nat} {a : Option Addr} {l : List Opn} (h : PrA n w a l) (hG : w.grownBy w' (some B)) (hB : ∀ q, a = some q → q.block ≠ B) : PrA w'.heap.size w' a l := fun i p hp => by
  obtain ⟨b, o, e, _, h1, h2, h3⟩ := h i p hp
  have := block_lt_of_cell h1
  simp only at this
  have hne := hB _ e
  exact ⟨b, o, e, Nat.lt_of_lt_of_le this hG.size, gc hG h1 hne, gc hG h2 hne, gc hG h3 hne⟩
theorem own_low {w : World} {S S' : Nat} {e : TypeId} {sz : Nat} {v : Value} {n : Nat} {xs : List Value} (h : w.ownsRow S e sz v n xs) (hS : S' ≤ S) : w.ownsRow S' e sz v n xs := by
  obtain ⟨h1, h2⟩ := h
  refine ⟨h1, ?_⟩
  rcases h2 with h2 | ⟨g, cap, cur, e1, e2, e3⟩
  · exact .inl h2
  · exact .inr ⟨g, cap, cur, e1, Nat.le_trans hS e2, e3⟩
/-- A part in memory. -/
def UA (B : Nat) (V : World) (s9 : Value) (u : List Opn) (V' : World) : Prop := ∃ (a : Option Addr) (n c : Nat), s9 = .slice a n c ∧ u.length = n ∧ n ≤ c ∧ c ≤ 9223372036854775807 ∧ PrA V'.heap.size V' a u ∧ (∀ q, a = some q → q.block ≠ B) ∧ DrW B V' ∧ V.grownBy V' (some B)
def MkRel (w : World) (B S : Nat) (C : Int) (m : Int) (s5 s8 : Value) (V : World) : Prop := ∃ ps : List (List Opn), s8 = .int .i64 (ps.length : Nat) ∧ (ps.length : Int) ≤ m ∧ (∀ p ∈ ps, Pc2 C p) ∧ V.ownsRow S 45 3 s5 ps.flatten.length (opCells ps.flatten) ∧ DrW B V ∧ Below w.heap.size w V ∧ S ≤ V.heap.size
set_option maxRecDepth 100000 in
set_option maxHeartbeats 16000000 in
theorem mMade_any (la : Option Addr) (ln lc : Nat) (l : Nat → Int) (hlc : ln ≤ 9223372036854775807) (C : Int) (hC : 0 ≤ C ∧ C ≤ 1000000) (w : World) (hL : LA w la ln l) (hR : ∀ i, i < ln → Ax.R64 (l i)) :
    Calls Try.prog 15 #[.slice la ln lc, .int .i64 C] w fun e w' => ∃ v out, e = .returned v ∧ w'.ownsRow w.heap.size 45 3 v out.length (opCells out) ∧ MadeP C out ∧ Below w.heap.size w w' := by
  have HL := Lib.hid hL
  have HR := Lib.hid hR
  clear hL hR
  by_cases hC1 : C < 1
  · go_enter Try.func15, Try.ntmps15
    go_wp2_with fail
    go_ret
    exact ⟨.slice none 0 0, [], rfl, World.ownsRow_nil _ _ _ _, ⟨[], by decide, fun p hp => (by cases hp), rfl⟩, Below.refl _ _⟩
  · have hC2 : 1 ≤ C ∧ C ≤ 1000000 := ⟨by omega, hC.2⟩
    have HC := Lib.hid hC2
    have NX := Lib.hid (fun n (hn : 1 ≤ n ∧ n ≤ 1000000) B W (h : DrW B W) => next_w B n hn W h)
    have UN := Lib.hid (fun B W (h : DrW B W) => unit_any B C HC.out W h)
    have hD0 : DrW w.heap.size (w.alloc (.cells #[.slice la ln lc, .int .i64 0] 80)) := ⟨la, ln, lc, 0, l, hlc, Nat.zero_le _, ⟨by go_cell, by go_cell, by go_cell⟩, Ax.la_below HL.out (ba (Below.refl _ _) _), HR.out, fun q e h0 => by
      obtain ⟨b, o, e2, hc⟩ := HL.out 0 h0
      rw [e] at e2
      injection e2 with e2
      subst e2
      have := block_lt_of_cell hc
      simp only at this ⊢
      omega⟩
    have hB0 : Below w.heap.size w (w.alloc (.cells #[.slice la ln lc, .int .i64 0] 80)) := ba (Below.refl _ _) _
    have hs0 : (w.alloc (.cells #[.slice la ln lc, .int .i64 0] 80)).heap.size = w.heap.size + 1 := World.size_alloc _ _
    have HS := Lib.hid hs0
    clear HL HR hs0 hC2 hC hlc
    go_enter Try.func15, Try.ntmps15
    go_upto_region 5 with (fail)
    generalize (w.alloc (.cells #[.slice la ln lc, .int .i64 0] 80)) = V0 at *
    obtain ⟨B, hBw⟩ : ∃ B, w.heap.size = B := ⟨_, rfl⟩
    rw [hBw] at hD0 HS ⊢
    have HBw := Lib.hid hBw
    clear hBw
    have X1 := Lib.hid (NX.out 4 (by decide) B V0 hD0)
    clear hD0
    go_wp2_with fail
    refine X1.out.mono ?_
    rintro e V1 ⟨m, rfl, m0, m1, hD1, hG1⟩
    have hB1 : Below w.heap.size w V1 := gBo hB0 hG1 (fun q e => by injection e with e; have := HBw.out; omega)
    have hS1 : B + 1 ≤ V1.heap.size := by have := HS.out; have := hG1.size; omega
    have R0 : MkRel w B (B + 1) C m (.slice none 0 0) (.int .i64 0) V1 := ⟨[], rfl, m0, fun p hp => (by cases hp), World.ownsRow_nil _ _ _ _, hD1, hB1, hS1⟩
    clear X1 hB0 hG1 hD1 hB1 hS1 HS
    go_wp2_with fail
    go_loopw [5, 8] (fun s5 s8 V => MkRel w B (B + 1) C m s5 s8 V) (fun _ s8 _ => m.toNat - (intOf s8).toNat)
    case atStart => exact R0
    case round =>
      clear R0
      obtain ⟨ps, rfl, hk, hps, hown, hD, hB, hS⟩ := hrel
      rename World => V
      by_cases hkm : (ps.length : Int) < m
      · have UC := Lib.hid (UN.out B V hD)
        clear hD
        go_upto_region 10 with ((with_reducible refine UC.out.mono ?_); rintro e V2 ⟨b, n, u, rfl, hun, huf, hup, hD2, hG2, hb2⟩)
        subst hun
        have hul := uform_len huf
        have X3 := Lib.hid (NX.out 3 (by decide) B V2 hD2)
        clear hD2 UC
        go_wp2_with fail
        refine X3.out.mono ?_
        rintro e V3 ⟨x, rfl, x0, x1, hD3, hG3⟩
        have hP3 := pra_g hup hG3 (by intro q e; injection e with e; subst e; simp only; omega)
        have hG3' := hG2.trans hG3
        have hbB : b ≠ B := by omega
        have hul6 : u.length ≤ 6 := hul.2
        have hS3 : V.heap.size ≤ V3.heap.size := hG3'.size
        clear hup hG2 hG3 X3 hul hb2
        go_upto_if 28 with (fail)
        go_cut [9] (fun s9 V' => ∃ u1, Pc1 C u1 ∧ UA B V s9 u1 V')
        case first =>
          by_cases hx : x = 0
          · subst hx
            have X4 := Lib.hid (NX.out 14 (by decide) B V3 hD3)
            clear hD3
            go_wp2_with fail
            refine X4.out.mono ?_
            rintro e V4 ⟨y, rfl, y0, y1, hD4, hG4⟩
            have hP4 := pra_g hP3 hG4 (by intro q e; injection e with e; subst e; exact hbB)
            have hG4' := hG3'.trans hG4
            obtain ⟨c, hc⟩ : ∃ c, 6 + y = c := ⟨_, rfl⟩
            have w1 : wrap64 (6 + y) = c := by rw [hc]; exact IntWalk.wrap64_in _ ⟨by omega, by omega⟩
            have hE := own_l (V := V4) (S := V4.heap.size) (l := [⟨9, 0, 0⟩, ⟨1, c, 0⟩, ⟨3, 0, 0⟩, ⟨14, (u.length : Nat), 0⟩]) (n := 4) rfl rfl (Nat.le_refl _) (by decide)
            have hE' : (V4.alloc (.cells #[.int .i64 9, .int .i64 0, .int .i64 0, .int .i64 1, .int .i64 c, .int .i64 0, .int .i64 3, .int .i64 0, .int .i64 0, .int .i64 14, .int .i64 (u.length : Nat), .int .i64 0] 45)).ownsRow V4.heap.size 45 3 (.slice (some ⟨V4.heap.size, 0, none⟩) 4 4) 4 (opCells [⟨9, 0, 0⟩, ⟨1, c, 0⟩, ⟨3, 0, 0⟩, ⟨14, (u.length : Nat), 0⟩]) := hE
            have hP5 : PrA (V4.alloc (.cells #[.int .i64 9, .int .i64 0, .int .i64 0, .int .i64 1, .int .i64 c, .int .i64 0, .int .i64 3, .int .i64 0, .int .i64 0, .int .i64 14, .int .i64 (u.length : Nat), .int .i64 0] 45)).heap.size (V4.alloc (.cells #[.int .i64 9, .int .i64 0, .int .i64 0, .int .i64 1, .int .i64 c, .int .i64 0, .int .i64 3, .int .i64 0, .int .i64 0, .int .i64 14, .int .i64 (u.length : Nat), .int .i64 0] 45)) (some ⟨b, 0, none⟩) u := pra_up hP4 (ba (Below.refl _ _) _)
            have hS4 : V.heap.size ≤ V4.heap.size := hG4'.size
            have FIN : Hid (∀ v' W', W'.ownsRow V4.heap.size 45 3 v' (4 + u.length) (opCells ([⟨9, 0, 0⟩, ⟨1, c, 0⟩, ⟨3, 0, 0⟩, ⟨14, (u.length : Nat), 0⟩] ++ u)) → (V4.alloc (.cells #[.int .i64 9, .int .i64 0, .int .i64 0, .int .i64 1, .int .i64 c, .int .i64 0, .int .i64 3, .int .i64 0, .int .i64 0, .int .i64 14, .int .i64 (u.length : Nat), .int .i64 0] 45)).grownBy W' (some V4.heap.size) → ∃ u1, Pc1 C u1 ∧ UA B V v' u1 W') := Lib.hid (fun v' W' ho hg => by
              have hbw : Below V4.heap.size V4 W' := gBo (ba (Below.refl V4.heap.size V4) _) hg (fun q e => by injection e with e; omega)
              have hlen : (([⟨9, 0, 0⟩, ⟨1, c, 0⟩, ⟨3, 0, 0⟩, ⟨14, (u.length : Nat), 0⟩] ++ u : List Opn)).length = 4 + u.length := by
                rw [List.length_append]
                rfl
              obtain ⟨pa, pc, rfl, r1, r2, r3⟩ := own_pra hlen ho
              exact ⟨_, ⟨u, huf, .inr ⟨c, rfl⟩⟩, pa, 4 + u.length, pc, rfl, hlen, r1, r2, r3, fun q e => by
                subst e
                have := (ho.lt q.block rfl).1
                omega, drw_below hD4 hbw, gt hG4' hbw⟩)
            clear X4 hE hP4 hG4 hG4' hD4 hP3 hG3' huf hown hps hB
            go_wp2_with (at_builtin; refine wpList_ops (l := [⟨9, 0, 0⟩, ⟨1, c, 0⟩, ⟨3, 0, 0⟩, ⟨14, (u.length : Nat), 0⟩]) (l2 := u) (n := 4) (m := u.length) V4.heap.size rfl _ _ rfl rfl rfl rfl rfl hE' hP5 (by omega) (by omega) (ba (Below.refl V4.heap.size V4) _).size ?_; intro v' W' ho5 hg5)
            go_meet
            exact FIN.out _ _ ho5 hg5
          · have hx2 : (x == 0) = false := beq_eq_false_iff_ne.2 hx
            have R : Hid (∃ u1, Pc1 C u1 ∧ UA B V (.slice (some ⟨b, 0, none⟩) u.length u.length) u1 V3) := Lib.hid ⟨u, ⟨u, huf, .inl rfl⟩, _, u.length, u.length, rfl, rfl, Nat.le_refl _, by omega, hP3, fun q e => by injection e with e; subst e; exact hbB, hD3, hG3'⟩
            clear hP3 hG3' huf hown hps hB hD3
            go_wp2_with fail
            go_meet
            exact R.out
        case rest =>
          obtain ⟨u1, hp1, a1, n1, c1, rfl, hun1, q1, q2, hP5, hne5, hD5, hG5⟩ := hcut
          rename World => V5
          subst hun1
          have hul1 := (pc1_len hp1).2
          have X6 := Lib.hid (NX.out 3 (by decide) B V5 hD5)
          clear hD5 hP3 hG3' huf hul6 hD3
          go_wp2_with fail
          refine X6.out.mono ?_
          rintro e V6 ⟨y, rfl, y0, y1, hD6, hG6⟩
          have hP6 := pra_g hP5 hG6 hne5
          have hG6' := hG5.trans hG6
          have hS6 : V.heap.size ≤ V6.heap.size := hG6'.size
          clear hP5 hG5 hG6 X6
          go_upto_if 43 with (fail)
          go_cut [9] (fun s9 V' => ∃ u2, Pc2 C u2 ∧ UA B V s9 u2 V')
          case first =>
            by_cases hx : y = 0
            · subst hx
              have X7 := Lib.hid (NX.out 3 (by decide) B V6 hD6)
              clear hD6
              go_wp2_with fail
              refine X7.out.mono ?_
              rintro e V7 ⟨z, rfl, z0, z1, hD7, hG7⟩
              have hP7 := pra_g hP6 hG7 hne5
              have hG7' := hG6'.trans hG7
              obtain ⟨r, hr, hr1, hr2⟩ : ∃ r, 1 + z = r ∧ 1 ≤ r ∧ r ≤ 3 := ⟨_, rfl, by omega, by omega⟩
              have w1 : wrap64 (1 + z) = r := by rw [hr]; exact IntWalk.wrap64_in _ ⟨by omega, by omega⟩
              have hE' : (V7.alloc (.cells #[.int .i64 15, .int .i64 r, .int .i64 (u1.length : Nat)] 45)).ownsRow V7.heap.size 45 3 (.slice (some ⟨V7.heap.size, 0, none⟩) 1 1) 1 (opCells [⟨15, r, (u1.length : Nat)⟩]) := own_l rfl rfl (Nat.le_refl _) (by decide)
              have hP8 : PrA (V7.alloc (.cells #[.int .i64 15, .int .i64 r, .int .i64 (u1.length : Nat)] 45)).heap.size (V7.alloc (.cells #[.int .i64 15, .int .i64 r, .int .i64 (u1.length : Nat)] 45)) a1 u1 := pra_up hP7 (ba (Below.refl _ _) _)
              have hS7 : V.heap.size ≤ V7.heap.size := hG7'.size
              have FIN : Hid (∀ v' W', W'.ownsRow V7.heap.size 45 3 v' (1 + u1.length) (opCells ([⟨15, r, (u1.length : Nat)⟩] ++ u1)) → (V7.alloc (.cells #[.int .i64 15, .int .i64 r, .int .i64 (u1.length : Nat)] 45)).grownBy W' (some V7.heap.size) → ∃ u2, Pc2 C u2 ∧ UA B V v' u2 W') := Lib.hid (fun v' W' ho hg => by
                have hbw : Below V7.heap.size V7 W' := gBo (ba (Below.refl V7.heap.size V7) _) hg (fun q e => by injection e with e; omega)
                have hlen : (([⟨15, r, (u1.length : Nat)⟩] ++ u1 : List Opn)).length = 1 + u1.length := by
                  rw [List.length_append]
                  rfl
                obtain ⟨pa, pc, rfl, r1, r2, r3⟩ := own_pra hlen ho
                exact ⟨_, ⟨u1, hp1, .inr ⟨r, hr1, hr2, rfl⟩⟩, pa, 1 + u1.length, pc, rfl, hlen, r1, r2, r3, fun q e => by
                  subst e
                  have := (ho.lt q.block rfl).1
                  omega, drw_below hD7 hbw, gt hG7' hbw⟩)
              clear X7 hP7 hG7 hG7' hD7 hP6 hG6' hp1 hown hps hB
              go_wp2_with (at_builtin; refine wpList_ops (l := [⟨15, r, (u1.length : Nat)⟩]) (l2 := u1) (n := 1) (m := u1.length) V7.heap.size rfl _ _ rfl rfl rfl rfl rfl hE' hP8 (by omega) (by omega) (ba (Below.refl V7.heap.size V7) _).size ?_; intro v' W' ho5 hg5)
              go_meet
              exact FIN.out _ _ ho5 hg5
            · have hx2 : (y == 0) = false := beq_eq_false_iff_ne.2 hx
              have R : Hid (∃ u2, Pc2 C u2 ∧ UA B V (.slice a1 u1.length c1) u2 V6) := Lib.hid ⟨u1, ⟨u1, hp1, .inl rfl⟩, _, u1.length, c1, rfl, rfl, q1, q2, hP6, hne5, hD6, hG6'⟩
              clear hP6 hG6' hp1 hown hps hB hD6
              go_wp2_with fail
              go_meet
              exact R.out
          case rest =>
            obtain ⟨u2, hp2, a2, n2, c2, rfl, hun2, p1, p2, hP9, hne9, hD9, hG9⟩ := hcut
            rename World => V9
            subst hun2
            have hl2 := (pc2_len hp2).2
            have hfl := flat_len hps
            have hown9 := own_g hown hG9 (Nat.lt_succ_self B)
            have hB9 : Below w.heap.size w V9 := gBo hB hG9 (fun q e => by injection e with e; have := HBw.out; omega)
            have hS9 : B + 1 ≤ V9.heap.size := Nat.le_trans hS hG9.size
            have hp3 : ps.length ≤ 3 := by omega
            have FIN : Hid (∀ v' W', W'.ownsRow (B + 1) 45 3 v' (ps.flatten.length + u2.length) (opCells (ps.flatten ++ u2)) → V9.grownBy W' u5.ownBlock → MkRel w B (B + 1) C m v' (.int .i64 ((ps.length : Nat) + 1 : Int)) W') := Lib.hid (fun v' W' ho hg => by
              have hne : ∀ q, u5.ownBlock = some q → B + 1 ≤ q := fun q e => (hown9.lt q e).1
              refine ⟨ps ++ [u2], by rw [List.length_append]; rfl, by rw [List.length_append]; show ((ps.length + 1 : Nat) : Int) ≤ m; omega, fun q hq => ?_, ?_, ?_, gBo hB9 hg (fun q e => by have := hne q e; have := HBw.out; omega), Nat.le_trans hS9 hg.size⟩
              · rcases List.mem_append.1 hq with h | h
                · exact hps q h
                · rw [List.mem_singleton] at h; subst h; exact hp2
              · rw [List.flatten_append, List.flatten_cons, List.flatten_nil, List.append_nil, List.length_append]
                exact ho
              · exact drw_row hD9 hg hne)
            clear hp2 hown hps hB hG9 hD9 hne9 hP6 hG6' hp1 hD6
            go_wp2_with (at_builtin; refine wpList_ops (l := ps.flatten) (l2 := u2) (n := ps.flatten.length) (m := u2.length) (B + 1) rfl _ _ rfl rfl rfl rfl rfl hown9 hP9 (by omega) (by omega) hS9 ?_; intro v' W' ho5 hg5)
            have R := Lib.hid (FIN.out _ _ ho5 hg5)
            clear FIN ho5 hg5 hown9 hP9 hB9
            go_wp2_with fail
            exact ⟨R.out, by simp [intOf]; omega⟩
      · have hkm2 : ¬ (ps.length : Int) < m := hkm
        have R := Lib.hid (And.intro (own_low hown (show w.heap.size ≤ B + 1 by have := HBw.out; omega)) (And.intro (show MadeP C ps.flatten from ⟨ps, by omega, hps, rfl⟩) hB))
        clear hown hps hB hD
        go_wp2_with fail
        go_ret
        exact ⟨u5, rfl, _, R.out⟩
end Go.Proofs.Ytdgagjcocohnnaa.Mc
