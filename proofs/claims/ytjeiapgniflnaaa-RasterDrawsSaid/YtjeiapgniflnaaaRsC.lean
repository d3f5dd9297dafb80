/-
  Layer 7 (raster): a range over edges; Winding of the program.
-/
import Derived.Test.YtjeiapgniflnaaaRsB
namespace Go.Proofs.Ytjeiapgniflnaaa.Rs
open Go.RowKit Go.Shelf
open Go.Proofs.Ytjeiapgniflnaaa.Ot
attribute [local go_sem] Oper.semAt_some
/-- A range over a function whose rounds begin by laying a block. -/
theorem range_edges {P : Program} {n : Nat} {g : Operand} {ps : Array Tmp} {assign body : Code} {Q : Exit → Act → World → Prop} {a : Act} {w : World}
    (h1 : 1 ≤ n) {gf : Nat} {lb : Array Value} (hg : a.eval g = .func (.func gf) #[] lb) (eg : ∀ args w, (callFunc gf args).run P w = .ok (.enter gf args) w)
    {N : Nat} {act : Nat → Bool} {args : Nat → Array Value} {Mem : World → Prop} (hps : ∀ k, (args k).size = ps.size)
    (hseq : Gives P (n - 1) gf lb N act args Mem)
    (I : Nat → World → Prop) (hIb : ∀ {k A A'}, I k A → Below A.heap.size A A' → I k A')
    (hIo : ∀ {k} {W : World} {r : Nat} {o : Obj} (o' : Obj), w.heap.size ≤ r → I k W → W.heap[r]? = some o → o.isCells = false → I k (W.putObj r o'))
    (hIm : ∀ {k V}, I k V → Mem V) (hIs : ∀ {k V}, I k V → k < N → act k = false → I (k + 1) V)
    (h0 : I 0 w) (a₁ : Nat → World → Act) (mk : Nat → World → World) (X : Nat → World → World → Prop) (hmb : ∀ k W, Below W.heap.size W (mk k W)) (hX0 : ∀ k W, X k W (mk k W)) (hXo : ∀ {k} {W0 W : World} {r : Nat} {o : Obj} (o' : Obj), X k W0 W → W.heap[r]? = some o → o.isCells = false → X k W0 (W.putObj r o'))
    (hassign : ∀ (l : Nat) (k : Nat) (W : World) (K : Act → World → Prop), K (a₁ k W) (mk k W) →
      assign.wpIn (Fence.wide.inRound l) (n - 1 - 1) P (Exit.then K (fun _ _ _ => False)) { tmps := (ps.zip (args k)).foldl (fun t (p, v) => t.setIfInBounds p v) a.tmps, defers := [] } W)
    (hbody : ∀ (l k : Nat) (W V : World), I k V → X k W V → w.heap.size ≤ W.heap.size → k < N → act k = true →
      body.wpIn (Fence.wide.inRound l) (n - 1 - 1) P (onlyNormal fun W' => KeepsOthers V W' ∧ I (k + 1) W') (a₁ k W) V)
    (hdone : ∀ (D : Nat) (W : World), I N W → w.heap.size ≤ D → W.heap[D]? = some (.deferred (some [])) → Q .normal { a with defers := { target := .collected D, args := #[] } :: a.defers } W) :
    (Code.rangeFunc g ps assign body).wpIn Fence.wide n P Q a w := by
  refine wpIn_rangeFunc (fun fn hfn => ?_)
  rw [show Fence.wide.round = none from rfl]
  obtain ⟨rc, hrc⟩ : ∃ rc : LoopState → Option Code → Loop, rc = fun st pe => { state := st, pending := pe, fn, tmps := a.tmps, params := ps, assign, body, defers := w.heap.size } := ⟨_, rfl⟩
  obtain ⟨W1, hW1⟩ : ∃ W1, (w.alloc (.deferred (some []))).alloc (.loop (rc .ready none)) = W1 := ⟨_, rfl⟩
  have hL1 : W1.heap[w.heap.size + 1]? = some (.loop (rc .ready none)) := by
    rw [← hW1]; have := World.alloc_heap_new (w.alloc (.deferred (some []))) (.loop (rc .ready none)); rwa [World.size_alloc] at this
  have hD1 : W1.heap[w.heap.size]? = some (.deferred (some [])) := by
    rw [← hW1]; exact (Below.heap_alloc _ _ _ (by simp)).trans (World.alloc_heap_new w _)
  have hb1 : Below w.heap.size w W1 := by
    rw [← hW1]; exact ((Below.refl _ w).alloc (Nat.le_refl _) _).alloc (by simp) _
  refine ⟨w.heap.size + 1, [{ target := .collected w.heap.size, args := #[] }], W1, { target := .fn (.func gf) lb, args := #[.func (.yield (w.heap.size + 1)) #[] #[]] }, W1, gf,
    #[.func (.yield (w.heap.size + 1)) #[] #[]] ++ lb, W1, ?_, ?_, fun _ _ => trivial, ?_, fun _ => h1, ?_⟩
  · rw [← hW1, hrc]; exact run_enterLoop_outer _ _ _ _ _
  · simp only [resolve, hg]
    simp [go_sem]
  · simp [invoke, go_sem, eg]
  · refine (hseq (w.heap.size + 1) (fun k W => I k W ∧ W.heap[w.heap.size + 1]? = some (.loop (rc .ready none)) ∧ W.heap[w.heap.size]? = some (.deferred (some []))) W1 ?_ ?_ ?_ ?_
      ⟨hIb h0 hb1, hL1, hD1⟩).mono ?_
    · rintro k V ⟨hi, hl, hd⟩ hk hact
      have hlt : w.heap.size + 1 < V.heap.size := (Array.getElem?_eq_some_iff.1 hl).1
      have hy := run_yield (P := P) (args := args k) hl (by rw [hrc]; exact hps k)
      rw [hrc] at hy
      have hmk := hmb k V
      have hl2 : (mk k V).heap[w.heap.size + 1]? = some (.loop (rc .ready none)) := (hmk.block _ hlt).trans hl
      have hd2 : (mk k V).heap[w.heap.size]? = some (.deferred (some [])) := (hmk.block _ (by omega)).trans hd
      have hlt2 : w.heap.size + 1 < (mk k V).heap.size := Nat.lt_of_lt_of_le hlt hmk.size
      have hi2 := hIb hi hmk
      have hx2 := hX0 k V
      refine ⟨fn, _, assign, body, hy, roundIn_of_wpIn hfn (hassign _ k V _ ⟨_, run_beginRound hl2 (by rw [hrc]), ?_⟩)⟩
      obtain ⟨V1, hV1⟩ : ∃ V1, (mk k V).putObj (w.heap.size + 1) (.loop { rc .ready none with state := .busy }) = V1 := ⟨_, rfl⟩
      have hl1 : V1.heap[w.heap.size + 1]? = some (.loop { rc .ready none with state := .busy }) := by rw [← hV1]; exact World.putObj_heap_same hlt2
      have hd1 : V1.heap[w.heap.size]? = some (.deferred (some [])) := by rw [← hV1]; exact (World.putObj_heap_other (by omega)).trans hd2
      have hi1 : I k V1 := by rw [← hV1]; exact hIo _ (by omega) hi2 hl2 rfl
      have hx1 : X k V V1 := by rw [← hV1]; exact hXo _ hx2 hl2 rfl
      rw [hV1]
      refine wpIn_mono (hbody _ k V V1 hi1 hx1 (by omega) hk hact) ?_
      rintro e a3 W3 hp
      cases e with
      | normal =>
        obtain ⟨hk3, hi3⟩ := hp
        have hl3 := hk3.same _ _ hl1 rfl
        have hd3 := hk3.same _ _ hd1 rfl
        have hlt3 : w.heap.size + 1 < W3.heap.size := (Array.getElem?_eq_some_iff.1 hl3).1
        have he := run_endRound (P := P) none hl3
        refine ⟨_, _, he, rfl, hIo _ (by omega) hi3 hl3 rfl, ?_, ?_⟩
        · rw [World.putObj_heap_same hlt3, hrc]; rfl
        · exact (World.putObj_heap_other (by omega)).trans hd3
      | ret => exact hp.elim
      | exit id => exact hp.elim
      | goto t => exact hp.elim
      | panic ch => exact hp.elim
      | outgrown => exact hp.elim
    · rintro k V ⟨hi, hl, hd⟩ hk hact
      exact ⟨hIs hi hk hact, hl, hd⟩
    · rintro k V V' ⟨hi, hl, hd⟩ hB
      exact ⟨hIb hi hB, (hB.block _ (Array.getElem?_eq_some_iff.1 hl).1).trans hl, (hB.block _ (Array.getElem?_eq_some_iff.1 hd).1).trans hd⟩
    · rintro k V ⟨hi, hl, hd⟩
      exact hIm hi
    · rintro e W2 ⟨⟨v, rfl⟩, hi, hl, hd⟩
      have he := run_endLoop (P := P) hl (by rw [hrc]; simp)
      rw [hrc] at he
      exact ⟨none, _, he, hdone w.heap.size _ (hIo _ (by omega) hi hl rfl) (Nat.le_refl _) ((World.putObj_heap_other (by omega)).trans hd)⟩
/-- An edge in a block. -/
def EdAt (V : World) (b : Nat) (e : Ed) : Prop :=
  V.cell? ⟨b, 0, none⟩ = some (.int .i64 e.l.x) ∧ V.cell? ⟨b, 1, none⟩ = some (.int .i64 e.l.y) ∧ V.cell? ⟨b, 2, none⟩ = some (.bool e.l.o) ∧ V.cell? ⟨b, 3, none⟩ = some (.int .i64 e.h.x) ∧ V.cell? ⟨b, 4, none⟩ = some (.int .i64 e.h.y) ∧ V.cell? ⟨b, 5, none⟩ = some (.bool e.h.o) ∧ V.cell? ⟨b, 6, none⟩ = some (.int .i64 e.w)
theorem edat_below {V V' : World} {b : Nat} {e : Ed} (h : EdAt V b e) (hB : Below V.heap.size V V') : EdAt V' b e := by
  obtain ⟨h0, h1, h2, h3, h4, h5, h6⟩ := h
  exact ⟨kc hB h0, kc hB h1, kc hB h2, kc hB h3, kc hB h4, kc hB h5, kc hB h6⟩
theorem edat_put {V : World} {b : Nat} {e : Ed} {r : Nat} {o : Obj} (o' : Obj) (h : EdAt V b e) (ho : V.heap[r]? = some o) (hc : o.isCells = false) : EdAt (V.putObj r o') b e := by
  obtain ⟨h0, h1, h2, h3, h4, h5, h6⟩ := h
  exact ⟨(put_cell o' ho hc h0).1, (put_cell o' ho hc h1).1, (put_cell o' ho hc h2).1, (put_cell o' ho hc h3).1, (put_cell o' ho hc h4).1, (put_cell o' ho hc h5).1, (put_cell o' ho hc h6).1⟩
def edO (e : Ed) : Obj := .cells #[.int .i64 e.l.x, .int .i64 e.l.y, .bool e.l.o, .int .i64 e.h.x, .int .i64 e.h.y, .bool e.h.o, .int .i64 e.w] 70
def mkW (E : Nat → Ed) (k : Nat) (W : World) : World := W.alloc (edO (E k))
theorem mkW_at (E : Nat → Ed) (k : Nat) (W : World) : EdAt (mkW E k W) W.heap.size (E k) := by
  unfold mkW edO
  exact ⟨by go_cell, by go_cell, by go_cell, by go_cell, by go_cell, by go_cell, by go_cell⟩
theorem mkW_below (E : Nat → Ed) (k : Nat) (W : World) : Below W.heap.size W (mkW E k W) := ba (Below.refl _ _) _
def WI (w : World) (bn bX : Nat) (a : Option Addr) (N c : Nat) (ns B O : Nat → Nat) (g : Nat → Nat → Pt) (x y : Int) (k : Nat) (V : World) : Prop :=
  V.cell? ⟨bn, 0, none⟩ = some (.int .i64 (wnE (eJ N ns g) x y k)) ∧ V.frozen? ⟨bn, 0, none⟩ = false ∧ V.cell? ⟨w.heap.size, 0, none⟩ = some (.int .i64 x) ∧ V.cell? ⟨w.heap.size + 1, 0, none⟩ = some (.int .i64 y) ∧ EMem bX a N c ns B O g V ∧ Below w.heap.size w V
theorem wi_below {w : World} {bn bX : Nat} {a : Option Addr} {N c : Nat} {ns B O : Nat → Nat} {g : Nat → Nat → Pt} {x y : Int} {k : Nat} {V V' : World} (h : WI w bn bX a N c ns B O g x y k V) (hB : Below V.heap.size V V') : WI w bn bX a N c ns B O g x y k V' := by
  obtain ⟨h1, h2, h3, h4, h5, h6⟩ := h
  exact ⟨kc hB h1, kf hB h1 h2, kc hB h3, kc hB h4, em_below h5 hB, bt h6 hB⟩
theorem wi_put {w : World} {bn bX : Nat} {a : Option Addr} {N c : Nat} {ns B O : Nat → Nat} {g : Nat → Nat → Pt} {x y : Int} {k : Nat} {V : World} {r : Nat} {o : Obj} (o' : Obj) (hr : w.heap.size ≤ r) (h : WI w bn bX a N c ns B O g x y k V) (ho : V.heap[r]? = some o) (hc : o.isCells = false) : WI w bn bX a N c ns B O g x y k (V.putObj r o') := by
  obtain ⟨h1, h2, h3, h4, h5, h6⟩ := h
  exact ⟨(put_cell o' ho hc h1).1, (put_cell o' ho hc h1).2.trans h2, (put_cell o' ho hc h3).1, (put_cell o' ho hc h4).1, em_put o' ho hc h5, below_put h6 hr o'⟩
theorem wi_next {w : World} {bn bX : Nat} {a : Option Addr} {N c : Nat} {ns B O : Nat → Nat} {g : Nat → Nat → Pt} {x y : Int} {k : Nat} {V : World} (hO : OX w a N ns B O) (hP : ∀ k, k < N → ∀ i, i < ns k → PtAt w (B k) (O k + i * 3) (g k i)) (hn : w.heap.size + 1 < bn) (hx : bX ≠ bn) (h : WI w bn bX a N c ns B O g x y k V) (v : Int) (hv : wnE (eJ N ns g) x y (k + 1) = v) : WI w bn bX a N c ns B O g x y (k + 1) (V.setCell ⟨bn, 0, none⟩ (.int .i64 v)) := by
  obtain ⟨h1, h2, h3, h4, ⟨h5, _, _⟩, h6⟩ := h
  have n1 : ¬ bn = w.heap.size := by omega
  have n2 : ¬ bn = w.heap.size + 1 := by omega
  have n3 : ¬ bn = bX := fun e => hx e.symm
  have hB : Below w.heap.size w (V.setCell ⟨bn, 0, none⟩ (.int .i64 v)) := bs h6 (by simp; omega) _
  exact ⟨by rw [hv]; go_cell, by go_cell, by go_cell, by go_cell, ⟨by go_cell, ox_below hO hB, fun k hk i hi => ptat_below (hP k hk i hi) hB⟩, hB⟩
theorem wi_skip {w : World} {bn bX : Nat} {a : Option Addr} {N c : Nat} {ns B O : Nat → Nat} {g : Nat → Nat → Pt} {x y : Int} {k : Nat} {V : World} (h : WI w bn bX a N c ns B O g x y k V) (hv : wnE (eJ N ns g) x y (k + 1) = wnE (eJ N ns g) x y k) : WI w bn bX a N c ns B O g x y (k + 1) V := by
  obtain ⟨h1, h2⟩ := h
  exact ⟨by rw [hv]; exact h1, h2⟩
theorem eJ_ok {N : Nat} {ns : Nat → Nat} {g : Nat → Nat → Pt} (h : allO ns g N = true) {j : Nat} (hj : j < pre ns N) : okE (eJ N ns g j) := by
  obtain ⟨l1, l2, l3⟩ := loc_in ns hj
  unfold eJ
  have h1 := allO_at h l1
  exact mkE_ok (allR_at h1 l2) (allR_at h1 (Nat.mod_lt _ (by omega)))
theorem eJ_w (N : Nat) (ns : Nat → Nat) (g : Nat → Nat → Pt) (j : Nat) : (eJ N ns g j).w = 1 ∨ (eJ N ns g j).w = -1 := mkE_w _ _
theorem wn_step {E : Nat → Ed} (hE : ∀ j, (E j).w = 1 ∨ (E j).w = -1) (x y : Int) {k M : Nat} (hk : k < M) (hM : M ≤ 1000000) : wrap64 (wnE E x y k + (E k).w) = wnE E x y k + (E k).w := by
  have := ctE_le E hE x y k
  have := hE k
  exact w_id (by omega)
theorem ko_below {V V' : World} (h : Below V.heap.size V V') : KeepsOthers V V' := ⟨h.size, fun k o hk _ => (h.block k (Array.getElem?_eq_some_iff.1 hk).1).trans hk⟩
theorem ud2 {w u : World} (h : Below w.drew.heap.size w.drew u) : Below w.heap.size w u := bt (bd1 (Below.refl _ _)) h
set_option maxRecDepth 100000 in
set_option maxHeartbeats 16000000 in
theorem Winding_in (a : Option Addr) (N c : Nat) (ns : Nat → Nat) (g : Nat → Nat → Pt) (x y : Int) (hx : inR x = true) (hy : inR y = true) (hr : allO ns g N = true) (hN : N ≤ 1000000) (hs : pre ns N ≤ 1000000) (w : World) (hA : OT w a N ns g) :
    Calls Try.prog 13 #[.slice a N c, .int .i64 x, .int .i64 y] w fun e w' => e = .returned (.int .i64 (wnE (eJ N ns g) x y (pre ns N))) ∧ Below w.heap.size w w' := by
  refine (callsIn_wide (n := 5)).1 ?_
  obtain ⟨B, O, hX, hP⟩ := ot_ox hA
  have IX := Lib.hid (fun w => isInRange_any x w)
  have IY := Lib.hid (fun w => isInRange_any y w)
  rw [hx] at IX
  rw [hy] at IY
  have AR : Hid (∀ W, Below w.heap.size w W → Calls Try.prog 27 #[.slice a N c] W fun e w' => e = .returned (.bool true) ∧ Below W.heap.size W w') := Lib.hid (fun W h => by
    have := areInRange_any a N c ns g hN hs W (ot_below hA h)
    rw [hr] at this
    exact this)
  have ED := Lib.hid (edges_any a N c)
  have HR := Lib.hid hr
  have HX := Lib.hid hX
  have HP := Lib.hid hP
  have HE := Lib.hid (eJ_w N ns g)
  clear hx hy hr hA hX hP
  have hmix := mixedF
  refine callsIn_of_wp_marks Try.func13 rfl trivial ?_ rfl
  simp only [Try.ntmps13, List.size_toArray, List.length_cons, List.length_nil, Nat.reduceAdd, Nat.reduceSub, Array.replicate_succ, Array.replicate_zero, List.push_toArray, List.append_toArray, List.nil_append, List.cons_append]
  gi_wp2_with (first | (refine ⟨trivial, ?_⟩; first | (with_reducible refine (callsIn_wide.2 (IX.out _)).mono ?_; rintro e w3 ⟨rfl, rfl⟩) | (with_reducible refine (callsIn_wide.2 (IY.out _)).mono ?_; rintro e w3 ⟨rfl, rfl⟩) | (with_reducible refine (callsIn_wide.2 (AR.out _ (ba (ba (Below.refl _ _) _) _))).mono ?_; rintro e w1 ⟨rfl, hB1⟩) | (with_reducible refine (callsIn_wide.2 (ED.out _)).mono ?_; rintro e w2 ⟨rfl, rfl⟩)))
  have hs1 : w.heap.size + 1 + 1 ≤ w1.heap.size := by have := hB1.size; simpa using this
  obtain ⟨W0, hW0⟩ : ∃ W0, ((w1.alloc (.cells #[.int .i64 0] 3)).alloc (.cells #[.slice a N c] 23)) = W0 := ⟨_, rfl⟩
  have hB0 : Below w.heap.size w W0 := by rw [← hW0]; exact ba (ba (bt (ba (ba (Below.refl _ _) _) _) hB1) _) _
  have h0 : WI w w1.heap.size (w1.heap.size + 1) a N c ns B O g x y 0 W0 := by
    have k0 := kc hB1 (b := w.heap.size) (o := 0) (v := .int .i64 x) (by go_cell)
    have k1 := kc hB1 (b := w.heap.size + 1) (o := 0) (v := .int .i64 y) (by go_cell)
    have e1 := ox_below HX.out hB0
    have e2 := fun k hk i hi => ptat_below (HP.out k hk i hi) hB0
    subst hW0
    exact ⟨by show World.cell? _ _ = some (Value.int IntKind.i64 0); go_cell, by go_cell, kc (ba (ba (Below.refl _ _) _) _) k0, kc (ba (ba (Below.refl _ _) _) _) k1, ⟨by go_cell, e1, e2⟩, hB0⟩
  have hs0 : W0.heap.size = w1.heap.size + 1 + 1 := by rw [← hW0]; simp
  rw [hW0]
  clear hW0 hB1
  refine range_edges (n := 5) (gf := 44) (lb := #[.pointer (some ⟨w1.heap.size + 1, 0, none⟩)]) (by omega) rfl (enters_of Try.func44 (by kernel_rfl) rfl) (fun k => rfl)
    (edges_gives 4 (by omega) a N c ns B O g (w1.heap.size + 1) hN hs) (fun k V => WI w w1.heap.size (w1.heap.size + 1) a N c ns B O g x y k V) (fun h hB => wi_below h hB)
    (fun o' hr h ho hc => wi_put o' (by omega) h ho hc) (fun h => h.2.2.2.2.1) (fun h hk hf => by cases hf) h0
    (fun j W => { tmps := #[.slice a N c, .int .i64 x, .int .i64 y, undef, .pointer (some ⟨w.heap.size, 0, none⟩), .pointer (some ⟨w.heap.size + 1, 0, none⟩), .int .i64 0, .pointer (some ⟨w1.heap.size, 0, none⟩), .pointer (some ⟨W.heap.size, 0, none⟩), .int .i64 x, .bool true, .bool false, .bool false, .int .i64 y, .bool true, .bool false, .bool false, .bool false, .slice a N c, .bool true, .bool false, .bool false, .slice a N c, .func (.func 44) #[] #[.pointer (some ⟨w1.heap.size + 1, 0, none⟩)], edV (eJ N ns g j), undef, undef, undef, undef, undef, undef, undef, undef, undef, undef, undef, undef, undef, undef, undef], defers := [] }) (fun j W => mkW (eJ N ns g) j W) (fun j W V => EdAt V W.heap.size (eJ N ns g j)) (fun j W => mkW_below _ j W) (fun j W => mkW_at _ j W) (fun o' h ho hc => edat_put o' h ho hc) ?assign ?body ?done
  case assign =>
    intro l k V K hK
    simp only [eargs]
    unfold edV mkW edO at *
    gi_wp2
    exact hK
  case body =>
    intro l k W V hI hEd hWs hk hf
    have hok := eJ_ok HR.out hk
    have hst := wn_step HE.out x y hk hs
    obtain ⟨h1, h2, h3, h4, h5, h6⟩ := id hI
    obtain ⟨d0, d1, d2, d3, d4, d5, d6⟩ := id hEd
    have PS := Lib.hid (passes_any (eJ N ns g k) y)
    have NX := Lib.hid (fun V2 (hb : Below V.heap.size V V2) (hv : wnE (eJ N ns g) x y (k + 1) = wnE (eJ N ns g) x y k + (eJ N ns g k).w) => wi_next HX.out HP.out (by omega) (by omega) (wi_below hI hb) _ hv)
    have NS := Lib.hid (fun V2 (hb : Below V.heap.size V V2) (hv : wnE (eJ N ns g) x y (k + 1) = wnE (eJ N ns g) x y k) => wi_skip (wi_below hI hb) hv)
    have AT : Hid (pasE (eJ N ns g k) y = true → ∀ w, Calls Try.prog 30 #[edV (eJ N ns g k), .int .i64 y] w fun e' w' => e' = .returned (.int .i64 (atE (eJ N ns g k) y)) ∧ Below w.heap.size w w') := Lib.hid (fun h w => by
      unfold pasE at h
      simp only [Bool.and_eq_true, decide_eq_true_eq] at h
      exact at_any _ hok y h.1 h.2 w)
    have hwn : wnE (eJ N ns g) x y (k + 1) = wnE (eJ N ns g) x y k + ctE (eJ N ns g k) x y := rfl
    unfold ctE at hwn
    have KB : Hid (∀ V2, Below V.heap.size V V2 → (V2.cell? ⟨w1.heap.size, 0, none⟩ = some (.int .i64 (wnE (eJ N ns g) x y k)) ∧ V2.frozen? ⟨w1.heap.size, 0, none⟩ = false ∧ V2.cell? ⟨w.heap.size, 0, none⟩ = some (.int .i64 x) ∧ V2.cell? ⟨w.heap.size + 1, 0, none⟩ = some (.int .i64 y)) ∧ EdAt V2 W.heap.size (eJ N ns g k)) := Lib.hid (fun V2 hb => ⟨⟨(wi_below hI hb).1, (wi_below hI hb).2.1, (wi_below hI hb).2.2.1, (wi_below hI hb).2.2.2.1⟩, edat_below hEd hb⟩)
    unfold edV at *
    generalize wnE (eJ N ns g) x y (k + 1) = T' at *
    generalize wnE (eJ N ns g) x y k = T at *
    clear hI hEd h5 HR HX HP HE
    rcases hpa : pasE (eJ N ns g k) y with _ | _
    · rw [hpa] at PS hwn
      have hv : T' = T := by simpa using hwn
      generalize eJ N ns g k = E at *
      gi_wp2
      gi_region_with_o (first | (refine ⟨trivial, ?_⟩; refine (CallsIn.inRound l (callsIn_wide.2 (PS.out _))).mono ?_; rintro e w3 ⟨rfl, hB3⟩; replace hB3 := ud2 hB3) | (refine ⟨trivial, ?_⟩))
      all_goals (try gi_wp2)
      all_goals exact ⟨ko_below hB3, NS.out _ hB3 hv⟩
    · rw [hpa] at PS hwn
      replace AT := Lib.hid (AT.out hpa)
      clear hpa
      rcases hax : decide (atE (eJ N ns g k) y < x) with _ | _
      · rw [hax] at hwn
        have hv : T' = T := by simpa using hwn
        generalize eJ N ns g k = E at *
        gi_wp2
        gi_region_with_o (first | (refine ⟨trivial, ?_⟩; refine (CallsIn.inRound l (callsIn_wide.2 (PS.out _))).mono ?_; rintro e w3 ⟨rfl, hB3⟩; replace hB3 := ud2 hB3; obtain ⟨⟨h1, h2, h3, h4⟩, d0, d1, d2, d3, d4, d5, d6⟩ := KB.out _ hB3) | (refine ⟨trivial, ?_⟩; refine (CallsIn.inRound l (callsIn_wide.2 (AT.out _))).mono ?_; rintro e w4 ⟨rfl, hB4⟩; replace hB4 := bt hB3 hB4; obtain ⟨⟨h1, h2, h3, h4⟩, d0, d1, d2, d3, d4, d5, d6⟩ := KB.out _ hB4))
        all_goals (try gi_wp2)
        all_goals exact ⟨ko_below hB4, NS.out _ hB4 hv⟩
      · rw [hax] at hwn
        have hv : T' = T + (eJ N ns g k).w := by simpa using hwn
        generalize eJ N ns g k = E at *
        gi_wp2
        gi_region_with_o (first | (refine ⟨trivial, ?_⟩; refine (CallsIn.inRound l (callsIn_wide.2 (PS.out _))).mono ?_; rintro e w3 ⟨rfl, hB3⟩; replace hB3 := ud2 hB3; obtain ⟨⟨h1, h2, h3, h4⟩, d0, d1, d2, d3, d4, d5, d6⟩ := KB.out _ hB3) | (refine ⟨trivial, ?_⟩; refine (CallsIn.inRound l (callsIn_wide.2 (AT.out _))).mono ?_; rintro e w4 ⟨rfl, hB4⟩; replace hB4 := bt hB3 hB4; obtain ⟨⟨h1, h2, h3, h4⟩, d0, d1, d2, d3, d4, d5, d6⟩ := KB.out _ hB4))
        all_goals (try gi_wp2)
        all_goals exact ⟨(ko_below hB4).trans (KeepsOthers.setCell _ _ _), NX.out _ hB4 hv⟩
  case done =>
    rintro D V ⟨h1, h2, h3, h4, h5, h6⟩ hD hK
    have hle : w.heap.size ≤ D := by omega
    gi_wp2
    refine ⟨by simp, .inl ⟨_, _, rfl, run_takeDeferred hK, ?_⟩⟩
    exact ⟨_, results_tmp rfl _ _ _, rfl, below_put h6 hle _⟩
set_option maxRecDepth 100000 in
set_option maxHeartbeats 4000000 in
theorem Winding_any (a : Option Addr) (N c : Nat) (ns : Nat → Nat) (g : Nat → Nat → Pt) (x y : Int) (hN : N ≤ 1000000) (hs : pre ns N ≤ 1000000) (w : World) (hA : OT w a N ns g) :
    Calls Try.prog 13 #[.slice a N c, .int .i64 x, .int .i64 y] w fun e w' => e = .returned (.int .i64 (wdg N ns g x y)) ∧ Below w.heap.size w w' := by
  have IX := Lib.hid (fun w => isInRange_any x w)
  have IY := Lib.hid (fun w => isInRange_any y w)
  have AR : Hid (∀ W, Below w.heap.size w W → Calls Try.prog 27 #[.slice a N c] W fun e w' => e = .returned (.bool (allO ns g N)) ∧ Below W.heap.size W w') := Lib.hid (fun W h => areInRange_any a N c ns g hN hs W (ot_below hA h))
  unfold wdg
  rcases hx : inR x with _ | _
  · rw [hx] at IX
    rw [if_neg (by simp)]
    clear hA
    go_enter Try.func13, Try.ntmps13
    go_wp2_with (first | (with_reducible refine (IX.out _).mono ?_; rintro e w3 ⟨rfl, rfl⟩))
    go_ret
    exact ⟨rfl, ba (ba (Below.refl _ _) _) _⟩
  rcases hy : inR y with _ | _
  · rw [hx] at IX
    rw [hy] at IY
    rw [if_neg (by simp)]
    clear hA
    go_enter Try.func13, Try.ntmps13
    go_wp2_with (first | (with_reducible refine (IX.out _).mono ?_; rintro e w3 ⟨rfl, rfl⟩) | (with_reducible refine (IY.out _).mono ?_; rintro e w3 ⟨rfl, rfl⟩))
    go_ret
    exact ⟨rfl, ba (ba (Below.refl _ _) _) _⟩
  rcases hr : allO ns g N with _ | _
  · rw [hx] at IX
    rw [hy] at IY
    rw [hr] at AR
    rw [if_neg (by simp)]
    clear hA
    go_enter Try.func13, Try.ntmps13
    go_wp2_with (first | (with_reducible refine (IX.out _).mono ?_; rintro e w3 ⟨rfl, rfl⟩) | (with_reducible refine (IY.out _).mono ?_; rintro e w3 ⟨rfl, rfl⟩) | (with_reducible refine (AR.out _ (ba (ba (Below.refl _ _) _) _)).mono ?_; rintro e w1 ⟨rfl, hB1⟩))
    go_ret
    exact ⟨rfl, bt (ba (ba (Below.refl _ _) _) _) hB1⟩
  · rw [if_pos (by simp), ← wnE_wn]
    exact Winding_in a N c ns g x y hx hy hr hN hs w hA
end Go.Proofs.Ytjeiapgniflnaaa.Rs