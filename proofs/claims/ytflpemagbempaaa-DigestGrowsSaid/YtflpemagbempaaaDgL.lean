/-
  Layer 3 (digest): Root.
-/
import Derived.Test.YtflpemagbempaaaDgK
namespace Go.Proofs.Ytflpemagbempaaa.Dg
open Go.RowKit Go.Shelf
attribute [local go_sem] Oper.semAt_some
theorem sat_below {w W : World} {a : Option Addr} {l : List ByteArray} (h : StrsAt w a l) (hB : Below w.heap.size w W) : StrsAt W a l := fun i x hx => by
  obtain ⟨b, off, e, hc⟩ := h i x hx
  exact ⟨b, off, e, kc hB (block_lt_of_cell hc) hc⟩
def rootAt (g : Nat → List UInt8) : Nat → List UInt8
  | 0 => []
  | k + 1 => lv g k 0
def RI (l : List ByteArray) (w : World) (k S : Nat) (W : World) : Prop := DR W w.heap.size 1 (fun _ => rootAt (g0 l) k) ∧ Below w.heap.size w W ∧ w.heap.size < S
theorem block_of_dr {W : World} {b : Nat} {g : Nat → List UInt8} {m : Nat} (h : DR W b m g) (hm : 0 < m) : ∃ o, W.heap[b]? = some o ∧ o.isCells = true := by
  have := (h 0 hm 0 (by omega)).1
  unfold World.cell? at this
  cases hh : W.heap[b]? with
  | none => simp [hh] at this
  | some o =>
    refine ⟨o, rfl, ?_⟩
    cases o <;> simp_all [Obj.isCells]
theorem below_put {w W : World} (h : Below w.heap.size w W) {r : Nat} (hr : w.heap.size ≤ r) (o : Obj) : Below w.heap.size w (W.putObj r o) :=
  h.grown (grownBy_putObj' W r o) h.size (fun k hk => by cases hk; exact hr)
theorem k8 {V : World} {r : Nat} (v0 v1 v2 v3 v4 v5 v6 v7 : Value) : KeepsOthers V ((((((((V.setCell ⟨r, 0, none⟩ v0).setCell ⟨r, 1, none⟩ v1).setCell ⟨r, 2, none⟩ v2).setCell ⟨r, 3, none⟩ v3).setCell ⟨r, 4, none⟩ v4).setCell ⟨r, 5, none⟩ v5).setCell ⟨r, 6, none⟩ v6).setCell ⟨r, 7, none⟩ v7) :=
  ((((((((KeepsOthers.setCell V _ _).trans (KeepsOthers.setCell _ _ _)).trans (KeepsOthers.setCell _ _ _)).trans (KeepsOthers.setCell _ _ _)).trans (KeepsOthers.setCell _ _ _)).trans (KeepsOthers.setCell _ _ _)).trans (KeepsOthers.setCell _ _ _)).trans (KeepsOthers.setCell _ _ _))
theorem h8 {V : World} {r b : Nat} (hb : b ≠ r) (v0 v1 v2 v3 v4 v5 v6 v7 : Value) : ((((((((V.setCell ⟨r, 0, none⟩ v0).setCell ⟨r, 1, none⟩ v1).setCell ⟨r, 2, none⟩ v2).setCell ⟨r, 3, none⟩ v3).setCell ⟨r, 4, none⟩ v4).setCell ⟨r, 5, none⟩ v5).setCell ⟨r, 6, none⟩ v6).setCell ⟨r, 7, none⟩ v7).heap[b]? = V.heap[b]? := by
  have e : ∀ (X : World) (o : Nat) (v : Value), (X.setCell ⟨r, o, none⟩ v).heap[b]? = X.heap[b]? := fun X o v => Below.heap_setCell X _ v b (by first | exact hb | exact fun e => hb e | exact fun e => hb e.symm)
  rw [e, e, e, e, e, e, e, e]
theorem ri_next {l : List ByteArray} {w V : World} {k S b : Nat} {q0 q1 q2 q3 q4 q5 q6 q7 : UInt8} (h : RI l w k S V) (hb : S ≤ b) (hq : lv (g0 l) k 0 = [q0, q1, q2, q3, q4, q5, q6, q7]) (V' : World)
    (hV : V' = ((((((((V.setCell ⟨w.heap.size, 0, none⟩ (.int .u8 q0.toNat)).setCell ⟨w.heap.size, 1, none⟩ (.int .u8 q1.toNat)).setCell ⟨w.heap.size, 2, none⟩ (.int .u8 q2.toNat)).setCell ⟨w.heap.size, 3, none⟩ (.int .u8 q3.toNat)).setCell ⟨w.heap.size, 4, none⟩ (.int .u8 q4.toNat)).setCell ⟨w.heap.size, 5, none⟩ (.int .u8 q5.toNat)).setCell ⟨w.heap.size, 6, none⟩ (.int .u8 q6.toNat)).setCell ⟨w.heap.size, 7, none⟩ (.int .u8 q7.toNat))) :
    KeepsOthers V V' ∧ (∃ S', S' ≤ V'.heap.size ∧ RI l w (k + 1) S' V') ∧ V'.heap[b]? = V.heap[b]? := by
  obtain ⟨hr, hB, hS⟩ := h
  subst hV
  refine ⟨k8 _ _ _ _ _ _ _ _, ⟨w.heap.size + 1, ?_, ?_, bs8 hB (Nat.le_refl _) _ _ _ _ _ _ _ _, by omega⟩, h8 (by omega) _ _ _ _ _ _ _ _⟩
  · have h1 := block_lt_of_cell (hr 0 (by omega) 0 (by omega)).1
    simp only [World.size_setCell]
    exact h1
  · have h1 := dr_set (k := 0) (f := fun j => if j = 0 then rootAt (g0 l) (k + 1) else rootAt (g0 l) k) hr (by omega) (by rw [if_pos rfl]; exact hq) (fun j hj => by simp only [if_neg hj])
    have h2 := dr_congr (f := fun _ => rootAt (g0 l) (k + 1)) h1 (fun j hj => by rw [if_pos (by omega)])
    simpa using h2
set_option maxRecDepth 100000 in
set_option maxHeartbeats 4000000 in
theorem Root_any (l : List ByteArray) (a : Option Addr) (N c : Nat) (hN : l.length = N) (hs : N ≤ 1000000) (hz : ∀ s ∈ l, s.size ≤ 100000) (w : World) (hl : StrsAt w a l) :
    Calls Try.prog 21 #[.slice a N c] w fun e w' => e = .returned (.string (B (lv (g0 l) (ht N) 0))) ∧ Below w.heap.size w w' := by
  refine (callsIn_wide (n := 5)).1 ?_
  have LV := Lib.hid (levels_any a N c)
  refine callsIn_of_wp_marks Try.func21 rfl trivial ?_ rfl
  simp only [Try.ntmps21, List.size_toArray, List.length_cons, List.length_nil, Nat.reduceAdd, Nat.reduceSub, Array.replicate_succ, Array.replicate_zero, List.push_toArray, List.append_toArray, List.nil_append, List.cons_append]
  gi_wp2_with (refine ⟨trivial, ?_⟩; gi_at_call 37; refine (callsIn_wide.2 (LV.out _)).mono ?_; rintro e w1 ⟨rfl, rfl⟩)
  have hbox0 : ((w.alloc (.cells #[.int .u8 0, .int .u8 0, .int .u8 0, .int .u8 0, .int .u8 0, .int .u8 0, .int .u8 0, .int .u8 0] 52)).alloc (.cells #[.slice a N c] 28)).cell? ⟨w.heap.size + 1, 0, none⟩ = some (.slice a N c) := by go_cell
  obtain ⟨W0, hW0⟩ : ∃ W0, (w.alloc (.cells #[.int .u8 0, .int .u8 0, .int .u8 0, .int .u8 0, .int .u8 0, .int .u8 0, .int .u8 0, .int .u8 0] 52)).alloc (.cells #[.slice a N c] 28) = W0 := ⟨_, rfl⟩
  have hB0 : Below w.heap.size w W0 := by rw [← hW0]; exact ba (ba (Below.refl _ _) _) _
  have hbox : W0.cell? ⟨w.heap.size + 1, 0, none⟩ = some (.slice a N c) := by rw [← hW0]; exact hbox0
  have hR0 : DR W0 w.heap.size 1 (fun _ => rootAt (g0 l) 0) := by
    intro j hj i hi
    have := rz_alloc (rz_new w 52) (.cells #[.slice a N c] 28) i hi
    rw [hW0] at this
    obtain rfl : j = 0 := by omega
    simpa [rootAt] using this
  have hs0 : W0.heap.size = w.heap.size + 1 + 1 := by rw [← hW0]; simp
  clear hbox0
  rw [hW0]
  clear hW0
  refine range_levels (n := 5) (gf := 44) (lb := #[.pointer (some ⟨w.heap.size + 1, 0, none⟩)]) (by omega) rfl (enters_of Try.func44 (by kernel_rfl) rfl) rfl (fun k => lv (g0 l) k) (fun k => cnt N k) (ht N) (fun k _ => cnt_pos N k)
    (fun rec J W hB hY h0 => levels_in 4 (by omega) l a N c (w.heap.size + 1) hN hs hz rec J W (kc hB (by omega) hbox) (sat_below (sat_below hl hB0) hB) hY h0)
    (fun k S W => RI l w k S W) ?hIb ?hIo ⟨hR0, hB0, by omega⟩
    (fun x => { tmps := #[.slice a N c, undef, .string ⟨#[]⟩, .pointer (some ⟨w.heap.size, 0, none⟩), x, .slice a N c, .func (.func 44) #[] #[.pointer (some ⟨w.heap.size + 1, 0, none⟩)], x, undef, undef, undef, undef, undef], defers := [] }) ?assign ?body ?done
  case hIb =>
    rintro k S A A' ⟨hr, hB, hS⟩ hBB
    exact ⟨dr_same hr (hBB.block _ hS), hB.trans (hBB.mono (by omega)), hS⟩
  case hIo =>
    rintro k S W r o o' hr0 ⟨hr, hB, hS⟩ ho hc
    refine ⟨dr_same hr (World.putObj_heap_other ?_), below_put hB (by omega) _, hS⟩
    omega
  case assign =>
    intro l2 x W K hK
    gi_wp2
    exact hK
  case body =>
    intro l2 k S b V hI hSb hk hdr
    obtain ⟨hr, hB, hS⟩ := id hI
    obtain ⟨q0, q1, q2, q3, q4, q5, q6, q7, hq⟩ := eight (lv_len (g0 l) (g0_len l) k 0)
    have hp := cnt_pos N k
    have hdq : ∀ i, i < 8 → V.cell? ⟨b, i, none⟩ = some (.int .u8 (([q0, q1, q2, q3, q4, q5, q6, q7] : List UInt8).getD i 0).toNat) := fun i hi => by
      have := (hdr 0 hp i hi).1
      rw [hq] at this
      simpa using this
    have cq0 : V.cell? ⟨b, 0, none⟩ = some (.int .u8 q0.toNat) := hdq 0 (by omega)
    have cq1 : V.cell? ⟨b, 1, none⟩ = some (.int .u8 q1.toNat) := hdq 1 (by omega)
    have cq2 : V.cell? ⟨b, 2, none⟩ = some (.int .u8 q2.toNat) := hdq 2 (by omega)
    have cq3 : V.cell? ⟨b, 3, none⟩ = some (.int .u8 q3.toNat) := hdq 3 (by omega)
    have cq4 : V.cell? ⟨b, 4, none⟩ = some (.int .u8 q4.toNat) := hdq 4 (by omega)
    have cq5 : V.cell? ⟨b, 5, none⟩ = some (.int .u8 q5.toNat) := hdq 5 (by omega)
    have cq6 : V.cell? ⟨b, 6, none⟩ = some (.int .u8 q6.toNat) := hdq 6 (by omega)
    have cq7 : V.cell? ⟨b, 7, none⟩ = some (.int .u8 q7.toNat) := hdq 7 (by omega)
    have z0 : ∃ v, V.cell? ⟨w.heap.size, 0, none⟩ = some (.int .u8 v) := ⟨_, by have := (hr 0 (by omega) 0 (by omega)).1; simpa using this⟩
    have f0 : V.frozen? ⟨w.heap.size, 0, none⟩ = false := by have := (hr 0 (by omega) 0 (by omega)).2; simpa using this
    obtain ⟨v0, z0⟩ := z0
    have z1 : ∃ v, V.cell? ⟨w.heap.size, 1, none⟩ = some (.int .u8 v) := ⟨_, by have := (hr 0 (by omega) 1 (by omega)).1; simpa using this⟩
    have f1 : V.frozen? ⟨w.heap.size, 1, none⟩ = false := by have := (hr 0 (by omega) 1 (by omega)).2; simpa using this
    obtain ⟨v1, z1⟩ := z1
    have z2 : ∃ v, V.cell? ⟨w.heap.size, 2, none⟩ = some (.int .u8 v) := ⟨_, by have := (hr 0 (by omega) 2 (by omega)).1; simpa using this⟩
    have f2 : V.frozen? ⟨w.heap.size, 2, none⟩ = false := by have := (hr 0 (by omega) 2 (by omega)).2; simpa using this
    obtain ⟨v2, z2⟩ := z2
    have z3 : ∃ v, V.cell? ⟨w.heap.size, 3, none⟩ = some (.int .u8 v) := ⟨_, by have := (hr 0 (by omega) 3 (by omega)).1; simpa using this⟩
    have f3 : V.frozen? ⟨w.heap.size, 3, none⟩ = false := by have := (hr 0 (by omega) 3 (by omega)).2; simpa using this
    obtain ⟨v3, z3⟩ := z3
    have z4 : ∃ v, V.cell? ⟨w.heap.size, 4, none⟩ = some (.int .u8 v) := ⟨_, by have := (hr 0 (by omega) 4 (by omega)).1; simpa using this⟩
    have f4 : V.frozen? ⟨w.heap.size, 4, none⟩ = false := by have := (hr 0 (by omega) 4 (by omega)).2; simpa using this
    obtain ⟨v4, z4⟩ := z4
    have z5 : ∃ v, V.cell? ⟨w.heap.size, 5, none⟩ = some (.int .u8 v) := ⟨_, by have := (hr 0 (by omega) 5 (by omega)).1; simpa using this⟩
    have f5 : V.frozen? ⟨w.heap.size, 5, none⟩ = false := by have := (hr 0 (by omega) 5 (by omega)).2; simpa using this
    obtain ⟨v5, z5⟩ := z5
    have z6 : ∃ v, V.cell? ⟨w.heap.size, 6, none⟩ = some (.int .u8 v) := ⟨_, by have := (hr 0 (by omega) 6 (by omega)).1; simpa using this⟩
    have f6 : V.frozen? ⟨w.heap.size, 6, none⟩ = false := by have := (hr 0 (by omega) 6 (by omega)).2; simpa using this
    obtain ⟨v6, z6⟩ := z6
    have z7 : ∃ v, V.cell? ⟨w.heap.size, 7, none⟩ = some (.int .u8 v) := ⟨_, by have := (hr 0 (by omega) 7 (by omega)).1; simpa using this⟩
    have f7 : V.frozen? ⟨w.heap.size, 7, none⟩ = false := by have := (hr 0 (by omega) 7 (by omega)).2; simpa using this
    obtain ⟨v7, z7⟩ := z7
    have NX := Lib.hid (fun V' hV => ri_next hI hSb hq V' hV)
    simp only [sl]
    clear hdq hdr hr hq hI
    generalize cnt N k = m at *
    have hp2 : (0 : Int) < m := by omega
    gi_wp2
    exact NX.out _ rfl
  case done =>
    rintro D S W ⟨hr, hB, hS⟩ hD hK
    have T := Lib.hid (text_any (lv (g0 l) (ht N) 0) (lv_len (g0 l) (g0_len l) (ht N) 0))
    obtain ⟨q0, q1, q2, q3, q4, q5, q6, q7, hq⟩ := eight (lv_len (g0 l) (g0_len l) (ht N) 0)
    have hdq : ∀ i, i < 8 → W.cell? ⟨w.heap.size, i, none⟩ = some (.int .u8 (([q0, q1, q2, q3, q4, q5, q6, q7] : List UInt8).getD i 0).toNat) := fun i hi => by
      have := (hr 0 (by omega) i hi).1
      rw [show rootAt (g0 l) (ht N + 1) = lv (g0 l) (ht N) 0 from rfl, hq] at this
      simpa using this
    have cq0 : W.cell? ⟨w.heap.size, 0, none⟩ = some (.int .u8 q0.toNat) := hdq 0 (by omega)
    have cq1 : W.cell? ⟨w.heap.size, 1, none⟩ = some (.int .u8 q1.toNat) := hdq 1 (by omega)
    have cq2 : W.cell? ⟨w.heap.size, 2, none⟩ = some (.int .u8 q2.toNat) := hdq 2 (by omega)
    have cq3 : W.cell? ⟨w.heap.size, 3, none⟩ = some (.int .u8 q3.toNat) := hdq 3 (by omega)
    have cq4 : W.cell? ⟨w.heap.size, 4, none⟩ = some (.int .u8 q4.toNat) := hdq 4 (by omega)
    have cq5 : W.cell? ⟨w.heap.size, 5, none⟩ = some (.int .u8 q5.toNat) := hdq 5 (by omega)
    have cq6 : W.cell? ⟨w.heap.size, 6, none⟩ = some (.int .u8 q6.toNat) := hdq 6 (by omega)
    have cq7 : W.cell? ⟨w.heap.size, 7, none⟩ = some (.int .u8 q7.toNat) := hdq 7 (by omega)
    generalize hres : B (lv (g0 l) (ht N) 0) = res at *
    rw [hq, dval8] at T
    clear hdq hr hq
    gi_wp2_with (refine ⟨trivial, ?_⟩; gi_at_call 32; refine (callsIn_wide.2 (T.out _)).mono ?_; rintro e w3 ⟨rfl, hB3⟩)
    have hK3 : w3.heap[D]? = some (.deferred (some [])) := (hB3.block _ (Array.getElem?_eq_some_iff.1 hK).1).trans hK
    refine ⟨by simp, .inl ⟨_, _, rfl, run_takeDeferred hK3, ?_⟩⟩
    exact ⟨_, results_tmp rfl _ _ _, by rw [hres]; rfl, below_put (bt hB hB3) (by omega) _⟩
end Go.Proofs.Ytflpemagbempaaa.Dg
