/-
  Layer 3 (digest): Prove.
-/
import Derived.Test.YtflpemagbempaaaDgL
namespace Go.Proofs.Ytflpemagbempaaa.Dg
open Go.RowKit Go.Shelf
attribute [local go_sem] Oper.semAt_some
/-- The neighbour's index. -/
def nb (j : Nat) : Nat := if j % 2 = 0 then j + 1 else j - 1
theorem nb_lt {j m : Nat} (h : j < 2 * m) : nb j < 2 * m := by unfold nb; split <;> omega
def pfl (l : List ByteArray) (H i : Nat) : List ByteArray := (List.range H).map (fun k => B (lv (g0 l) k (nb (i / 2 ^ k))))
theorem pfl_length (l : List ByteArray) (H i : Nat) : (pfl l H i).length = H := by simp [pfl]
set_option maxRecDepth 100000 in
set_option maxHeartbeats 4000000 in
theorem Prove_no (i : Int) (a : Option Addr) (N c : Nat) (hi : i < 0 ∨ (N : Int) ≤ i) (w : World) :
    Calls Try.prog 23 #[.slice a N c, .int .i64 i] w fun e w' => e = .returned (.tuple #[.slice none 0 0, .bool false]) ∧ Below w.heap.size w w' := by
  rcases hi with hi | hi
  · go_enter Try.func23, Try.ntmps23
    go_wp2_with fail
    refine bodyPost_ret (v := .tuple #[.slice none 0 0, .bool false]) (by simp [results, Try.results23, go_sem]) rfl ⟨rfl, by go_grown⟩
  · rcases Int.lt_or_le i 0 with h0 | h0
    · go_enter Try.func23, Try.ntmps23
      go_wp2_with fail
      refine bodyPost_ret (v := .tuple #[.slice none 0 0, .bool false]) (by simp [results, Try.results23, go_sem]) rfl ⟨rfl, by go_grown⟩
    · go_enter Try.func23, Try.ntmps23
      go_wp2_with fail
      refine bodyPost_ret (v := .tuple #[.slice none 0 0, .bool false]) (by simp [results, Try.results23, go_sem]) rfl ⟨rfl, by go_grown⟩
theorem infoS : (Try.prog.info? 9).map (fun i => (i.zero, i.size, i.bytes)) = some (some (.string ⟨#[]⟩), 1, 16) := by kernel_rfl
/-- One string more in a row of one's own. -/
theorem app_str (W : World) (base : Nat) (v : Value) (n : Nat) (xs : List Value) (hown : W.ownsRow base 9 1 v n xs) (hn : n ≤ 1000000) (hb : base ≤ W.heap.size) (s : ByteArray) :
    ∃ v' w', (Builtin.append_ #[28, 28] 28 #[v, .slice (some ⟨W.heap.size, 0, none⟩) 1 1]).run Try.prog (W.alloc (.cells #[.string s] 9)) = .ok v' w' ∧
      w'.ownsRow base 9 1 v' (n + 1) (xs ++ [.string s]) ∧ (W.alloc (.cells #[.string s] 9)).grownBy w' v.ownBlock := by
  obtain ⟨i0, hi, hz0, hz1, hz2⟩ := info_parts infoS
  obtain ⟨v', w', h1, h2, h3, _⟩ := run_append_own (P := Try.prog) (W.alloc (.cells #[.string s] 9)) base 28 28 9 i0 (.string ⟨#[]⟩) 1 16 Try.underlying28 hi hz0 hz1 hz2 rfl (by decide) v n xs (hown.alloc _)
    ⟨W.heap.size, 0, none⟩ 1 1 [.string s] rfl (by
      intro j u hj
      match j, hj with
      | 0, hj => simp at hj; subst hj; simp [Addr.add]) (by intro u hu; simp at hu; subst hu; rfl) (by unfold maxLen; omega) (by omega) (by simp; omega)
  exact ⟨v', w', h1, h2, h3⟩
theorem nat_xor_nb (j : Nat) : j ^^^ 1 = nb j := by
  have h1 : (j ^^^ 1) / 2 = j / 2 := by rw [Nat.xor_div_two]; simp
  have h2 : (j ^^^ 1) % 2 = (j + 1) % 2 := by
    have h := Nat.xor_mod_two_pow (a := j) (b := 1) (n := 1)
    simp only [Nat.pow_one] at h
    rw [h]
    have : j % 2 = 0 ∨ j % 2 = 1 := by omega
    rcases this with e | e
    · rw [e]; have : (j + 1) % 2 = 1 := by omega
      rw [this]; rfl
    · rw [e]; have : (j + 1) % 2 = 0 := by omega
      rw [this]; rfl
  unfold nb
  split <;> omega
theorem int_xor_nb (j : Nat) (h : j < 4611686018427387904) : bits .xor .i64 (j : Int) 1 = (nb j : Int) := by
  have h1 : (BitVec.ofInt 64 (j : Int)).toNat = j := by
    rw [BitVec.ofInt_natCast, BitVec.toNat_ofNat]; exact Nat.mod_eq_of_lt (by omega)
  have h2 : (BitVec.ofInt 64 1).toNat = 1 := rfl
  have hn : nb j < 9223372036854775808 := by unfold nb; split <;> omega
  show IntKind.i64.wrap ((BitVec.ofInt 64 (j : Int) ^^^ BitVec.ofInt 64 1).toNat : Int) = _
  rw [BitVec.toNat_xor, h1, h2, nat_xor_nb, IntKind.wrap_i64]
  omega
theorem owns_same {W A : World} {base e size n : Nat} {v : Value} {xs : List Value} (h : W.ownsRow base e size v n xs) (hs : ∀ g, v.ownBlock = some g → A.heap[g]? = W.heap[g]?) : A.ownsRow base e size v n xs := by
  obtain ⟨h1, h2⟩ := h
  refine ⟨h1, ?_⟩
  rcases h2 with h2 | ⟨g, cap, cur, hv, hb, hh, hr⟩
  · exact .inl h2
  · exact .inr ⟨g, cap, cur, hv, hb, by rw [hs g (by rw [hv]; rfl)]; exact hh, hr⟩
theorem owns_base {W : World} {base b e size n : Nat} {v : Value} {xs : List Value} (hb : b ≤ base) (h : W.ownsRow base e size v n xs) : W.ownsRow b e size v n xs := by
  obtain ⟨h1, h2⟩ := h
  refine ⟨h1, ?_⟩
  rcases h2 with h2 | ⟨g, cap, cur, hv, hb2, hr⟩
  · exact .inl h2
  · exact .inr ⟨g, cap, cur, hv, by omega, hr⟩
theorem idx_lt {N i k : Nat} (hi : i < N) (hk : k ≤ ht N) : i / 2 ^ k < cnt N k := by
  have h1 := ht_le N
  unfold cnt
  rw [Nat.div_lt_iff_lt_mul (Nat.pow_pos (by omega)), ← Nat.pow_add, show ht N - k + k = ht N by omega]
  omega
theorem g4c {w3 w4 : World} {o : Obj} {r : Option Nat} (h : (w3.alloc o).grownBy w4 r) {b : Nat} {v : Value} (hc : w3.cell? ⟨b, 0, none⟩ = some v) (hn : r ≠ some b) : w4.cell? ⟨b, 0, none⟩ = some v := by
  have hlt := block_lt_of_cell hc
  have e : w4.heap[b]? = w3.heap[b]? := (h.block b (by rw [World.size_alloc]; exact Nat.lt_succ_of_lt hlt) (by first | exact hn | exact fun e => hn e.symm)).trans (Below.heap_alloc _ _ _ hlt)
  unfold World.cell? at hc ⊢
  rw [e]; exact hc
theorem g4f {w3 w4 : World} {o : Obj} {r : Option Nat} (h : (w3.alloc o).grownBy w4 r) {b : Nat} {v : Value} {t : Bool} (hc : w3.cell? ⟨b, 0, none⟩ = some v) (hf : w3.frozen? ⟨b, 0, none⟩ = t) (hn : r ≠ some b) : w4.frozen? ⟨b, 0, none⟩ = t := by
  have hlt := block_lt_of_cell hc
  have e : w4.heap[b]? = w3.heap[b]? := (h.block b (by rw [World.size_alloc]; exact Nat.lt_succ_of_lt hlt) (by first | exact hn | exact fun e => hn e.symm)).trans (Below.heap_alloc _ _ _ hlt)
  unfold World.frozen? at hf ⊢
  rw [e]; exact hf
theorem owns_cells {W : World} {base e size n g : Nat} {v : Value} {xs : List Value} (h : W.ownsRow base e size v n xs) (hg : v.ownBlock = some g) : ∃ o, W.heap[g]? = some o ∧ o.isCells = true := by
  rcases h.2 with ⟨rfl, _⟩ | ⟨g', cap, cur, hv, hb, hh, hr⟩
  · simp [Value.ownBlock] at hg
  · rw [hv] at hg; cases hg; exact ⟨_, hh, rfl⟩
/-- Between two rounds of Prove: the index, and what has been laid in the proof. -/
structure PI (l : List ByteArray) (H i : Nat) (w : World) (base k S : Nat) (W : World) (v : Value) : Prop where
  cp : W.cell? ⟨w.heap.size + 1, 0, none⟩ = some v
  fp : W.frozen? ⟨w.heap.size + 1, 0, none⟩ = false
  ci : W.cell? ⟨w.heap.size, 0, none⟩ = some (.int .i64 ((i / 2 ^ k : Nat) : Int))
  fi : W.frozen? ⟨w.heap.size, 0, none⟩ = false
  own : W.ownsRow base 9 1 v (min k H) (((pfl l H i).take k).map Value.string)
  lt : ∀ g, v.ownBlock = some g → g < S
  sz : w.heap.size + 1 < S
  bl : Below w.heap.size w W
theorem pi_later {l : List ByteArray} {H i : Nat} {w : World} {base k S : Nat} {A A' : World} {v : Value} (h : PI l H i w base k S A v) (hB : Below S A A') : PI l H i w base k S A' v :=
  ⟨kc hB h.sz h.cp, kf hB h.sz h.fp, kc hB (by have := h.sz; omega) h.ci, kf hB (by have := h.sz; omega) h.fi, owns_same h.own (fun g hg => hB.block _ (h.lt g hg)), h.lt, h.sz, h.bl.trans (hB.mono (by have := h.sz; omega))⟩
theorem put_cell {W : World} {b o r : Nat} {x : Obj} {v : Value} (hc : W.cell? ⟨b, o, none⟩ = some v) (hr : b ≠ r) : (W.putObj r x).cell? ⟨b, o, none⟩ = some v := by
  unfold World.cell? at hc ⊢
  rw [World.putObj_heap_other (by first | exact hr | exact hr.symm)]; exact hc
theorem put_frozen {W : World} {b o r : Nat} {x : Obj} {v : Bool} (hc : W.frozen? ⟨b, o, none⟩ = v) (hr : b ≠ r) : (W.putObj r x).frozen? ⟨b, o, none⟩ = v := by
  unfold World.frozen? at hc ⊢
  rw [World.putObj_heap_other (by first | exact hr | exact hr.symm)]; exact hc
theorem pi_put {l : List ByteArray} {H i : Nat} {w : World} {base k S r : Nat} {W : World} {v : Value} {o : Obj} (o' : Obj) (hr : w.heap.size + 1 < r) (h : PI l H i w base k S W v) (ho : W.heap[r]? = some o) (hc : o.isCells = false) : PI l H i w base k S (W.putObj r o') v :=
  ⟨put_cell h.cp (by omega), put_frozen h.fp (by omega), put_cell h.ci (by omega), put_frozen h.fi (by omega), owns_same h.own (fun g hg => World.putObj_heap_other (by
    obtain ⟨o2, ho2, hc2⟩ := owns_cells h.own hg
    rintro rfl
    rw [ho] at ho2; cases ho2; rw [hc] at hc2; cases hc2)), h.lt, h.sz, below_put h.bl (by omega) _⟩
theorem mid_facts {w V w3 : World} {v x : Value} {n : Nat} {xs : List Value} (cp : V.cell? ⟨w.heap.size + 1, 0, none⟩ = some v) (fp : V.frozen? ⟨w.heap.size + 1, 0, none⟩ = false) (ci : V.cell? ⟨w.heap.size, 0, none⟩ = some x) (fi : V.frozen? ⟨w.heap.size, 0, none⟩ = false)
    (hown : V.ownsRow (w.heap.size + 1 + 1 + 1) 9 1 v n xs) (hB3 : Below V.drew.heap.size V.drew w3) (hV : w.heap.size + 1 + 1 + 1 ≤ V.heap.size) (hn : n ≤ 1000000) (s : ByteArray) :
    ∃ g' cap' v' w4, v' = .slice (some ⟨g', 0, none⟩) (n + 1) cap' ∧ (Builtin.append_ #[28, 28] 28 #[v, .slice (some ⟨w3.heap.size, 0, none⟩) 1 1]).run Try.prog (w3.alloc (.cells #[.string s] 9)) = .ok v' w4 ∧ Below V.heap.size V w3 ∧ w3.cell? ⟨w.heap.size + 1, 0, none⟩ = some v ∧ (w3.alloc (.cells #[.string s] 9)).cell? ⟨w.heap.size + 1, 0, none⟩ = some v ∧
      w4.ownsRow (w.heap.size + 1 + 1 + 1) 9 1 v' (n + 1) (xs ++ [.string s]) ∧ (w3.alloc (.cells #[.string s] 9)).grownBy w4 v.ownBlock ∧
      w4.cell? ⟨w.heap.size + 1, 0, none⟩ = some v ∧ w4.frozen? ⟨w.heap.size + 1, 0, none⟩ = false ∧ w4.cell? ⟨w.heap.size, 0, none⟩ = some x ∧ w4.frozen? ⟨w.heap.size, 0, none⟩ = false := by
  have hb3' : Below V.heap.size V w3 := ⟨hB3.os, hB3.tape, hB3.output, hB3.size, hB3.block⟩
  have cp3 := kc hb3' (block_lt_of_cell cp) cp
  have ci3 := kc hb3' (block_lt_of_cell ci) ci
  have fp3 := kf hb3' (block_lt_of_cell cp) fp
  have fi3 := kf hb3' (block_lt_of_cell ci) fi
  have own3 := owns_same (A := w3) hown (fun g hg => hb3'.block g (hown.lt g hg).2)
  have hz3 := hb3'.size
  obtain ⟨v', w4, hr4, hown4, hgrow4⟩ := app_str w3 (w.heap.size + 1 + 1 + 1) v n xs own3 hn (by omega) s
  have n1 : v.ownBlock ≠ some (w.heap.size + 1) := fun e => by have := (hown.lt _ e).1; omega
  have n0 : v.ownBlock ≠ some w.heap.size := fun e => by have := (hown.lt _ e).1; omega
  obtain ⟨g', cap', rfl⟩ := ownsRow_succ hown4
  exact ⟨g', cap', _, w4, rfl, hr4, hb3', cp3, kc ((Below.refl w3.heap.size w3).alloc (Nat.le_refl _) _) (block_lt_of_cell cp3) cp3, hown4, hgrow4, g4c hgrow4 cp3 n1, g4f hgrow4 cp3 fp3 n1, g4c hgrow4 ci3 n0, g4f hgrow4 ci3 fi3 n0⟩
/-- Behind a round that lays one element more. -/
theorem pi_next {l : List ByteArray} {H i : Nat} {w : World} {base k S b : Nat} {V w3 w4 : World} {v v' : Value} {s : ByteArray} (h : PI l H i w base k S V v) (hk : k < H) (hb : S ≤ b) (hbV : b < V.heap.size) (hbase : w.heap.size + 1 < base)
    (hs : s = B (lv (g0 l) k (nb (i / 2 ^ k)))) (hB3 : Below V.heap.size V w3) (hown : w4.ownsRow base 9 1 v' (min k H + 1) (((pfl l H i).take k).map Value.string ++ [.string s])) (hgrow : (w3.alloc (.cells #[.string s] 9)).grownBy w4 v.ownBlock) (V' : World)
    (hV : V' = (w4.setCell ⟨w.heap.size + 1, 0, none⟩ v').setCell ⟨w.heap.size, 0, none⟩ (.int .i64 ((i / 2 ^ (k + 1) : Nat) : Int))) :
    KeepsOthers V V' ∧ (∃ S', S' ≤ V'.heap.size ∧ ∃ v, PI l H i w base (k + 1) S' V' v) ∧ V'.heap[b]? = V.heap[b]? := by
  have hB4 : Below V.heap.size V (w3.alloc (.cells #[.string s] 9)) := ba hB3 _
  have hsz4 : V.heap.size ≤ w4.heap.size := Nat.le_trans hB4.size hgrow.size
  have hown3 : ∀ g, v.ownBlock = some g → base ≤ g ∧ g < S := fun g hg => ⟨(h.own.lt g hg).1, h.lt g hg⟩
  have hkeep : ∀ g, g < V.heap.size → v.ownBlock ≠ some g → w4.heap[g]? = V.heap[g]? := fun g hg hne => (hgrow.block g (Nat.lt_of_lt_of_le hg hB4.size) (by first | exact hne | exact fun e => hne e.symm)).trans (hB4.block g hg)
  have hSV : w.heap.size + 1 < V.heap.size := block_lt_of_cell h.cp
  have n1 : v.ownBlock ≠ some (w.heap.size + 1) := fun e => by have := hown3 _ e; omega
  have n0 : v.ownBlock ≠ some w.heap.size := fun e => by have := hown3 _ e; omega
  have nb' : v.ownBlock ≠ some b := fun e => by have := hown3 _ e; omega
  have c1 : w4.cell? ⟨w.heap.size + 1, 0, none⟩ = some v := by have := h.cp; unfold World.cell? at this ⊢; rw [hkeep _ hSV n1]; exact this
  have f1 : w4.frozen? ⟨w.heap.size + 1, 0, none⟩ = false := by have := h.fp; unfold World.frozen? at this ⊢; rw [hkeep _ hSV n1]; exact this
  have c0 : w4.cell? ⟨w.heap.size, 0, none⟩ = some (.int .i64 ((i / 2 ^ k : Nat) : Int)) := by have := h.ci; unfold World.cell? at this ⊢; rw [hkeep _ (by omega) n0]; exact this
  have f0 : w4.frozen? ⟨w.heap.size, 0, none⟩ = false := by have := h.fi; unfold World.frozen? at this ⊢; rw [hkeep _ (by omega) n0]; exact this
  have hv' := hown.lt
  subst hV
  have e : ∀ (X : World) (r : Nat) (v : Value) (g : Nat), g ≠ r → (X.setCell ⟨r, 0, none⟩ v).heap[g]? = X.heap[g]? := fun X r v g hb => Below.heap_setCell X _ v g (by first | exact hb | exact fun e => hb e | exact fun e => hb e.symm)
  refine ⟨?_, ⟨_, Nat.le_refl _, v', ?_⟩, ?_⟩
  · refine KeepsOthers.trans ?_ ((KeepsOthers.setCell _ _ _).trans (KeepsOthers.setCell _ _ _))
    refine ⟨hsz4, fun g o hg ho => ?_⟩
    have hlt := (Array.getElem?_eq_some_iff.1 hg).1
    refine (hkeep g hlt (fun e => ?_)).trans hg
    obtain ⟨o2, ho2, hc2⟩ := owns_cells h.own e
    rw [hg] at ho2; cases ho2; rw [ho] at hc2; cases hc2
  · have hbl : Below w.heap.size w w4 := by
      have hA := bt h.bl hB4
      exact hA.grown hgrow hA.size (fun g hg => by have := (hown3 g hg).1; omega)
    refine ⟨?_, ?_, ?_, ?_, ?_, ?_, ?_, bs (bs hbl (by simp) _) (by simp) _⟩
    · rw [World.cell?_setCell_other _ _ _ _ (by intro e; injection e; omega)]
      exact World.cell?_setCell_same _ _ _ c1
    · simp only [World.frozen?_setCell]; exact f1
    · exact World.cell?_setCell_same _ _ _ (by rw [World.cell?_setCell_other _ _ _ _ (by intro e; injection e; omega)]; exact c0)
    · simp only [World.frozen?_setCell]; exact f0
    · have hm : min k H + 1 = min (k + 1) H := by omega
      rw [hm] at hown
      rw [List.take_succ_eq_append_getElem (by rw [pfl_length]; exact hk), List.map_append]
      have hx : (pfl l H i)[k]'(by rw [pfl_length]; exact hk) = s := by rw [hs]; simp [pfl]
      rw [hx]
      refine owns_same hown (fun g hg => ?_)
      have := (hv' g hg).1
      have g0 : g ≠ w.heap.size := by omega
      have g1 : g ≠ w.heap.size + 1 := by omega
      rw [e _ _ _ _ g0, e _ _ _ _ g1]
    · intro g hg
      simpa [World.size_setCell] using (hv' g hg).2
    · simp only [World.size_setCell]; omega
  · have hsz := h.sz
    have b0 : b ≠ w.heap.size := by omega
    have b1 : b ≠ w.heap.size + 1 := by omega
    rw [e _ _ _ _ b0, e _ _ _ _ b1, hkeep b hbV nb']
/-- Behind the last round. -/
theorem pi_last {l : List ByteArray} {H i : Nat} {w : World} {base k S b : Nat} {V : World} {v : Value} (h : PI l H i w base k S V v) (hk : k = H) (hb : S ≤ b) (hbV : b < V.heap.size) (hbase : w.heap.size + 1 < base) (V' : World)
    (hV : V' = V.setCell ⟨w.heap.size, 0, none⟩ (.int .i64 ((i / 2 ^ (k + 1) : Nat) : Int))) :
    KeepsOthers V V' ∧ (∃ S', S' ≤ V'.heap.size ∧ ∃ v, PI l H i w base (k + 1) S' V' v) ∧ V'.heap[b]? = V.heap[b]? := by
  subst hV
  have hsz := h.sz
  have e : ∀ (X : World) (r : Nat) (v : Value) (g : Nat), g ≠ r → (X.setCell ⟨r, 0, none⟩ v).heap[g]? = X.heap[g]? := fun X r v g hb => Below.heap_setCell X _ v g (by first | exact hb | exact fun e => hb e | exact fun e => hb e.symm)
  refine ⟨KeepsOthers.setCell _ _ _, ⟨S, by simp only [World.size_setCell]; omega, v, ?_, ?_, ?_, ?_, ?_, h.lt, h.sz, bs h.bl (Nat.le_refl _) _⟩, e _ _ _ _ (by omega)⟩
  · rw [World.cell?_setCell_other _ _ _ _ (by intro e; injection e; omega)]; exact h.cp
  · simp only [World.frozen?_setCell]; exact h.fp
  · exact World.cell?_setCell_same _ _ _ h.ci
  · simp only [World.frozen?_setCell]; exact h.fi
  · have h1 : min (k + 1) H = min k H := by omega
    rw [h1, List.take_of_length_le (show (pfl l H i).length ≤ k + 1 by rw [pfl_length]; omega), ← List.take_of_length_le (show (pfl l H i).length ≤ k by rw [pfl_length]; omega)]
    exact owns_same h.own (fun g hg => e _ _ _ _ (by have := (h.own.lt g hg).1; omega))
set_option maxRecDepth 100000 in
set_option maxHeartbeats 4000000 in
theorem Prove_any (l : List ByteArray) (a : Option Addr) (N c i : Nat) (hN : l.length = N) (hs : N ≤ 1000000) (hz : ∀ s ∈ l, s.size ≤ 100000) (hi : i < N) (w : World) (hl : StrsAt w a l) :
    Calls Try.prog 23 #[.slice a N c, .int .i64 i] w fun e w' => ∃ v, e = .returned (.tuple #[v, .bool true]) ∧ w'.ownsRow w.heap.size 9 1 v (ht N) ((pfl l (ht N) i).map Value.string) ∧ Below w.heap.size w w' := by
  refine (callsIn_wide (n := 5)).1 ?_
  have LV := Lib.hid (levels_any a N c)
  have b1 : (0 : Int) ≤ i := by omega
  have b2 : (i : Int) < N := by omega
  have d0 : decide ((i : Int) < 0) = false := decide_eq_false (by omega)
  refine callsIn_of_wp_marks Try.func23 rfl trivial ?_ rfl
  simp only [Try.ntmps23, List.size_toArray, List.length_cons, List.length_nil, Nat.reduceAdd, Nat.reduceSub, Array.replicate_succ, Array.replicate_zero, List.push_toArray, List.append_toArray, List.nil_append, List.cons_append]
  gi_wp2_with (refine ⟨trivial, ?_⟩; gi_at_call 37; refine (callsIn_wide.2 (LV.out _)).mono ?_; rintro e w1 ⟨rfl, rfl⟩)
  have hbox0 : (((w.alloc (.cells #[.int .i64 i] 3)).alloc (.cells #[.slice none 0 0] 28)).alloc (.cells #[.slice a N c] 28)).cell? ⟨w.heap.size + 1 + 1, 0, none⟩ = some (.slice a N c) := by go_cell
  have cp0 : (((w.alloc (.cells #[.int .i64 i] 3)).alloc (.cells #[.slice none 0 0] 28)).alloc (.cells #[.slice a N c] 28)).cell? ⟨w.heap.size + 1, 0, none⟩ = some (.slice none 0 0) := by go_cell
  have fp0 : (((w.alloc (.cells #[.int .i64 i] 3)).alloc (.cells #[.slice none 0 0] 28)).alloc (.cells #[.slice a N c] 28)).frozen? ⟨w.heap.size + 1, 0, none⟩ = false := by go_cell
  have ci0 : (((w.alloc (.cells #[.int .i64 i] 3)).alloc (.cells #[.slice none 0 0] 28)).alloc (.cells #[.slice a N c] 28)).cell? ⟨w.heap.size, 0, none⟩ = some (.int .i64 i) := by go_cell
  have fi0 : (((w.alloc (.cells #[.int .i64 i] 3)).alloc (.cells #[.slice none 0 0] 28)).alloc (.cells #[.slice a N c] 28)).frozen? ⟨w.heap.size, 0, none⟩ = false := by go_cell
  have hB0 : Below w.heap.size w (((w.alloc (.cells #[.int .i64 i] 3)).alloc (.cells #[.slice none 0 0] 28)).alloc (.cells #[.slice a N c] 28)) := ba (ba (ba (Below.refl _ _) _) _) _
  have hs0 : (((w.alloc (.cells #[.int .i64 i] 3)).alloc (.cells #[.slice none 0 0] 28)).alloc (.cells #[.slice a N c] 28)).heap.size = w.heap.size + 1 + 1 + 1 := by simp
  generalize (((w.alloc (.cells #[.int .i64 i] 3)).alloc (.cells #[.slice none 0 0] 28)).alloc (.cells #[.slice a N c] 28)) = W0 at *
  refine range_levels (n := 5) (gf := 44) (lb := #[.pointer (some ⟨w.heap.size + 1 + 1, 0, none⟩)]) (by omega) rfl (enters_of Try.func44 (by kernel_rfl) rfl) rfl (fun k => lv (g0 l) k) (fun k => cnt N k) (ht N) (fun k _ => cnt_pos N k)
    (fun rec J W hB hY h0 => levels_in 4 (by omega) l a N c (w.heap.size + 1 + 1) hN hs hz rec J W (kc hB (by omega) hbox0) (sat_below (sat_below hl hB0) hB) hY h0)
    (fun k S W => ∃ v, PI l (ht N) i w (w.heap.size + 1 + 1 + 1) k S W v) ?hIb ?hIo
    ⟨.slice none 0 0, cp0, fp0, by simpa using ci0, fi0, by simpa using World.ownsRow_nil _ _ _ _, fun g hg => by simp [Value.ownBlock] at hg, by omega, hB0⟩
    (fun x => { tmps := #[.slice a N c, .int .i64 i, undef, .pointer (some ⟨w.heap.size, 0, none⟩), .slice none 0 0, .bool false, .pointer (some ⟨w.heap.size + 1, 0, none⟩), x, .int .i64 i, .bool false, .bool false, .int .i64 i, .slice a N c, .int .i64 N, .bool false, .bool false, .slice a N c,
      .func (.func 44) #[] #[.pointer (some ⟨w.heap.size + 1 + 1, 0, none⟩)], x, undef, undef, undef, undef, undef, undef, undef, undef, undef, undef, undef, undef, undef, undef, undef], defers := [] }) ?assign ?body ?done
  case hIb =>
    rintro k S A A' ⟨v, h⟩ hBB
    exact ⟨v, pi_later h hBB⟩
  case hIo =>
    rintro k S W r o o' hr0 ⟨v, h⟩ ho hc
    exact ⟨v, pi_put o' (by omega) h ho hc⟩
  case assign =>
    intro l2 x W K hK
    gi_wp2
    exact hK
  case body =>
    rintro l2 k S b V ⟨v, hI⟩ hSb hk hdr
    have hbV : b < V.heap.size := block_lt_of_cell (hdr 0 (cnt_pos N k) 0 (by omega)).1
    have hp := cnt_pos N k
    have hpw : i / 2 ^ (k + 1) = i / 2 ^ k / 2 := by rw [Nat.pow_succ, Nat.div_div_eq_div_mul]
    have cp := hI.cp
    have fp := hI.fp
    have ci := hI.ci
    have fi := hI.fi
    simp only [sl]
    rcases Nat.lt_or_ge k (ht N) with h | h
    · have hkm : min k (ht N) + 1 = min (k + 1) (ht N) := by omega
      have hjl := idx_lt hi hk
      rw [cnt_next h] at hdr hjl
      rw [cnt_next h]
      have NX := Lib.hid (fun w3 w4 v' s => pi_next (w3 := w3) (w4 := w4) (v' := v') (s := s) hI h hSb hbV (by omega))
      rw [hpw] at NX
      have hq1 := cnt_pos N (k + 1)
      have hle := cnt_le hs (k + 1)
      generalize cnt N (k + 1) = q at *
      have hj : i / 2 ^ k ≤ i := Nat.div_le_self _ _
      have hlv := lv_len (g0 l) (g0_len l) k (nb (i / 2 ^ k))
      have T := Lib.hid (text_any (lv (g0 l) k (nb (i / 2 ^ k))) hlv)
      have hdx := fun t ht => (hdr (nb (i / 2 ^ k)) (nb_lt hjl) t ht).1
      have hnl := nb_lt hjl
      generalize hs2 : B (lv (g0 l) k (nb (i / 2 ^ k))) = sx at *
      obtain ⟨x0, x1, x2, x3, x4, x5, x6, x7, hx⟩ := eight hlv
      rw [hx] at hdx
      rw [hx, dval8] at T
      have hown := hI.own
      have hSS := hI.sz
      clear hI hdr hx hlv hpw
      generalize i / 2 ^ k = j at *
      have hdv : ((j : Int)).tdiv 2 = ((j / 2 : Nat) : Int) := by rw [Int.tdiv_eq_ediv_of_nonneg (by omega)]; omega
      have g1 : decide ((1 : Int) < 2 * (q : Int)) = true := decide_eq_true (by omega)
      have g2 : decide (1 < 2 * q) = true := decide_eq_true (by omega)
      have g3 : 1 < 2 * q := by omega
      have hxr := int_xor_nb j (by omega)
      have i1 : (0 : Int) ≤ (nb j : Int) := by omega
      have i2 : (nb j : Int) < 2 * (q : Int) := by omega
      have cx0 : V.cell? ⟨b, nb j * 8, none⟩ = some (.int .u8 x0.toNat) := hdx 0 (by omega)
      have cx1 : V.cell? ⟨b, nb j * 8 + 1, none⟩ = some (.int .u8 x1.toNat) := hdx 1 (by omega)
      have cx2 : V.cell? ⟨b, nb j * 8 + 2, none⟩ = some (.int .u8 x2.toNat) := hdx 2 (by omega)
      have cx3 : V.cell? ⟨b, nb j * 8 + 3, none⟩ = some (.int .u8 x3.toNat) := hdx 3 (by omega)
      have cx4 : V.cell? ⟨b, nb j * 8 + 4, none⟩ = some (.int .u8 x4.toNat) := hdx 4 (by omega)
      have cx5 : V.cell? ⟨b, nb j * 8 + 5, none⟩ = some (.int .u8 x5.toNat) := hdx 5 (by omega)
      have cx6 : V.cell? ⟨b, nb j * 8 + 6, none⟩ = some (.int .u8 x6.toNat) := hdx 6 (by omega)
      have cx7 : V.cell? ⟨b, nb j * 8 + 7, none⟩ = some (.int .u8 x7.toNat) := hdx 7 (by omega)
      clear hdx
      have hVs := block_lt_of_cell cp
      have hVb : w.heap.size + 1 + 1 + 1 ≤ V.heap.size := by omega
      have hmin : min k (ht N) = k := by omega
      rw [hmin] at hown NX
      have hkn : k ≤ 1000000 := by have := ht_bound hs; omega
      clear hmin
      clear hbV
      have hmx : Try.prog.follows .mixedOrders = true := by kernel_rfl
      gi_wp2
      gi_region_with_o (refine ⟨trivial, ?_⟩; gi_at_call 32; refine (CallsIn.inRound l2 (callsIn_wide.2 (T.out _))).mono ?_; rintro e w3 ⟨rfl, hB3⟩; obtain ⟨g', cap', v', w4, rfl, hr4, hb3', cp3, cp3a, hown4, hgrow4, cp4, fp4, ci4, fi4⟩ := mid_facts cp fp ci fi hown hB3 hVb hkn sx; simp [go_sem] at hr4)
      all_goals
        gi_wp2
        exact NX.out w3 w4 _ sx rfl hb3' hown4 hgrow4 _ rfl
    · have hkH : k = ht N := by omega
      have NX := Lib.hid (pi_last hI hkH hSb hbV (by omega))
      rw [show cnt N k = 1 by rw [hkH]; exact cnt_last N]
      rw [hpw] at NX
      have hj : i / 2 ^ k ≤ i := Nat.div_le_self _ _
      generalize i / 2 ^ k = j at *
      have hdv : ((j : Int)).tdiv 2 = ((j / 2 : Nat) : Int) := by rw [Int.tdiv_eq_ediv_of_nonneg (by omega)]; omega
      clear hI hdr hbV
      gi_wp2
      exact NX.out _ rfl
  case done =>
    rintro D S W ⟨v, h⟩ hD hK
    have hv := h.own
    rw [show min (ht N + 1) (ht N) = ht N by omega, List.take_of_length_le (by rw [pfl_length]; omega)] at hv
    have cp := h.cp
    gi_wp2
    refine ⟨by simp, .inl ⟨_, _, rfl, run_takeDeferred hK, ?_⟩⟩
    refine ⟨.tuple #[v, .bool true], by simp [results, Try.results23, go_sem], v, rfl, owns_base (by omega) (owns_same hv (fun g hg => World.putObj_heap_other (by
      obtain ⟨o2, ho2, hc2⟩ := owns_cells hv hg
      rintro rfl
      rw [hK] at ho2; cases ho2; cases hc2))), below_put h.bl (by omega) _⟩
end Go.Proofs.Ytflpemagbempaaa.Dg
