/-
  Layer 9 (machine): programs that grow by append.
-/
import Derived.Test.YtdgagjcocohnnaaMcP
namespace Go.Proofs.Ytdgagjcocohnnaa.Mc
open Go.RowKit
theorem infoOp : (Try.prog.info? 45).map (fun i => (i.zero, i.size, i.bytes)) = some (some (.agg #[.int .i64 0, .int .i64 0, .int .i64 0]), 3, 24) := by kernel_rfl
theorem opCells_len : ∀ l : List Opn, (opCells l).length = l.length * 3
  | [] => rfl
  | p :: r => by
    show (opCells r).length + 1 + 1 + 1 = (r.length + 1) * 3
    rw [opCells_len r]
    omega
theorem opCells_app : ∀ l l2 : List Opn, opCells (l ++ l2) = opCells l ++ opCells l2
  | [], _ => rfl
  | p :: r, l2 => by
    show _ :: _ :: _ :: opCells (r ++ l2) = _ :: _ :: _ :: (opCells r ++ opCells l2)
    rw [opCells_app r l2]
theorem opCells_one : ∀ (l : List Opn), ∀ u ∈ opCells l, u.oneCell' = true
  | [], _, h => by cases h
  | p :: r, u, h => by
    rcases List.mem_cons.1 h with rfl | h
    · rfl
    rcases List.mem_cons.1 h with rfl | h
    · rfl
    rcases List.mem_cons.1 h with rfl | h
    · rfl
    exact opCells_one r u h
theorem pra_news {n : Nat} {W : World} {ad : Addr} {l : List Opn} (h : PrA n W (some ad) l) : ∀ j u, (opCells l)[j]? = some u → W.cell? (ad.add j) = some u := by
  intro j u hj
  have hlt : j < l.length * 3 := by rw [← opCells_len]; exact (List.getElem?_eq_some_iff.1 hj).1
  obtain ⟨p, hp⟩ : ∃ p, l[j / 3]? = some p := ⟨_, List.getElem?_eq_getElem (by omega)⟩
  obtain ⟨b, o, e, _, h1, h2, h3⟩ := h _ p hp
  obtain ⟨c1, c2, c3⟩ := opCells_at l _ p hp
  cases e
  have hadd : (⟨b, o, none⟩ : Addr).add j = ⟨b, o + j, none⟩ := by unfold Addr.add; split <;> simp_all
  rw [hadd]
  have hr : j = j / 3 * 3 ∨ j = j / 3 * 3 + 1 ∨ j = j / 3 * 3 + 2 := by omega
  rcases hr with hr | hr | hr
  · rw [hr] at hj ⊢
    rw [c1] at hj
    rw [← hj]; exact h1
  · rw [hr] at hj ⊢
    rw [c2] at hj
    rw [← hj, ← Nat.add_assoc]; exact h2
  · rw [hr] at hj ⊢
    rw [c3] at hj
    rw [← hj, ← Nat.add_assoc]; exact h3
/-- An empty list that has just been laid. -/
theorem own_e (W : World) {S : Nat} (h : S ≤ W.heap.size) : (W.alloc (.cells #[] 45)).ownsRow S 45 3 (.slice (some ⟨W.heap.size, 0, none⟩) 0 0) 0 (opCells []) :=
  ⟨rfl, .inr ⟨W.heap.size, 0, #[], rfl, h, World.alloc_heap_new W _, Nat.le_refl _, by unfold maxLen; omega, rfl, rfl⟩⟩
theorem run_ops_none {W : World} {S n : Nat} {T : TypeId} {v : Value} {xs : List Value} (h : W.ownsRow S 45 3 v n xs) (c : Nat) : (Builtin.append_ #[27, 27] T #[v, .slice none 0 c]).run Try.prog W = .ok v W := by
  obtain ⟨i0, ki1, ki2, ki3, ki4⟩ := info_parts infoOp
  rcases h.2 with ⟨rfl, _⟩ | ⟨b, cap, cur, rfl, hb, hh, hkc, hcm, _⟩
  · simp [Builtin.append_, run_underlying Try.underlying27, sizeOf, typeInfo, ki1, Builtin.lenOf, Builtin.firstCells]
  · simp [Builtin.append_, run_underlying Try.underlying27, sizeOf, typeInfo, ki1, Builtin.lenOf, Builtin.firstCells, loadCells, storeCells, hkc]
/-- append of a program to one of the call's own. -/
theorem run_ops {W : World} (S : Nat) (T : TypeId) {v : Value} {l l2 : List Opn} {n m : Nat} (c : Nat) {ad : Option Addr} (hn : l.length = n) (hm : l2.length = m) (hv : W.ownsRow S 45 3 v n (opCells l)) (hD : PrA W.heap.size W ad l2) (hn2 : n ≤ 1000000) (hm2 : m ≤ 1000000) (hS : S ≤ W.heap.size) :
    ∃ v' W', (Builtin.append_ #[27, 27] T #[v, .slice ad m c]).run Try.prog W = .ok v' W' ∧ W'.ownsRow S 45 3 v' (n + m) (opCells (l ++ l2)) ∧ W.grownBy W' v.ownBlock := by
  rcases ad with _ | ad
  · have h0 : m = 0 := by
      rcases Nat.eq_zero_or_pos m with h | h
      · exact h
      · obtain ⟨b, o, e, _⟩ := hD 0 l2[0] (List.getElem?_eq_getElem (by omega))
        cases e
    subst h0
    have e2 : l2 = [] := List.length_eq_zero_iff.1 hm
    subst e2
    exact ⟨v, W, run_ops_none hv c, by rw [List.append_nil]; exact hv, ⟨rfl, rfl, rfl, Nat.le_refl _, fun _ _ _ => rfl⟩⟩
  · obtain ⟨i0, ki1, ki2, ki3, ki4⟩ := info_parts infoOp
    obtain ⟨v', W', hr, h2, h3, _, _⟩ := run_append_own_at (P := Try.prog) W S 27 T 45 i0 _ 3 24 Try.underlying27 ki1 ki2 ki3 ki4 rfl (by decide) _ n _ hv ad m c (opCells l2) (by rw [opCells_len, hm]) (pra_news hD) (opCells_one _) (by unfold maxLen; omega) (by omega) hS
    exact ⟨v', W', hr, by rw [opCells_app]; exact h2, h3⟩
theorem app_ex {ev : Operand → Value} {o : Oper} {s x : Operand} {T1 T2 : TypeId} {v v' u : Value} {W W' : World} (ho : o.op = .call { callee := .builtin .append, args := #[s, x], argTypes := #[T1, T2] }) (hs : ev s = v) (hx : ev x = u)
    (hr : (Builtin.append_ #[T1, T2] o.type #[v, u]).run Try.prog W = .ok v' W') : (execOp ev o).run Try.prog W = .ok (.value v') W' := by
  unfold execOp
  simp only [ho, resolve, invoke, builtin, Sem.run_bind, Sem.run_pure, Result.andThen_ok, List.map_toArray, List.map_cons, List.map_nil, hs, hx, hr]
theorem wp_val_of {P : Program} {o : Oper} {a : Act} {v : Value} {w w' : World} {K : Act → World → Prop} {Q : Exit → Act → World → Prop} (h : (execOp a.eval o).run P w = .ok (.value v) w') (hk : K (a.put o.dst v) w') : o.wp P a w K Q := by
  unfold Oper.wp
  rw [h]
  exact hk
theorem wpList_ops {ops : Array Oper} {rest : List Oper} {o : Oper} {a : Act} {W : World} {Q : Exit → Act → World → Prop} (S : Nat) {v : Value} {l l2 : List Opn} {n m c : Nat} {ad : Option Addr} (hgd : o.guard = none) (s x : Operand)
    (ho : o.op = .call { callee := .builtin .append, args := #[s, x], argTypes := #[27, 27] }) (hs : a.eval s = v) (hx : a.eval x = .slice ad m c) (hn : l.length = n) (hm : l2.length = m) (hv : W.ownsRow S 45 3 v n (opCells l)) (hD : PrA W.heap.size W ad l2) (hn2 : n ≤ 1000000) (hm2 : m ≤ 1000000) (hS : S ≤ W.heap.size)
    (hk : ∀ v' W', W'.ownsRow S 45 3 v' (n + m) (opCells (l ++ l2)) → W.grownBy W' v.ownBlock → wpList Try.prog ops Q rest (a.put o.dst v') W') : wpList Try.prog ops Q (o :: rest) a W := by
  refine wpList_plain hgd fun _ hK => ?_
  obtain ⟨v', W', hr, h2, h3⟩ := run_ops S o.type c hn hm hv hD hn2 hm2 hS
  exact wp_val_of (app_ex ho hs hx hr) (hK _ _ (hk v' W' h2 h3))
theorem bdd (X : World) (o : Obj) : Below X.drew.heap.size X.drew (X.alloc o).drew := ⟨rfl, rfl, rfl, (ba (Below.refl X.heap.size X) o).size, fun i hi => (ba (Below.refl X.heap.size X) o).block i hi⟩
theorem own_e1 {V u : World} {b : Nat} (_ : Below V.heap.size V (u.alloc (.cells #[] 45)).drew) (h : V.heap.size ≤ u.heap.size) (hb : u.heap.size = b) : (u.alloc (.cells #[] 45)).drew.ownsRow V.heap.size 45 3 (.slice (some ⟨b, 0, none⟩) 0 0) 0 (opCells []) := by
  subst hb
  exact own_v (own_e u h) (bd1 (Below.refl _ _))
theorem pra_l1 {V u : World} {b : Nat} (l : List Opn) {cs : Array Value} (_ : Below V.heap.size V (u.alloc (.cells cs 45)).drew) (hcs : cs = (opCells l).toArray) (hb : u.heap.size = b) : PrA (u.alloc (.cells cs 45)).drew.heap.size (u.alloc (.cells cs 45)).drew (some ⟨b, 0, none⟩) l := by
  subst hcs
  subst hb
  exact pra_up (pra_lit u l _) (bd1 (Below.refl _ _))
theorem own_c {V X : World} {o : Obj} {B T sz n : Nat} {v : Value} {xs : List Value} (h : X.drew.ownsRow B T sz v n xs) (_ : Below V.heap.size V (X.alloc o).drew) : (X.alloc o).drew.ownsRow B T sz v n xs := own_v h (bdd X o)
theorem pra_c {V X : World} {o : Obj} {n : Nat} {a : Option Addr} {l : List Opn} (h : PrA n X.drew a l) (_ : Below V.heap.size V (X.alloc o).drew) : PrA (X.alloc o).drew.heap.size (X.alloc o).drew a l := pra_up h (bdd X o)
/-- What a program of the call's own reads as. -/
theorem own_pra {W : World} {S : Nat} {v : Value} {n : Nat} {l : List Opn} (hn : l.length = n) (h : W.ownsRow S 45 3 v n (opCells l)) : ∃ (a : Option Addr) (c : Nat), v = .slice a n c ∧ n ≤ c ∧ c ≤ 9223372036854775807 ∧ PrA W.heap.size W a l := by
  rcases h.2 with ⟨rfl, h0⟩ | ⟨b, cap, cur, rfl, hb, hh, hkc, hcm, _⟩
  · refine ⟨none, 0, by rw [h0], by omega, by omega, fun i p hp => ?_⟩
    have := (List.getElem?_eq_some_iff.1 hp).1
    omega
  · unfold maxLen at hcm
    refine ⟨some ⟨b, 0, none⟩, cap, rfl, hkc, by omega, fun i p hp => ?_⟩
    have hi : i < n := by rw [← hn]; exact (List.getElem?_eq_some_iff.1 hp).1
    obtain ⟨c1, c2, c3⟩ := opCells_at l i p hp
    refine ⟨b, 0, rfl, (Array.getElem?_eq_some_iff.1 hh).1, ?_, ?_, ?_⟩
    · rw [Nat.zero_add, h.cellAt _ (by omega)]; exact c1
    · rw [Nat.zero_add, h.cellAt _ (by omega)]; exact c2
    · rw [Nat.zero_add, h.cellAt _ (by omega)]; exact c3
end Go.Proofs.Ytdgagjcocohnnaa.Mc
