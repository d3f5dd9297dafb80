/-
  Layer 6 (outline): slices.Clone of points.
-/
import Derived.Test.YtdgagjcocohnnaaOtJ
namespace Go.Proofs.Ytdgagjcocohnnaa.Ot
open Go.RowKit
/-- The first points as a list. -/
def lst (g : Nat → Pt) (n : Nat) : List Pt := (List.range n).map g
theorem lst_len (g : Nat → Pt) (n : Nat) : (lst g n).length = n := by unfold lst; simp
theorem lst_get (g : Nat → Pt) (n i : Nat) (h : i < n) : (lst g n).getD i p0 = g i := by
  unfold lst
  rw [List.getD_eq_getElem?_getD, List.getElem?_map, List.getElem?_range h]
  rfl
/-- Points in memory, as values. -/
theorem pa_news {w : World} {ad : Addr} {n : Nat} {g : Nat → Pt} (h : PA w (some ad) n g) : ∀ j u, (vals (lst g n))[j]? = some u → w.cell? (ad.add j) = some u := by
  intro j u hj
  have hlt : j < (vals (lst g n)).length := (List.getElem?_eq_some_iff.1 hj).1
  rw [vals_len, lst_len] at hlt
  have hi : j / 3 < n := by omega
  obtain ⟨v0, v1, v2⟩ := vals_get (lst g n) (j / 3) (by rw [lst_len]; exact hi)
  obtain ⟨b, o, e, c0, c1, c2⟩ := h (j / 3) hi
  cases e
  rw [lst_get _ _ _ hi] at v0 v1 v2
  have ha : ∀ q : Nat, ((⟨b, o, none⟩ : Addr).add q) = ⟨b, o + q, none⟩ := fun q => by
    unfold Addr.add
    split
    · rename_i h0
      have h0' : q = 0 := by simpa using h0
      subst h0'
      rfl
    · rfl
  rw [ha]
  have : j % 3 = 0 ∨ j % 3 = 1 ∨ j % 3 = 2 := by omega
  rcases this with hr | hr | hr
  · have ej : j = j / 3 * 3 := by omega
    rw [ej] at hj ⊢
    rw [v0] at hj
    cases hj
    exact c0
  · have ej : j = j / 3 * 3 + 1 := by omega
    rw [ej] at hj ⊢
    rw [v1] at hj
    cases hj
    rw [← Nat.add_assoc]
    exact c1
  · have ej : j = j / 3 * 3 + 2 := by omega
    rw [ej] at hj ⊢
    rw [v2] at hj
    cases hj
    rw [← Nat.add_assoc]
    exact c2
/-- append of points to an empty slice of the call's own. -/
theorem wpList_all {ops : Array Oper} {rest : List Oper} {o : Oper} {a : Act} {W : World} {Q : Exit → Act → World → Prop} (S b n c : Nat) (ad : Addr) (g : Nat → Pt) (hgd : o.guard = none) (s x : Operand)
    (ho : o.op = .call { callee := .builtin .append, args := #[s, x], argTypes := #[32, 32] })
    (hs : a.eval s = .slice (some ⟨b, 0, none⟩) 0 0) (hx : a.eval x = .slice (some ad) n c)
    (hv : W.ownsRow S 53 3 (.slice (some ⟨b, 0, none⟩) 0 0) 0 []) (hD : PA W (some ad) n g) (hn : n ≤ 1000000) (hS : S ≤ W.heap.size)
    (hk : ∀ v' W', W'.ownsRow S 53 3 v' n (vals (lst g n)) → W.grownBy W' (some b) → wpList Try.prog ops Q rest (a.put o.dst v') W') : wpList Try.prog ops Q (o :: rest) a W := by
  refine wpList_plain hgd fun _ hK => ?_
  obtain ⟨i0, ki1, ki2, ki3, ki4⟩ := info_parts infoP
  obtain ⟨v', W', hr, h2, h3, _, _⟩ := run_append_own_at (P := Try.prog) W S 32 o.type 53 i0 _ 3 24 Try.underlying32 ki1 ki2 ki3 ki4 rfl (by decide) _ 0 [] hv ad n c (vals (lst g n)) (by rw [vals_len, lst_len]) (pa_news hD) (vals_one _) (by unfold maxLen; omega) (by omega) hS
  unfold Oper.wp execOp
  simp only [ho, resolve, invoke, builtin, Sem.run_bind, Sem.run_pure, Result.andThen_ok, List.map_toArray, List.map_cons, List.map_nil, hs, hx, hr]
  rw [Nat.zero_add, List.nil_append] at h2
  exact hK _ _ (hk v' W' h2 h3)
set_option maxRecDepth 100000 in
set_option maxHeartbeats 4000000 in
theorem Clone_any (a : Option Addr) (n c : Nat) (g : Nat → Pt) (hn : n ≤ 1000000) (w : World) (hA : PA w a n g) :
    Calls Try.prog 57 #[.slice a n c] w fun e w' => ∃ v, e = .returned v ∧ w'.ownsRow w.heap.size 53 3 v n (vals (lst g n)) ∧ Below w.heap.size w w' := by
  rcases a with _ | ad
  · have h0 : n = 0 := by
      rcases Nat.eq_zero_or_pos n with h | h
      · exact h
      · obtain ⟨b, o, e, _⟩ := hA 0 h
        cases e
    subst h0
    have he : ∀ w : World, (binOp .eql 32 (.slice none 0 c) (.slice none 0 0)).run Try.prog w = .ok (.bool true) w := fun _ => rfl
    go_enter Try.func57, Try.ntmps57
    go_wp2
    go_ret
    exact ⟨_, rfl, by simpa [lst, vals] using World.ownsRow_nil _ _ _ _, Below.refl _ _⟩
  · have HA := Lib.hid hA
    have HL : Hid ((w.alloc (.cells #[] 53)).ownsRow w.heap.size 53 3 (.slice (some ⟨w.heap.size, 0, none⟩) 0 0) 0 []) := Lib.hid (World.ownsRow_lit w #[] 0 (Nat.le_refl _) (by omega) rfl)
    have he : ∀ w : World, (binOp .eql 32 (.slice (some ad) n c) (.slice none 0 0)).run Try.prog w = .ok (.bool false) w := fun _ => rfl
    clear hA
    go_enter Try.func57, Try.ntmps57
    go_wp2_with (at_builtin; refine wpList_all w.heap.size w.heap.size n c ad g rfl _ _ rfl rfl rfl HL.out (pa_below HA.out (ba (Below.refl _ _) _)) hn (by simp) ?_; intro v' W' hown hg)
    have hB : Below w.heap.size w W' := gB (ba (Below.refl _ _) _) hg (Nat.le_refl _)
    clear hg
    go_ret
    exact ⟨_, rfl, hown, hB⟩
theorem own_lst {V : World} {n₀ n : Nat} {T : TypeId} {v : Value} {g : Nat → Pt} (h : V.ownsRow n₀ T 3 v n (vals (lst g n))) :
    ∃ (a : Option Addr) (c b : Nat), v = .slice a n c ∧ n ≤ c ∧ c ≤ 9223372036854775807 ∧ PO V b n g ∧ (0 < n → a = some ⟨b, 0, none⟩) ∧ (0 < n → n₀ ≤ b) := by
  have hl := lst_len g n
  have h' : V.ownsRow n₀ T 3 v (lst g n).length (vals (lst g n)) := by rw [hl]; exact h
  obtain ⟨a, c, b, e, h1, h2, h3, h4, h5⟩ := own_po h'
  rw [hl] at e h1 h3 h4 h5
  exact ⟨a, c, b, e, h1, h2, po_congr h3 (fun i hi => lst_get g n i hi), h4, h5⟩
end Go.Proofs.Ytdgagjcocohnnaa.Ot
