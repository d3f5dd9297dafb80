/-
  Layer 3 (digest): Check; the document's own Chain, Mark, Check and Leaf.
-/
import Derived.Test.YtflpemagbempaaaDgF
namespace Go.Proofs.Ytflpemagbempaaa.Dg
open Go.RowKit
/-- Whether a mark is that of a message. -/
def ck (k m x : ByteArray) : Bool := decide (k ≠ ⟨#[]⟩ ∧ x = B (mark k m))
theorem mark_len (k m : ByteArray) : (mark k m).length = 8 := rfl
set_option maxHeartbeats 2000000 in
theorem Check_empty (m x : ByteArray) (_h : m.size ≤ 1000000) (hx : x.size = 8) (w : World) :
    Calls Try.prog 18 #[.string ⟨#[]⟩, .string m, .string x] w fun e w' => e = .returned (.bool false) ∧ Below w.heap.size w w' := by
  have N := Lib.hid (parse_yes x hx)
  obtain ⟨x0, x1, x2, x3, x4, x5, x6, x7, hx'⟩ := eight (show x.data.toList.length = 8 by rw [toList_length]; exact hx)
  rw [hx', dval8] at N
  clear hx'
  go_enter Try.func18, Try.ntmps18
  go_wp2_with fail
  refine (N.out _).mono ?_
  rintro e w1 ⟨rfl, hB1⟩
  replace hB1 := fun o => ba hB1 o
  go_wp2_with fail
  go_quiet (fail)
  go_wp2_with fail
  go_ret
  exact ⟨rfl, bd (hB1 _) _⟩
theorem Check_any (k m x : ByteArray) (hk : k.size ≤ 1000000) (h : m.size ≤ 1000000) (w : World) :
    Calls Try.prog 18 #[.string k, .string m, .string x] w fun e w' => e = .returned (.bool (ck k m x)) ∧ Below w.heap.size w w' := by
  by_cases hx : x.size = 8
  · by_cases hke : k = ⟨#[]⟩
    · subst hke
      rw [show ck ⟨#[]⟩ m x = false by unfold ck; rw [decide_eq_false]; exact fun h => h.1 rfl]
      exact Check_empty m x h hx w
    · rw [show ck k m x = decide (x.data.toList = mark k m) by
        unfold ck
        rw [decide_eq_decide]
        exact ⟨fun h => by rw [h.2, B_toList], fun h => ⟨hke, by rw [← h, B_data]⟩⟩]
      exact Check_yes k m x hk h hx hke w
  · rw [show ck k m x = false by
      unfold ck; rw [decide_eq_false]; rintro ⟨_, h⟩; apply hx; rw [h, B_size, mark_len]]
    exact Check_no k m x hx w
theorem toL (s : ByteArray) : s.data.toList = s.data.toList := rfl
theorem D_chain (b s : ByteArray) : D (⟨#[99]⟩ ++ B (w4 b.size) ++ b ++ s) = B (chain b s) := by
  unfold D chain; rw [toList_append, toList_append, toList_append, B_toList]; rfl
theorem D_mark (k m : ByteArray) : D (⟨#[109]⟩ ++ B (w4 k.size) ++ k ++ m ++ k) = B (mark k m) := by
  unfold D mark; rw [toList_append, toList_append, toList_append, toList_append, B_toList]; rfl
theorem D_leaf (s : ByteArray) : D (⟨#[108]⟩ ++ s) = B (leaf s) := by
  unfold D leaf; rw [toList_append]; rfl
theorem D_node (x y : List UInt8) : D (⟨#[110]⟩ ++ B x ++ B y) = B (node x y) := by
  unfold D node; rw [toList_append, toList_append, B_toList, B_toList]; rfl
theorem D_rest : D ⟨#[118]⟩ = B rest := rfl
theorem one_size (c : UInt8) : (⟨#[c]⟩ : ByteArray).size = 1 := rfl
set_option maxHeartbeats 2000000 in
theorem rLeaf_any (s : ByteArray) (h : s.size ≤ 100000) (w : World) :
    Calls Try.prog 30 #[.string s] w fun e w' => e = .returned (.string (B (leaf s))) ∧ Below w.heap.size w w' := by
  have O := Lib.hid (rOf_any (⟨#[108]⟩ ++ s) (by rw [size_append, one_size]; omega))
  rw [D_leaf] at O
  have c1 := fun w => run_string_add_sum (P := Try.prog) (w := w) ⟨#[108]⟩ s (by rw [one_size]; omega)
  generalize B (leaf s) = r at *
  go_enter Try.func30, Try.ntmps30
  go_wp2_with fail
  refine (O.out _).mono ?_
  rintro e w1 ⟨rfl, hB1⟩
  go_wp2_with fail
  go_ret
  exact ⟨rfl, hB1⟩
set_option maxHeartbeats 2000000 in
theorem rChain_any (b s : ByteArray) (hb : b.size ≤ 100000) (h : s.size ≤ 100000) (w : World) :
    Calls Try.prog 15 #[.string b, .string s] w fun e w' => e = .returned (.string (B (chain b s))) ∧ Below w.heap.size w w' := by
  have hw : (B (w4 b.size)).size = 4 := rfl
  have O := Lib.hid (rOf_any (⟨#[99]⟩ ++ B (w4 b.size) ++ b ++ s) (by rw [size_append, size_append, size_append, one_size, hw]; omega))
  rw [D_chain] at O
  have L := Lib.hid (bytes4_any b.size (by omega))
  have c1 := fun w => run_string_add_sum (P := Try.prog) (w := w) ⟨#[99]⟩ (B (w4 b.size)) (by rw [one_size, hw]; decide)
  have c2 := fun w => run_string_add_sum (P := Try.prog) (w := w) (⟨#[99]⟩ ++ B (w4 b.size)) b (by rw [size_append, one_size, hw]; omega)
  have c3 := fun w => run_string_add_sum (P := Try.prog) (w := w) (⟨#[99]⟩ ++ B (w4 b.size) ++ b) s (by rw [size_append, size_append, one_size, hw]; omega)
  clear hw
  generalize B (chain b s) = r at *
  generalize B (w4 b.size) = lb at *
  go_enter Try.func15, Try.ntmps15
  go_wp2_with fail
  refine (L.out _).mono ?_
  rintro e w1 ⟨rfl, hB1⟩
  go_wp2_with fail
  refine (O.out _).mono ?_
  rintro e w2 ⟨rfl, hB2⟩
  go_wp2_with fail
  go_ret
  exact ⟨rfl, bt hB1 hB2⟩
set_option maxHeartbeats 2000000 in
theorem rMark_any (k m : ByteArray) (hk : k.size ≤ 100000) (h : m.size ≤ 100000) (w : World) :
    Calls Try.prog 16 #[.string k, .string m] w fun e w' => e = .returned (.string (B (mark k m))) ∧ Below w.heap.size w w' := by
  have hw : (B (w4 k.size)).size = 4 := rfl
  have O := Lib.hid (rOf_any (⟨#[109]⟩ ++ B (w4 k.size) ++ k ++ m ++ k) (by rw [size_append, size_append, size_append, size_append, one_size, hw]; omega))
  rw [D_mark] at O
  have L := Lib.hid (bytes4_any k.size (by omega))
  have c1 := fun w => run_string_add_sum (P := Try.prog) (w := w) ⟨#[109]⟩ (B (w4 k.size)) (by rw [one_size, hw]; decide)
  have c2 := fun w => run_string_add_sum (P := Try.prog) (w := w) (⟨#[109]⟩ ++ B (w4 k.size)) k (by rw [size_append, one_size, hw]; omega)
  have c3 := fun w => run_string_add_sum (P := Try.prog) (w := w) (⟨#[109]⟩ ++ B (w4 k.size) ++ k) m (by rw [size_append, size_append, one_size, hw]; omega)
  have c4 := fun w => run_string_add_sum (P := Try.prog) (w := w) (⟨#[109]⟩ ++ B (w4 k.size) ++ k ++ m) k (by rw [size_append, size_append, size_append, one_size, hw]; omega)
  clear hw
  generalize B (mark k m) = r at *
  generalize B (w4 k.size) = lb at *
  go_enter Try.func16, Try.ntmps16
  go_wp2_with fail
  refine (L.out _).mono ?_
  rintro e w1 ⟨rfl, hB1⟩
  go_wp2_with fail
  refine (O.out _).mono ?_
  rintro e w2 ⟨rfl, hB2⟩
  go_wp2_with fail
  go_ret
  exact ⟨rfl, bt hB1 hB2⟩
set_option maxHeartbeats 2000000 in
theorem rCheck_any (k m x : ByteArray) (hk : k.size ≤ 100000) (h : m.size ≤ 100000) (w : World) :
    Calls Try.prog 19 #[.string k, .string m, .string x] w fun e w' => e = .returned (.bool (ck k m x)) ∧ Below w.heap.size w w' := by
  have M := Lib.hid (rMark_any k m hk h)
  have ED := str_dec x (B (mark k m))
  by_cases hke : k = ⟨#[]⟩
  · subst hke
    rw [show ck ⟨#[]⟩ m x = false by unfold ck; rw [decide_eq_false]; exact fun h => h.1 rfl]
    go_enter Try.func19, Try.ntmps19
    go_wp2_with fail
    go_ret
    exact ⟨rfl, Below.refl _ _⟩
  · have hk2 := not_empty hke
    have hck : Hid (ck k m x = decide (x = B (mark k m))) := Lib.hid (by unfold ck; rw [decide_eq_decide]; exact ⟨fun h => h.2, fun h => ⟨hke, h⟩⟩)
    generalize B (mark k m) = r at *
    go_enter Try.func19, Try.ntmps19
    go_wp2_with fail
    refine (M.out _).mono ?_
    rintro e w1 ⟨rfl, hB1⟩
    go_wp2_with fail
    go_ret
    exact ⟨by rw [hck.out]; rfl, hB1⟩
end Go.Proofs.Ytflpemagbempaaa.Dg
