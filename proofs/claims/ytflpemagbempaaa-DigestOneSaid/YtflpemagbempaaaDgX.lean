/-
  Layer 3 (digest): a string in which one byte is another one has another digest.
-/
import Derived.Test.YtflpemagbempaaaDgT
namespace Go.Proofs.Ytflpemagbempaaa.Dg
open Go.RowKit
theorem sx_inj {x y : Nat} {e : UInt8} (hx : x < 2147483563) (hy : y < 2147483563) (h : sx x e = sx y e) : x = y := by
  unfold sx at h
  generalize e.toNat = n at *
  omega
theorem foldx_inj : ∀ (q : List UInt8) {x y : Nat}, x < 2147483563 → y < 2147483563 → q.foldl sx x = q.foldl sx y → x = y
  | [], _, _, _, _, h => h
  | e :: q, x, y, hx, hy, h => sx_inj hx hy (foldx_inj q (sx_lt x e) (sx_lt y e) h)
theorem sx_byte {x : Nat} {c e : UInt8} (h : sx x c = sx x e) : c = e := by
  unfold sx at h
  have h1 := c.toNat_lt
  have h2 := e.toNat_lt
  apply UInt8.toNat_inj.1
  omega
theorem dx_ne {p q : List UInt8} {c e : UInt8} (h : c ≠ e) : dx (p ++ c :: q) ≠ dx (p ++ e :: q) := by
  unfold dx
  rw [List.foldl_append, List.foldl_append]
  intro h2
  have := foldx_inj q (sx_lt _ c) (sx_lt _ e) h2
  exact h (sx_byte this)
theorem ofNat_inj {n m : Nat} (h : UInt8.ofNat n = UInt8.ofNat m) : n % 256 = m % 256 := by
  have := congrArg UInt8.toNat h
  simpa using this
theorem w4_inj {n m : Nat} (hn : n < 4294967296) (hm : m < 4294967296) (h : w4 n = w4 m) : n = m := by
  unfold w4 at h
  simp only [List.cons.injEq, and_true] at h
  obtain ⟨h1, h2, h3, h4⟩ := h
  have e1 := ofNat_inj h1
  have e2 := ofNat_inj h2
  have e3 := ofNat_inj h3
  have e4 := ofNat_inj h4
  omega
theorem dg_ne {p q : List UInt8} {c e : UInt8} (h : c ≠ e) : dg (p ++ c :: q) ≠ dg (p ++ e :: q) := by
  intro h2
  unfold dg at h2
  have h3 := List.append_inj_left h2 rfl
  exact dx_ne h (w4_inj (by have := dx_lt (p ++ c :: q); omega) (by have := dx_lt (p ++ e :: q); omega) h3)
theorem chg_list (k : Nat) (x : Int) (s : ByteArray) (h : k < s.size) : (chg k x s).data.toList = s.data.toList.take k ++ UInt8.ofNat x.toNat :: s.data.toList.drop (k + 1) := by
  unfold chg
  rw [toList_append, toList_append, Lib.extract_data, Lib.extract_data, strOfNums_data]
  simp only [List.drop_zero, Nat.sub_zero, List.map_cons, List.map_nil, List.append_assoc, List.singleton_append, List.cons_append, List.nil_append]
  rw [List.take_of_length_le (i := s.size - (k + 1)) (by rw [List.length_drop, toList_length]; omega)]
theorem list_at (s : ByteArray) (k : Nat) (h : k < s.size) : s.data.toList = s.data.toList.take k ++ s[k] :: s.data.toList.drop (k + 1) := by
  have hk : k < s.data.toList.length := by rw [toList_length]; exact h
  have hg : s.data.toList[k] = s[k] := by rw [Array.getElem_toList]; rfl
  rw [← hg, ← List.drop_eq_getElem_cons hk, List.take_append_drop]
theorem dg_ne2 {a p q b : List UInt8} {c e : UInt8} (h : c ≠ e) {l m : List UInt8} (hl : l = a ++ (p ++ c :: q) ++ b) (hm : m = a ++ (p ++ e :: q) ++ b) : B (dg l) ≠ B (dg m) := by
  intro h2
  have h3 := B_inj h2
  rw [hl, hm] at h3
  have e1 : ∀ x : UInt8, a ++ (p ++ x :: q) ++ b = (a ++ p) ++ x :: (q ++ b) := fun x => by simp
  rw [e1, e1] at h3
  exact dg_ne h h3
/-- What the law says of a string and of another one in which one byte is another one. -/
theorem one_ne (s : ByteArray) (k : Nat) (x : Nat) (h : k < s.size) (hx : x < 256) (hne : s[k].toNat ≠ x) :
    D s ≠ D (chg k x s) ∧ B (chain ⟨#[97]⟩ s) ≠ B (chain ⟨#[97]⟩ (chg k x s)) ∧ B (mark ⟨#[97]⟩ s) ≠ B (mark ⟨#[97]⟩ (chg k x s)) ∧ B (leaf s) ≠ B (leaf (chg k x s)) := by
  have hne2 : s[k] ≠ UInt8.ofNat x := fun e => hne (by rw [e]; simp; omega)
  have hc := chg_list k x s h
  rw [Int.toNat_natCast] at hc
  obtain ⟨p, q, h1, h2⟩ : ∃ p q, s.data.toList = p ++ s[k] :: q ∧ (chg k x s).data.toList = p ++ UInt8.ofNat x :: q := ⟨_, _, list_at s k h, hc⟩
  clear hc hne
  generalize s[k] = c at *
  refine ⟨dg_ne2 (a := []) (p := p) (q := q) (b := []) hne2 (by rw [h1]; simp) (by rw [h2]; simp), dg_ne2 (a := 99 :: (w4 1 ++ [97])) (p := p) (q := q) (b := []) hne2 ?_ ?_, dg_ne2 (a := 109 :: (w4 1 ++ [97])) (p := p) (q := q) (b := [97]) hne2 ?_ ?_, dg_ne2 (a := [108]) (p := p) (q := q) (b := []) hne2 (by rw [h1]; simp) (by rw [h2]; simp)⟩
  · rw [h1]; simp [ByteArray.size]
  · rw [h2]; simp [ByteArray.size]
  · rw [h1]; simp [ByteArray.size]
  · rw [h2]; simp [ByteArray.size]
end Go.Proofs.Ytflpemagbempaaa.Dg
