/-
  Layer 2 (wire): the law WireTruncated, walked.
-/
import Derived.Test.YtadnkofbgifliaaWrYa
import Derived.Test.YtadnkofbgifliaaWrM
import Derived.Test.YtadnkofbgifliaaWrP
namespace Go.Proofs.Ytadnkofbgifliaa.Wr
open Go.RowKit

/-- How long a value's serialization is. -/
theorem by_size (k n : Int) (s : ByteArray) (L : List Int) (T : List ByteArray) (k0 : 0 ≤ k) (hn : inI n) (hL : ∀ x ∈ L, inI x) : 1 ≤ (byK k n s L T).size ∧ (byK k n s L T).size ≤ 10000 := by
  rw [size_list]
  rcases kind4 k k0 with hk | hk | hk | hk
  · rw [byK0 hk, strI_list]
    exact ⟨encI_pos n, by have := encI_le n hn; omega⟩
  · rw [byK1 hk, strT_list]
    have h1 := encT_pos (cutS s).data.toList
    have h2 := cutS_size s
    rw [size_list] at h2
    have h3 := encI_le ((cutS s).data.toList.length : Int) (by omega)
    refine ⟨h1, ?_⟩
    unfold encT; rw [List.length_append]; omega
  · rw [byK2 hk, strIs_list, List.length_append]
    have h1 := encIs_len (cutI L) (fun x hx => hL x (List.mem_of_mem_take hx))
    have h2 : (cutI L).length ≤ 20 := by unfold cutI; rw [List.length_take]; omega
    have h3 := encI_le ((cutI L).length : Int) (by omega)
    have h4 := encI_pos ((cutI L).length : Int)
    omega
  · rw [byK3 hk, strTs_list, List.length_append]
    have h1 := cut_flat T
    have h2 : (cutL T).length ≤ 20 := by rw [cutL_length]; omega
    have h3 := encI_le ((cutL T).length : Int) (by omega)
    have h4 := encI_pos ((cutL T).length : Int)
    omega
/-- What is left of a serialization that was cut begins with none of the same kind. -/
theorem trunc_no (k n : Int) (s : ByteArray) (L : List Int) (T : List ByteArray) (k0 : 0 ≤ k) (m : Nat) (hm : m < (byK k n s L T).size) : NoK (k % 4).toNat ((byK k n s L T).extract 0 m) := by
  have hd : (byK k n s L T).data.toList = (byK k n s L T).data.toList.take m ++ (byK k n s L T).data.toList.drop m := (List.take_append_drop _ _).symm
  have hne : (byK k n s L T).data.toList.drop m ≠ [] := by
    intro e
    have := congrArg List.length e
    rw [List.length_drop, ← size_list] at this
    simp at this; omega
  generalize hr : (byK k n s L T).data.toList.drop m = r at hd hne
  rcases kind4 k k0 with hk | hk | hk | hk
  · rw [show (k % 4).toNat = 0 by omega]
    show NoI _
    intro x t _ e
    rw [extract_split] at e
    rw [e, byK0 hk, strI_list] at hd
    have := encI_prefix (n := n) (m := x) (s := []) (t := t ++ r) (by rw [List.append_nil, ← List.append_assoc]; exact hd)
    exact hne (List.append_eq_nil_iff.1 this.2.symm).2
  · rw [show (k % 4).toNat = 1 by omega]
    show NoT _
    intro x t e
    rw [extract_split] at e
    rw [e, byK1 hk, strT_list] at hd
    have := encT_prefix (y := x) (s := []) (t := t ++ r) (by rw [List.append_nil, ← List.append_assoc]; exact hd)
    exact hne (List.append_eq_nil_iff.1 this.2.symm).2
  · rw [show (k % 4).toNat = 2 by omega]
    show NoIs _
    intro x t _ e
    rw [extract_split] at e
    rw [e, byK2 hk, strIs_list] at hd
    have := list_prefix (f := encI) (l' := x) (fun x y s t h => encI_prefix h) (s := []) (t := t ++ r) (by rw [List.append_nil, ← List.append_assoc]; exact hd)
    exact hne (List.append_eq_nil_iff.1 this.2.symm).2
  · rw [show (k % 4).toNat = 3 by omega]
    show NoTs _
    intro x t _ e
    rw [extract_split] at e
    have hf : (cutL T).flatMap (fun s => encT s.data.toList) = ((cutL T).map fun s => s.data.toList).flatMap encT := by rw [List.flatMap_map]
    rw [e, byK3 hk, strTs_list, hf, ← List.length_map (f := fun s : ByteArray => s.data.toList)] at hd
    have := list_prefix (f := encT) (l' := x) (fun x y s t h => encT_prefix h) (s := []) (t := t ++ r) (by rw [List.append_nil, ← List.append_assoc]; exact hd)
    exact hne (List.append_eq_nil_iff.1 this.2.symm).2

set_option maxRecDepth 100000 in
set_option maxHeartbeats 4000000 in
theorem trunc_any (K n : Int) (s : ByteArray) (a a' : Option Addr) (L : List Int) (T : List ByteArray) (l l' c c' : Nat) (hL : L.length = l) (hT : T.length = l') (hlc : l ≤ c) (hs : s.size ≤ 9223372036854775807) (hc : c ≤ 9223372036854775807) (hc' : l' ≤ 9223372036854775807) (w : World) (hl : IntsAt w a L) (hl' : StrsAt w a' T) (hTz : ∀ x ∈ T, x.size ≤ 9223372036854775807) (k0 : 0 ≤ K) (k1 : K < 256) (hn : inI n) (hLb : ∀ x ∈ L, inI x) (m : Int) (m0 : 0 ≤ m) (m1 : m < 65536) :
    Calls Try.prog 7 #[.agg #[.int .u8 K, .int .i64 n, .string s, .slice a l c, .slice a' l' c'], .int .u16 m] w fun e w' => e = .returned (.bool true) ∧ Below w.heap.size w w' := by
  have SA := Lib.hid sanity_any
  have BX := Lib.hid (fun (W : World) (h : Below w.heap.size w W) => bytes_any K n s a a' L T l l' c c' hL hT hlc K k0 k1 hn hs hc hc' W (at_below hl h) (sat_below hl' h) hLb hTz)
  obtain ⟨z1, z2⟩ := by_size K n s L T k0 hn hLb
  have TN := Lib.hid (trunc_no K n s L T k0)
  generalize byK K n s L T = X at *
  clear hl hl' hTz hL hT hLb
  have hA : Below w.heap.size w (w.alloc (.cells #[.int .u8 K, .int .i64 n, .string s, .slice a l c, .slice a' l' c'] 45)) := by go_grown
  go_enter Try.func7, Try.ntmps7
  go_wp2_with fail
  have cA : ∀ W, Below (w.alloc (.cells #[.int .u8 K, .int .i64 n, .string s, .slice a l c, .slice a' l' c'] 45)).heap.size (w.alloc (.cells #[.int .u8 K, .int .i64 n, .string s, .slice a l c, .slice a' l' c'] 45)) W → W.cell? ⟨w.heap.size, 0, none⟩ = some (.int .u8 K) ∧ W.cell? ⟨w.heap.size, 1, none⟩ = some (.int .i64 n) ∧ W.cell? ⟨w.heap.size, 2, none⟩ = some (.string s) ∧ W.cell? ⟨w.heap.size, 3, none⟩ = some (.slice a l c) ∧ W.cell? ⟨w.heap.size, 4, none⟩ = some (.slice a' l' c') :=
    fun W h => ⟨kc h (by go_cell), kc h (by go_cell), kc h (by go_cell), kc h (by go_cell), kc h (by go_cell)⟩
  generalize (w.alloc (.cells #[.int .u8 K, .int .i64 n, .string s, .slice a l c, .slice a' l' c'] 45)) = V at *
  have CA := Lib.hid cA
  clear cA
  refine (SA.out _).mono ?_
  rintro e w1 ⟨rfl, hB1⟩
  obtain ⟨c0, c1, c2, c3, c4⟩ := CA.out _ hB1
  have hB := bt hA hB1
  clear hA hB1
  go_wp2_with fail
  refine (BX.out _ hB).mono ?_
  rintro e w2 ⟨rfl, hB2⟩
  have d0 := kc hB2 c0
  have hB3 := bt hB hB2
  clear hB hB2 c0 c1 c2 c3 c4 CA
  obtain ⟨q, hq⟩ : ∃ q : Nat, (X.size : Int) - 1 - m % (X.size : Int) = (q : Int) := ⟨((X.size : Int) - 1 - m % (X.size : Int)).toNat, by have := Int.emod_lt_of_pos m (show (0 : Int) < X.size by omega); have := Int.emod_nonneg m (show (X.size : Int) ≠ 0 by omega); omega⟩
  have hq1 : q < X.size := by have := Int.emod_nonneg m (show (X.size : Int) ≠ 0 by omega); omega
  have hw : wrap64 ((X.size : Int) - 1 - m % (X.size : Int)) = (q : Int) := by rw [hq]; exact IntWalk.wrap64_in _ ⟨by omega, by omega⟩
  obtain ⟨k4, hk4⟩ : ∃ k4 : Nat, K % 4 = (k4 : Int) := ⟨(K % 4).toNat, by omega⟩
  have TQ := TN.out q hq1
  rw [show (K % 4).toNat = k4 by omega] at TQ
  have hk : k4 < 4 := by omega
  have hX0 : ((X.size : Int) == 0) = false := beq_eq_false_iff_ne.2 (by omega)
  have hz3 : (X.extract 0 q).size ≤ 1000000 := by rw [size_list, extract_split, List.length_take]; omega
  clear TN hq
  have NW := Lib.hid (new_any (X.extract 0 q))
  have TQ := Lib.hid TQ
  have hz3 := Lib.hid hz3
  go_wp2_with fail

  refine (NW.out _).mono ?_
  rintro e w3 ⟨rfl, hR, hB4, hz⟩
  have hsz := hB3.size
  have hB5 := bt hB3 hB4
  have c0 := kc hB4 d0
  have D := Lib.hid (decodes_no k4 hk _ _ false w3 hR hz3.out (by simp) TQ.out)
  generalize w2.heap.size = b1 at *
  clear hR hB4 d0 hB3 NW TQ hw hX0
  go_wp2_with fail
  refine D.out.mono ?_
  rintro e w4 ⟨rfl, hR, hG⟩
  have hB6 := bg hB5 hG hsz
  have BA := Lib.hid (bad_any _ _ _ _ hR)
  have HR := Lib.hid hR
  clear hR hG D hB5 c0
  go_wp2_with fail
  refine BA.out.mono ?_
  rintro e w5 ⟨rfl, rfl⟩
  go_wp2_with fail
  clear BA SA BX
  go_loopw [8] (fun s8 wr => ∃ k : Nat, k ≤ 4 ∧ s8 = .int .i64 k ∧ RS wr b1 empty true ∧ Below w.heap.size w wr) (fun s8 _ => 4 - (intOf s8).toNat)
  case atStart => exact ⟨0, by omega, rfl, HR.out, hB6⟩
  case round =>
    clear HR hB6
    obtain ⟨k, hk, rfl, hR, hB⟩ := hrel
    rcases Nat.lt_or_ge k 4 with hlt | hge
    · have D := Lib.hid (dk k hlt b1 true wr hR)
      clear hR
      go_wp2_with fail
      refine D.out.mono ?_
      rintro e w6 ⟨rfl, hR, hG⟩
      have hB7 := bg hB hG hsz
      have BA := Lib.hid (bad_any _ _ _ _ hR)
      have LA := Lib.hid (left_empty _ _ _ hR)
      have HR := Lib.hid hR
      clear hR hG D hB
      go_wp2_with fail
      refine BA.out.mono ?_
      rintro e w7 ⟨rfl, rfl⟩
      go_wp2_with fail
      refine LA.out.mono ?_
      rintro e w7 ⟨rfl, rfl⟩
      go_wp2_with fail
      go_roundw
      case rel => exact ⟨k + 1, by omega, by congr 1, HR.out, hB7⟩
      case measure => simp [intOf]; omega
    · go_wp2_with fail
      go_ret
      exact ⟨rfl, hB⟩
end Go.Proofs.Ytadnkofbgifliaa.Wr
