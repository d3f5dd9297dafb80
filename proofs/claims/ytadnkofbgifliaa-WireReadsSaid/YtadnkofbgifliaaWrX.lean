/-
  Layer 2 (wire): when two values of the law are the same, as values of a kind.
-/
import Derived.Test.YtadnkofbgifliaaWrW
import Derived.Test.YtadnkofbgifliaaWrP
import Derived.Deep.RegionHeld3
namespace Go.Proofs.Ytadnkofbgifliaa.Wr
open Go.RowKit

theorem bd1 {w u : World} (h : Below w.heap.size w u) : Below w.heap.size w u.drew := h.drew
theorem str_dec (x y : ByteArray) : (x.toList == y.toList) = decide (x = y) := by
  by_cases h : x = y
  · rw [decide_eq_true h, str_eq h]
  · rw [decide_eq_false h, str_ne h]

set_option maxRecDepth 100000 in
set_option maxHeartbeats 4000000 in
theorem same0 (K n : Int) (s : ByteArray) (a a' : Option Addr) (L : List Int) (T : List ByteArray) (l l' c c' : Nat) (hL : L.length = l) (hT : T.length = l') (hlc : l ≤ c) (hs : s.size ≤ 9223372036854775807) (hc : c ≤ 9223372036854775807) (hc' : l' ≤ 9223372036854775807) (w : World) (hl : IntsAt w a L) (hl' : StrsAt w a' T) (hTz : ∀ x ∈ T, x.size ≤ 9223372036854775807) (K2 n2 : Int) (s2 : ByteArray) (a2 a2' : Option Addr) (L2 : List Int) (T2 : List ByteArray) (l2 l2' c2 c2' : Nat) (hL2 : L2.length = l2) (hT2 : T2.length = l2') (hlc2 : l2 ≤ c2) (hs2 : s2.size ≤ 9223372036854775807) (hc2 : c2 ≤ 9223372036854775807) (hc2' : l2' ≤ 9223372036854775807) (hl2 : IntsAt w a2 L2) (hl2' : StrsAt w a2' T2) (hTz2 : ∀ x ∈ T2, x.size ≤ 9223372036854775807) (k : Int) (hk : k % 4 = 0) (k0 : 0 ≤ k) (k1 : k < 256) :
    Calls Try.prog 39 #[.agg #[.int .u8 K, .int .i64 n, .string s, .slice a l c, .slice a' l' c'], .agg #[.int .u8 K2, .int .i64 n2, .string s2, .slice a2 l2 c2, .slice a2' l2' c2'], .int .u8 k] w fun e w' => e = .returned (.bool (decide (n = n2))) ∧ Below w.heap.size w w' := by
  clear hl hl' hTz hL hT hl2 hl2' hTz2 hL2 hT2
  go_enter Try.func39, Try.ntmps39
  have hA : Below w.heap.size w ((w.alloc (.cells #[.int .u8 K, .int .i64 n, .string s, .slice a l c, .slice a' l' c'] 45)).alloc (.cells #[.int .u8 K2, .int .i64 n2, .string s2, .slice a2 l2 c2, .slice a2' l2' c2'] 45)) := by go_grown
  go_wp2_with fail
  go_ret
  exact ⟨rfl, hA⟩

set_option maxRecDepth 100000 in
set_option maxHeartbeats 4000000 in
theorem same1 (K n : Int) (s : ByteArray) (a a' : Option Addr) (L : List Int) (T : List ByteArray) (l l' c c' : Nat) (hL : L.length = l) (hT : T.length = l') (hlc : l ≤ c) (hs : s.size ≤ 9223372036854775807) (hc : c ≤ 9223372036854775807) (hc' : l' ≤ 9223372036854775807) (w : World) (hl : IntsAt w a L) (hl' : StrsAt w a' T) (hTz : ∀ x ∈ T, x.size ≤ 9223372036854775807) (K2 n2 : Int) (s2 : ByteArray) (a2 a2' : Option Addr) (L2 : List Int) (T2 : List ByteArray) (l2 l2' c2 c2' : Nat) (hL2 : L2.length = l2) (hT2 : T2.length = l2') (hlc2 : l2 ≤ c2) (hs2 : s2.size ≤ 9223372036854775807) (hc2 : c2 ≤ 9223372036854775807) (hc2' : l2' ≤ 9223372036854775807) (hl2 : IntsAt w a2 L2) (hl2' : StrsAt w a2' T2) (hTz2 : ∀ x ∈ T2, x.size ≤ 9223372036854775807) (k : Int) (hk : k % 4 = 1) (k0 : 0 ≤ k) (k1 : k < 256) :
    Calls Try.prog 39 #[.agg #[.int .u8 K, .int .i64 n, .string s, .slice a l c, .slice a' l' c'], .agg #[.int .u8 K2, .int .i64 n2, .string s2, .slice a2 l2 c2, .slice a2' l2' c2'], .int .u8 k] w fun e w' => e = .returned (.bool (decide (cutS s = cutS s2))) ∧ Below w.heap.size w w' := by
  have hcs := cutS_is s
  have hcs2 := cutS_is s2
  have hd := str_dec (cutS s) (cutS s2)
  clear hl hl' hTz hL hT hl2 hl2' hTz2 hL2 hT2
  go_enter Try.func39, Try.ntmps39
  have hA : Below w.heap.size w ((w.alloc (.cells #[.int .u8 K, .int .i64 n, .string s, .slice a l c, .slice a' l' c'] 45)).alloc (.cells #[.int .u8 K2, .int .i64 n2, .string s2, .slice a2 l2 c2, .slice a2' l2' c2'] 45)) := by go_grown
  go_wp2_with fail
  go_quiet (fail)
  go_wp2_with fail
  go_ret
  exact ⟨rfl, bd hA _⟩

set_option maxRecDepth 100000 in
set_option maxHeartbeats 4000000 in
theorem same2 (K n : Int) (s : ByteArray) (a a' : Option Addr) (L : List Int) (T : List ByteArray) (l l' c c' : Nat) (hL : L.length = l) (hT : T.length = l') (hlc : l ≤ c) (hs : s.size ≤ 9223372036854775807) (hc : c ≤ 9223372036854775807) (hc' : l' ≤ 9223372036854775807) (w : World) (hl : IntsAt w a L) (hl' : StrsAt w a' T) (hTz : ∀ x ∈ T, x.size ≤ 9223372036854775807) (K2 n2 : Int) (s2 : ByteArray) (a2 a2' : Option Addr) (L2 : List Int) (T2 : List ByteArray) (l2 l2' c2 c2' : Nat) (hL2 : L2.length = l2) (hT2 : T2.length = l2') (hlc2 : l2 ≤ c2) (hs2 : s2.size ≤ 9223372036854775807) (hc2 : c2 ≤ 9223372036854775807) (hc2' : l2' ≤ 9223372036854775807) (hl2 : IntsAt w a2 L2) (hl2' : StrsAt w a2' T2) (hTz2 : ∀ x ∈ T2, x.size ≤ 9223372036854775807) (k : Int) (hk : k % 4 = 2) (k0 : 0 ≤ k) (k1 : k < 256) :
    Calls Try.prog 39 #[.agg #[.int .u8 K, .int .i64 n, .string s, .slice a l c, .slice a' l' c'], .agg #[.int .u8 K2, .int .i64 n2, .string s2, .slice a2 l2 c2, .slice a2' l2' c2'], .int .u8 k] w fun e w' => e = .returned (.bool (decide (cutI L = cutI L2))) ∧ Below w.heap.size w w' := by
  have hm : min l 20 ≤ c := by omega
  have hm2 : min l2 20 ≤ c2 := by omega
  have hsl := slice_to a l c (min l 20) hm (min (l : Int) 20) (by omega)
  have hsl2 := slice_to a2 l2 c2 (min l2 20) hm2 (min (l2 : Int) 20) (by omega)
  have I := Lib.hid (fun (W : World) (h : Below w.heap.size w W) => sameInts_any a a2 (cutI L) (cutI L2) (min l 20) (min l2 20) c c2 (by unfold cutI; rw [List.length_take]; omega) (by unfold cutI; rw [List.length_take]; omega) W (ints_take (at_below hl h) 20) (ints_take (at_below hl2 h) 20) (by omega) (by omega))
  generalize decide (cutI L = cutI L2) = D at *
  clear hl hl' hTz hL hT hl2 hl2' hTz2 hL2 hT2
  go_enter Try.func39, Try.ntmps39
  have hA : Below w.heap.size w ((w.alloc (.cells #[.int .u8 K, .int .i64 n, .string s, .slice a l c, .slice a' l' c'] 45)).alloc (.cells #[.int .u8 K2, .int .i64 n2, .string s2, .slice a2 l2 c2, .slice a2' l2' c2'] 45)) := by go_grown
  go_wp2_with fail
  have cA : ((w.alloc (.cells #[.int .u8 K, .int .i64 n, .string s, .slice a l c, .slice a' l' c'] 45)).alloc (.cells #[.int .u8 K2, .int .i64 n2, .string s2, .slice a2 l2 c2, .slice a2' l2' c2'] 45)).cell? ⟨w.heap.size, 3, none⟩ = some (.slice a l c) := by go_cell
  have cB : ((w.alloc (.cells #[.int .u8 K, .int .i64 n, .string s, .slice a l c, .slice a' l' c'] 45)).alloc (.cells #[.int .u8 K2, .int .i64 n2, .string s2, .slice a2 l2 c2, .slice a2' l2' c2'] 45)).cell? ⟨w.heap.size + 1, 3, none⟩ = some (.slice a2 l2 c2) := by go_cell
  generalize ((w.alloc (.cells #[.int .u8 K, .int .i64 n, .string s, .slice a l c, .slice a' l' c'] 45)).alloc (.cells #[.int .u8 K2, .int .i64 n2, .string s2, .slice a2 l2 c2, .slice a2' l2' c2'] 45)) = V at *
  have bx1 : ∀ W, Below V.heap.size V W → W.cell? ⟨w.heap.size, 3, none⟩ = some (.slice a l c) := fun W h => kc h cA
  have bx2 : ∀ W, Below V.heap.size V W → W.cell? ⟨w.heap.size + 1, 3, none⟩ = some (.slice a2 l2 c2) := fun W h => kc h cB
  clear cA cB
  have HA := Lib.hid hA

  go_region_held3 (fun w' => Below V.heap.size V w') (first | (with_reducible exact bd1 (Below.refl _ _)) | (with_reducible exact bt (by assumption) hba))
    (first | ((with_reducible refine (I.out _ (bt HA.out (by assumption))).mono ?_); rintro en wa ⟨rfl, hba⟩))
  all_goals
    have hB : Below w.heap.size w wa := bt HA.out (by with_reducible assumption)
    go_wp2_with fail
    go_ret
    exact ⟨rfl, hB⟩

set_option maxRecDepth 100000 in
set_option maxHeartbeats 4000000 in
theorem same3 (K n : Int) (s : ByteArray) (a a' : Option Addr) (L : List Int) (T : List ByteArray) (l l' c c' : Nat) (hL : L.length = l) (hT : T.length = l') (hlc : l ≤ c) (hs : s.size ≤ 9223372036854775807) (hc : c ≤ 9223372036854775807) (hc' : l' ≤ 9223372036854775807) (w : World) (hl : IntsAt w a L) (hl' : StrsAt w a' T) (hTz : ∀ x ∈ T, x.size ≤ 9223372036854775807) (K2 n2 : Int) (s2 : ByteArray) (a2 a2' : Option Addr) (L2 : List Int) (T2 : List ByteArray) (l2 l2' c2 c2' : Nat) (hL2 : L2.length = l2) (hT2 : T2.length = l2') (hlc2 : l2 ≤ c2) (hs2 : s2.size ≤ 9223372036854775807) (hc2 : c2 ≤ 9223372036854775807) (hc2' : l2' ≤ 9223372036854775807) (hl2 : IntsAt w a2 L2) (hl2' : StrsAt w a2' T2) (hTz2 : ∀ x ∈ T2, x.size ≤ 9223372036854775807) (k : Int) (hk : k % 4 = 3) (k0 : 0 ≤ k) (k1 : k < 256) :
    Calls Try.prog 39 #[.agg #[.int .u8 K, .int .i64 n, .string s, .slice a l c, .slice a' l' c'], .agg #[.int .u8 K2, .int .i64 n2, .string s2, .slice a2 l2 c2, .slice a2' l2' c2'], .int .u8 k] w fun e w' => e = .returned (.bool (decide (cutL T = cutL T2))) ∧ Below w.heap.size w w' := by
  have C := Lib.hid (fun (W : World) (h : Below w.heap.size w W) => cut_any a' T c' l' hT W (sat_below hl' h) hc' hTz)
  have C2 := Lib.hid (fun (W : World) (h : Below w.heap.size w W) => cut_any a2' T2 c2' l2' hT2 W (sat_below hl2' h) hc2' hTz2)
  have I := Lib.hid (fun (W : World) (at1 at2 : Option Addr) (ct1 ct2 : Nat) (h : StrsAt W at1 (cutL T)) (h2 : StrsAt W at2 (cutL T2)) => sameTexts_any at1 at2 (cutL T) (cutL T2) (cutL T).length (cutL T2).length ct1 ct2 rfl rfl W h h2 (by rw [cutL_length]; omega) (by rw [cutL_length]; omega))
  generalize decide (cutL T = cutL T2) = D at *
  clear hl hl' hTz hL hT hl2 hl2' hTz2 hL2 hT2
  go_enter Try.func39, Try.ntmps39
  have hA : Below w.heap.size w ((w.alloc (.cells #[.int .u8 K, .int .i64 n, .string s, .slice a l c, .slice a' l' c'] 45)).alloc (.cells #[.int .u8 K2, .int .i64 n2, .string s2, .slice a2 l2 c2, .slice a2' l2' c2'] 45)) := by go_grown
  go_wp2_with fail
  have cA : ((w.alloc (.cells #[.int .u8 K, .int .i64 n, .string s, .slice a l c, .slice a' l' c'] 45)).alloc (.cells #[.int .u8 K2, .int .i64 n2, .string s2, .slice a2 l2 c2, .slice a2' l2' c2'] 45)).cell? ⟨w.heap.size, 4, none⟩ = some (.slice a' l' c') := by go_cell
  have cB : ((w.alloc (.cells #[.int .u8 K, .int .i64 n, .string s, .slice a l c, .slice a' l' c'] 45)).alloc (.cells #[.int .u8 K2, .int .i64 n2, .string s2, .slice a2 l2 c2, .slice a2' l2' c2'] 45)).cell? ⟨w.heap.size + 1, 4, none⟩ = some (.slice a2' l2' c2') := by go_cell
  generalize ((w.alloc (.cells #[.int .u8 K, .int .i64 n, .string s, .slice a l c, .slice a' l' c'] 45)).alloc (.cells #[.int .u8 K2, .int .i64 n2, .string s2, .slice a2 l2 c2, .slice a2' l2' c2'] 45)) = V at *
  have bx1 : ∀ W, Below V.heap.size V W → W.cell? ⟨w.heap.size, 4, none⟩ = some (.slice a' l' c') := fun W h => kc h cA
  have bx2 : ∀ W, Below V.heap.size V W → W.cell? ⟨w.heap.size + 1, 4, none⟩ = some (.slice a2' l2' c2') := fun W h => kc h cB
  clear cA cB
  have HA := Lib.hid hA
  go_region_held3 (fun w' => Below V.heap.size V w') (first | (with_reducible exact bd1 (Below.refl _ _)) | (with_reducible exact bt (by assumption) hba))
    (first | ((with_reducible refine (C.out _ (bt HA.out (by assumption))).mono ?_); rintro en wa ⟨v, rfl, hrow, hba⟩; obtain ⟨at', ct, rfl, hat, _⟩ := row_bytes hrow; have HAT := Lib.hid hat; clear hrow hat)
           | ((with_reducible refine (C2.out _ (bt HA.out (by assumption))).mono ?_); rintro en wb ⟨v, rfl, hrow2, hba⟩; obtain ⟨at2, ct2, rfl, hat2, _⟩ := row_bytes hrow2; have HI := Lib.hid (I.out _ _ _ ct ct2 (sat_below HAT.out hba) hat2); clear hrow2 hat2)
           | ((with_reducible refine HI.out.mono ?_); rintro en wd ⟨rfl, hba⟩))
  have hB : Below w.heap.size w wd := bt HA.out (by with_reducible assumption)
  go_wp2_with fail
  go_ret
  exact ⟨rfl, hB⟩

/-- Whether two values are the same, as values of a kind. -/
def smK (k n n2 : Int) (s s2 : ByteArray) (L L2 : List Int) (T T2 : List ByteArray) : Bool := if k % 4 = 0 then decide (n = n2) else if k % 4 = 1 then decide (cutS s = cutS s2) else if k % 4 = 2 then decide (cutI L = cutI L2) else decide (cutL T = cutL T2)
theorem smK0 {k n n2 : Int} {s s2 : ByteArray} {L L2 : List Int} {T T2 : List ByteArray} (h : k % 4 = 0) : smK k n n2 s s2 L L2 T T2 = decide (n = n2) := by unfold smK; rw [if_pos h]
theorem smK1 {k n n2 : Int} {s s2 : ByteArray} {L L2 : List Int} {T T2 : List ByteArray} (h : k % 4 = 1) : smK k n n2 s s2 L L2 T T2 = decide (cutS s = cutS s2) := by unfold smK; rw [if_neg (by omega), if_pos h]
theorem smK2 {k n n2 : Int} {s s2 : ByteArray} {L L2 : List Int} {T T2 : List ByteArray} (h : k % 4 = 2) : smK k n n2 s s2 L L2 T T2 = decide (cutI L = cutI L2) := by unfold smK; rw [if_neg (by omega), if_neg (by omega), if_pos h]
theorem smK3 {k n n2 : Int} {s s2 : ByteArray} {L L2 : List Int} {T T2 : List ByteArray} (h : k % 4 = 3) : smK k n n2 s s2 L L2 T T2 = decide (cutL T = cutL T2) := by unfold smK; rw [if_neg (by omega), if_neg (by omega), if_neg (by omega)]
theorem same_any (K n : Int) (s : ByteArray) (a a' : Option Addr) (L : List Int) (T : List ByteArray) (l l' c c' : Nat) (hL : L.length = l) (hT : T.length = l') (hlc : l ≤ c) (hs : s.size ≤ 9223372036854775807) (hc : c ≤ 9223372036854775807) (hc' : l' ≤ 9223372036854775807) (w : World) (hl : IntsAt w a L) (hl' : StrsAt w a' T) (hTz : ∀ x ∈ T, x.size ≤ 9223372036854775807) (K2 n2 : Int) (s2 : ByteArray) (a2 a2' : Option Addr) (L2 : List Int) (T2 : List ByteArray) (l2 l2' c2 c2' : Nat) (hL2 : L2.length = l2) (hT2 : T2.length = l2') (hlc2 : l2 ≤ c2) (hs2 : s2.size ≤ 9223372036854775807) (hc2 : c2 ≤ 9223372036854775807) (hc2' : l2' ≤ 9223372036854775807) (hl2 : IntsAt w a2 L2) (hl2' : StrsAt w a2' T2) (hTz2 : ∀ x ∈ T2, x.size ≤ 9223372036854775807) (k : Int) (k0 : 0 ≤ k) (k1 : k < 256) :
    Calls Try.prog 39 #[.agg #[.int .u8 K, .int .i64 n, .string s, .slice a l c, .slice a' l' c'], .agg #[.int .u8 K2, .int .i64 n2, .string s2, .slice a2 l2 c2, .slice a2' l2' c2'], .int .u8 k] w fun e w' => e = .returned (.bool (smK k n n2 s s2 L L2 T T2)) ∧ Below w.heap.size w w' := by
  rcases kind4 k k0 with h | h | h | h
  · rw [smK0 h]; exact same0 K n s a a' L T l l' c c' hL hT hlc hs hc hc' w hl hl' hTz K2 n2 s2 a2 a2' L2 T2 l2 l2' c2 c2' hL2 hT2 hlc2 hs2 hc2 hc2' hl2 hl2' hTz2 k h k0 k1
  · rw [smK1 h]; exact same1 K n s a a' L T l l' c c' hL hT hlc hs hc hc' w hl hl' hTz K2 n2 s2 a2 a2' L2 T2 l2 l2' c2 c2' hL2 hT2 hlc2 hs2 hc2 hc2' hl2 hl2' hTz2 k h k0 k1
  · rw [smK2 h]; exact same2 K n s a a' L T l l' c c' hL hT hlc hs hc hc' w hl hl' hTz K2 n2 s2 a2 a2' L2 T2 l2 l2' c2 c2' hL2 hT2 hlc2 hs2 hc2 hc2' hl2 hl2' hTz2 k h k0 k1
  · rw [smK3 h]; exact same3 K n s a a' L T l l' c c' hL hT hlc hs hc hc' w hl hl' hTz K2 n2 s2 a2 a2' L2 T2 l2 l2' c2 c2' hL2 hT2 hlc2 hs2 hc2 hc2' hl2 hl2' hTz2 k h k0 k1
end Go.Proofs.Ytadnkofbgifliaa.Wr
