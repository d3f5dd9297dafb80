/-
  Layer 2 (wire): the law's values: their serializations, and when they are the same.
-/
import Derived.Test.YtadnkofbgifliaaWrU
namespace Go.Proofs.Ytadnkofbgifliaa.Wr
open Go.RowKit

def cutI (l : List Int) : List Int := l.take 20
theorem cutS_is (s : ByteArray) : s.extract 0 (min (s.size : Int) 100).toNat = cutS s := by unfold cutS; rw [show (min (s.size : Int) 100).toNat = min s.size 100 by omega]
theorem slice_to (a : Option Addr) (n c m : Nat) (hm : m ≤ c) (h : Int) (hh : h = m) (W : World) :
    (Instr.slice 22 (.slice a n c) none (some (.int .i64 h)) none).run Try.prog W = .ok (.slice a m c) W := by
  subst hh
  rw [slice_upto a n c m (by omega) (by omega)]
  rw [Int.toNat_natCast]

set_option maxRecDepth 100000 in
set_option maxHeartbeats 4000000 in
theorem bytes0 (K n : Int) (s : ByteArray) (a a' : Option Addr) (L : List Int) (T : List ByteArray) (l l' c c' : Nat) (hL : L.length = l) (hT : T.length = l') (hlc : l ≤ c) (k : Int) (hk : k % 4 = 0) (k0 : 0 ≤ k) (k1 : k < 256) (hn : inI n) (hs : s.size ≤ 9223372036854775807) (hc : c ≤ 9223372036854775807) (hc' : l' ≤ 9223372036854775807) (w : World) (hl : IntsAt w a L) (hl' : StrsAt w a' T) (hLb : ∀ x ∈ L, inI x) (hTz : ∀ x ∈ T, x.size ≤ 9223372036854775807) :
    Calls Try.prog 36 #[.agg #[.int .u8 K, .int .i64 n, .string s, .slice a l c, .slice a' l' c'], .int .u8 k] w fun e w' => e = .returned (.string (strI n)) ∧ Below w.heap.size w w' := by
  have I := Lib.hid (int_any n hn)
  clear hl hl' hLb hTz hL hT
  go_enter Try.func36, Try.ntmps36
  go_wp2_with fail
  refine (I.out _).mono ?_
  rintro e w1 ⟨rfl, hB1⟩
  have hB : Below w.heap.size w w1 := (show Below w.heap.size w (w.alloc (.cells #[.int .u8 K, .int .i64 n, .string s, .slice a l c, .slice a' l' c'] 45)) by go_grown).trans (hB1.mono (by simp))
  go_wp2_with fail
  go_ret
  exact ⟨rfl, hB⟩

set_option maxRecDepth 100000 in
set_option maxHeartbeats 4000000 in
theorem bytes1 (K n : Int) (s : ByteArray) (a a' : Option Addr) (L : List Int) (T : List ByteArray) (l l' c c' : Nat) (hL : L.length = l) (hT : T.length = l') (hlc : l ≤ c) (k : Int) (hk : k % 4 = 1) (k0 : 0 ≤ k) (k1 : k < 256) (hn : inI n) (hs : s.size ≤ 9223372036854775807) (hc : c ≤ 9223372036854775807) (hc' : l' ≤ 9223372036854775807) (w : World) (hl : IntsAt w a L) (hl' : StrsAt w a' T) (hLb : ∀ x ∈ L, inI x) (hTz : ∀ x ∈ T, x.size ≤ 9223372036854775807) :
    Calls Try.prog 36 #[.agg #[.int .u8 K, .int .i64 n, .string s, .slice a l c, .slice a' l' c'], .int .u8 k] w fun e w' => e = .returned (.string (strT (cutS s))) ∧ Below w.heap.size w w' := by
  have I := Lib.hid (text_any (cutS s) (by have := cutS_size s; omega))
  have hcs := cutS_is s
  clear hl hl' hLb hTz hL hT
  go_enter Try.func36, Try.ntmps36
  go_wp2_with fail
  refine (I.out _).mono ?_
  rintro e w1 ⟨rfl, hB1⟩
  have hB : Below w.heap.size w w1 := (show Below w.heap.size w (w.alloc (.cells #[.int .u8 K, .int .i64 n, .string s, .slice a l c, .slice a' l' c'] 45)) by go_grown).trans (hB1.mono (by simp))
  go_wp2_with fail
  go_ret
  exact ⟨rfl, hB⟩

set_option maxRecDepth 100000 in
set_option maxHeartbeats 4000000 in
theorem bytes2 (K n : Int) (s : ByteArray) (a a' : Option Addr) (L : List Int) (T : List ByteArray) (l l' c c' : Nat) (hL : L.length = l) (hT : T.length = l') (hlc : l ≤ c) (k : Int) (hk : k % 4 = 2) (k0 : 0 ≤ k) (k1 : k < 256) (hn : inI n) (hs : s.size ≤ 9223372036854775807) (hc : c ≤ 9223372036854775807) (hc' : l' ≤ 9223372036854775807) (w : World) (hl : IntsAt w a L) (hl' : StrsAt w a' T) (hLb : ∀ x ∈ L, inI x) (hTz : ∀ x ∈ T, x.size ≤ 9223372036854775807) :
    Calls Try.prog 36 #[.agg #[.int .u8 K, .int .i64 n, .string s, .slice a l c, .slice a' l' c'], .int .u8 k] w fun e w' => e = .returned (.string (strIs (cutI L))) ∧ Below w.heap.size w w' := by
  have hm : min l 20 ≤ c := by omega
  have hsl := slice_to a l c (min l 20) hm (min (l : Int) 20) (by omega)
  have I := Lib.hid (fun (W : World) (h : Below w.heap.size w W) => ints_any a (cutI L) c (min l 20) (by unfold cutI; rw [List.length_take]; omega) W (ints_take (at_below hl h) 20) (fun x hx => hLb x (List.mem_of_mem_take hx)) (by omega))
  clear hl hl' hLb hTz hL hT
  go_enter Try.func36, Try.ntmps36
  have hA : Below w.heap.size w (w.alloc (.cells #[.int .u8 K, .int .i64 n, .string s, .slice a l c, .slice a' l' c'] 45)) := by go_grown
  go_wp2_with fail
  refine (I.out _ hA).mono ?_
  rintro e w1 ⟨rfl, hB1⟩
  have hB : Below w.heap.size w w1 := hA.trans (hB1.mono (by simp))
  go_wp2_with fail
  go_ret
  exact ⟨rfl, hB⟩

set_option maxRecDepth 100000 in
set_option maxHeartbeats 4000000 in
theorem bytes3 (K n : Int) (s : ByteArray) (a a' : Option Addr) (L : List Int) (T : List ByteArray) (l l' c c' : Nat) (hL : L.length = l) (hT : T.length = l') (hlc : l ≤ c) (k : Int) (hk : k % 4 = 3) (k0 : 0 ≤ k) (k1 : k < 256) (hn : inI n) (hs : s.size ≤ 9223372036854775807) (hc : c ≤ 9223372036854775807) (hc' : l' ≤ 9223372036854775807) (w : World) (hl : IntsAt w a L) (hl' : StrsAt w a' T) (hLb : ∀ x ∈ L, inI x) (hTz : ∀ x ∈ T, x.size ≤ 9223372036854775807) :
    Calls Try.prog 36 #[.agg #[.int .u8 K, .int .i64 n, .string s, .slice a l c, .slice a' l' c'], .int .u8 k] w fun e w' => e = .returned (.string (strTs (cutL T))) ∧ Below w.heap.size w w' := by
  have C := Lib.hid (fun (W : World) (h : Below w.heap.size w W) => cut_any a' T c' l' hT W (sat_below hl' h) hc' hTz)
  have I := Lib.hid (fun (W : World) (at' : Option Addr) (ct : Nat) (h : StrsAt W at' (cutL T)) => texts_any at' (cutL T) ct (cutL T).length rfl W h (by rw [cutL_length]; omega) (by have := cut_flat T; omega))
  clear hl hl' hLb hTz hL hT
  go_enter Try.func36, Try.ntmps36
  have hA : Below w.heap.size w (w.alloc (.cells #[.int .u8 K, .int .i64 n, .string s, .slice a l c, .slice a' l' c'] 45)) := by go_grown
  go_wp2_with fail
  refine (C.out _ hA).mono ?_
  rintro e w1 ⟨v, rfl, hrow, hB1⟩
  have hB : Below w.heap.size w w1 := hA.trans (hB1.mono (by simp))
  obtain ⟨at', ct, rfl, hat, _⟩ := row_bytes hrow
  clear hrow hB1
  have J := Lib.hid (I.out w1 at' ct hat)
  clear hat I
  go_wp2_with fail
  refine J.out.mono ?_
  rintro e w2 ⟨rfl, hB2⟩
  have hB' := bt hB hB2
  go_wp2_with fail
  go_ret
  exact ⟨rfl, hB'⟩

/-- The serialization of a value by the function of a kind. -/
def byK (k n : Int) (s : ByteArray) (L : List Int) (T : List ByteArray) : ByteArray := if k % 4 = 0 then strI n else if k % 4 = 1 then strT (cutS s) else if k % 4 = 2 then strIs (cutI L) else strTs (cutL T)
theorem byK0 {k n : Int} {s : ByteArray} {L : List Int} {T : List ByteArray} (h : k % 4 = 0) : byK k n s L T = strI n := by unfold byK; rw [if_pos h]
theorem byK1 {k n : Int} {s : ByteArray} {L : List Int} {T : List ByteArray} (h : k % 4 = 1) : byK k n s L T = strT (cutS s) := by unfold byK; rw [if_neg (by omega), if_pos h]
theorem byK2 {k n : Int} {s : ByteArray} {L : List Int} {T : List ByteArray} (h : k % 4 = 2) : byK k n s L T = strIs (cutI L) := by unfold byK; rw [if_neg (by omega), if_neg (by omega), if_pos h]
theorem byK3 {k n : Int} {s : ByteArray} {L : List Int} {T : List ByteArray} (h : k % 4 = 3) : byK k n s L T = strTs (cutL T) := by unfold byK; rw [if_neg (by omega), if_neg (by omega), if_neg (by omega)]
theorem kind4 (k : Int) (h : 0 ≤ k) : k % 4 = 0 ∨ k % 4 = 1 ∨ k % 4 = 2 ∨ k % 4 = 3 := by omega
theorem bytes_any (K n : Int) (s : ByteArray) (a a' : Option Addr) (L : List Int) (T : List ByteArray) (l l' c c' : Nat) (hL : L.length = l) (hT : T.length = l') (hlc : l ≤ c) (k : Int) (k0 : 0 ≤ k) (k1 : k < 256) (hn : inI n) (hs : s.size ≤ 9223372036854775807) (hc : c ≤ 9223372036854775807) (hc' : l' ≤ 9223372036854775807) (w : World) (hl : IntsAt w a L) (hl' : StrsAt w a' T) (hLb : ∀ x ∈ L, inI x) (hTz : ∀ x ∈ T, x.size ≤ 9223372036854775807) :
    Calls Try.prog 36 #[.agg #[.int .u8 K, .int .i64 n, .string s, .slice a l c, .slice a' l' c'], .int .u8 k] w fun e w' => e = .returned (.string (byK k n s L T)) ∧ Below w.heap.size w w' := by
  rcases kind4 k k0 with h | h | h | h
  · rw [byK0 h]; exact bytes0 K n s a a' L T l l' c c' hL hT hlc k h k0 k1 hn hs hc hc' w hl hl' hLb hTz
  · rw [byK1 h]; exact bytes1 K n s a a' L T l l' c c' hL hT hlc k h k0 k1 hn hs hc hc' w hl hl' hLb hTz
  · rw [byK2 h]; exact bytes2 K n s a a' L T l l' c c' hL hT hlc k h k0 k1 hn hs hc hc' w hl hl' hLb hTz
  · rw [byK3 h]; exact bytes3 K n s a a' L T l l' c c' hL hT hlc k h k0 k1 hn hs hc hc' w hl hl' hLb hTz
end Go.Proofs.Ytadnkofbgifliaa.Wr
