/-
  Layer 2 (wire): a reader at the serialization of a value reads it.
-/
import Derived.Test.YtadnkofbgifliaaWrTr
import Derived.Deep.RegionHeld3
namespace Go.Proofs.Ytadnkofbgifliaa.Wr
open Go.RowKit

theorem rs_drew {w : World} {b : Nat} {s : ByteArray} {bad : Bool} (h : RS w b s bad) : RS w.drew b s bad := by
  have := rs_kept h (gd (gr w none) 1) (by simp)
  exact this
theorem gd1 {a w : World} {r : Option Nat} (h : a.grownBy w r) : a.grownBy w.drew r := ⟨h.os, h.tape, h.output, h.size, h.block⟩
theorem gdr {a v : World} {r : Option Nat} (h : a.drew.grownBy v r) : a.grownBy v r := ⟨h.os, h.tape, h.output, h.size, h.block⟩
theorem gtb {a w v : World} {r : Option Nat} (h : a.grownBy w r) (hb : Below w.heap.size w v) : a.grownBy v r :=
  ⟨hb.os.trans h.os, hb.tape.trans h.tape, hb.output.trans h.output, Nat.le_trans h.size hb.size, fun i hi hn => (hb.block i (Nat.lt_of_lt_of_le hi h.size)).trans (h.block i hi hn)⟩
theorem kg {a w : World} {r b o : Nat} {v : Value} (h : a.grownBy w (some r)) (hc : a.cell? ⟨b, o, none⟩ = some v) (hn : b ≠ r) : w.cell? ⟨b, o, none⟩ = some v :=
  h.cell hc (by simpa using hn)
theorem bgr {w u v : World} {r : Nat} (h : Below w.heap.size w u) (g : u.grownBy v (some r)) : w.grownBy v (some r) :=
  ⟨g.os.trans h.os, g.tape.trans h.tape, g.output.trans h.output, Nat.le_trans h.size g.size, fun i hi hn => (g.block i (Nat.lt_of_lt_of_le hi h.size) hn).trans (h.block i hi)⟩
theorem at_kept2 {w w' : World} {a : Option Addr} {l : List Int} {b : Nat} (h : IntsAt w a l) (hg : w.grownBy w' (some b)) (hne : ∀ g, a = some g → l ≠ [] → g.block ≠ b) : IntsAt w' a l := fun i x hx => by
  obtain ⟨g, off, rfl, hc⟩ := h i x hx
  exact ⟨g, off, rfl, hg.cell hc (by have := hne _ rfl (by rintro rfl; simp at hx); simpa using this)⟩
theorem sat_kept2 {w w' : World} {a : Option Addr} {l : List ByteArray} {b : Nat} (h : StrsAt w a l) (hg : w.grownBy w' (some b)) (hne : ∀ g, a = some g → l ≠ [] → g.block ≠ b) : StrsAt w' a l := fun i x hx => by
  obtain ⟨g, off, rfl, hc⟩ := h i x hx
  exact ⟨g, off, rfl, hg.cell hc (by have := hne _ rfl (by rintro rfl; simp at hx); simpa using this)⟩
theorem ints_lt {w : World} {a : Option Addr} {l : List Int} (h : IntsAt w a l) (g : Addr) (hg : a = some g) (hl : l ≠ []) : g.block < w.heap.size := by
  cases l with
  | nil => exact absurd rfl hl
  | cons x l =>
    obtain ⟨b, off, rfl, hc⟩ := h 0 x rfl
    cases hg
    exact block_lt_of_cell hc
theorem strs_lt {w : World} {a : Option Addr} {l : List ByteArray} (h : StrsAt w a l) (g : Addr) (hg : a = some g) (hl : l ≠ []) : g.block < w.heap.size := by
  cases l with
  | nil => exact absurd rfl hl
  | cons x l =>
    obtain ⟨b, off, rfl, hc⟩ := h 0 x rfl
    cases hg
    exact block_lt_of_cell hc
theorem sto {s : ByteArray} {X : List UInt8} {t : List UInt8} (h : s.data.toList = X ++ t) : s.data.toList = X ++ t := h
theorem mkS_strs (l : List ByteArray) : mkS (l.map fun s => s.data.toList) = l := by
  unfold mkS
  rw [List.map_map]
  have : ((fun x : List UInt8 => (⟨x.toArray⟩ : ByteArray)) ∘ fun s : ByteArray => s.data.toList) = id := by
    funext s; exact bytes_eq (by simp)
  rw [this, List.map_id]

set_option maxRecDepth 100000 in
set_option maxHeartbeats 4000000 in
theorem read0 (K n : Int) (s : ByteArray) (a a' : Option Addr) (L : List Int) (T : List ByteArray) (l l' c c' : Nat) (hL : L.length = l) (hT : T.length = l') (hlc : l ≤ c) (k : Int) (hk : k % 4 = 0) (k0 : 0 ≤ k) (k1 : k < 256) (hn : inI n) (hs : s.size ≤ 9223372036854775807) (hc : c ≤ 9223372036854775807) (hc' : l' ≤ 9223372036854775807) (w : World) (hl : IntsAt w a L) (hl' : StrsAt w a' T) (hLb : ∀ x ∈ L, inI x) (hTz : ∀ x ∈ T, x.size ≤ 9223372036854775807) (b : Nat) (S : ByteArray) (hR : RS w b S false) (hS : S.size ≤ 1000000) (t : List UInt8) (ht : S.data.toList = (byK k n s L T).data.toList ++ t) (ha : ∀ g, a = some g → L ≠ [] → g.block ≠ b) (ha' : ∀ g, a' = some g → T ≠ [] → g.block ≠ b) :
    Calls Try.prog 37 #[.agg #[.int .u8 K, .int .i64 n, .string s, .slice a l c, .slice a' l' c'], .pointer (some ⟨b, 0, none⟩), .int .u8 k] w fun e w' => e = .returned (.bool true) ∧ RS w' b ⟨t.toArray⟩ false ∧ w.grownBy w' (some b) := by
  rw [byK0 hk, strI_list] at ht
  have I := Lib.hid (fun (W : World) (h : RS W b S false) => rint_ok b S false W h (by omega) n t hn ht)
  clear hl hl' hTz hL hT ha ha' hLb ht
  have hA : Below w.heap.size w (w.alloc (.cells #[.int .u8 K, .int .i64 n, .string s, .slice a l c, .slice a' l' c'] 45)) := by go_grown
  have cA : (w.alloc (.cells #[.int .u8 K, .int .i64 n, .string s, .slice a l c, .slice a' l' c'] 45)).cell? ⟨w.heap.size, 1, none⟩ = some (.int .i64 n) := by go_cell
  have hRV := rs_below hR hA
  have hbw : w.heap.size ≠ b := by have := rs_lt hR; omega
  have HA := Lib.hid hA
  go_enter Try.func37, Try.ntmps37
  go_wp2_with fail
  generalize (w.alloc (.cells #[.int .u8 K, .int .i64 n, .string s, .slice a l c, .slice a' l' c'] 45)) = V at *
  have HV := Lib.hid hRV
  have bx : ∀ W, V.grownBy W (some b) → W.cell? ⟨w.heap.size, 1, none⟩ = some (.int .i64 n) := fun W h => kg h cA hbw
  clear cA hRV hA hR
  go_region_held3 (fun w' => V.grownBy w' (some b)) (first | (with_reducible assumption) | (with_reducible exact gd1 (gr _ _)) | (with_reducible exact gdr hba) | (with_reducible exact gtb (by assumption) hba) | (with_reducible exact gg (by assumption) hba))
    (first | ((with_reducible refine (I.out _ (rs_drew HV.out)).mono ?_); rintro en wa ⟨rfl, hra, hba⟩))
  all_goals
    have HR := Lib.hid (And.intro hra (bgr HA.out (gdr hba)))
    clear hra hba bx
    go_wp2_with fail
    go_ret
    exact ⟨rfl, HR.out.1, HR.out.2⟩

set_option maxRecDepth 100000 in
set_option maxHeartbeats 4000000 in
theorem read1 (K n : Int) (s : ByteArray) (a a' : Option Addr) (L : List Int) (T : List ByteArray) (l l' c c' : Nat) (hL : L.length = l) (hT : T.length = l') (hlc : l ≤ c) (k : Int) (hk : k % 4 = 1) (k0 : 0 ≤ k) (k1 : k < 256) (hn : inI n) (hs : s.size ≤ 9223372036854775807) (hc : c ≤ 9223372036854775807) (hc' : l' ≤ 9223372036854775807) (w : World) (hl : IntsAt w a L) (hl' : StrsAt w a' T) (hLb : ∀ x ∈ L, inI x) (hTz : ∀ x ∈ T, x.size ≤ 9223372036854775807) (b : Nat) (S : ByteArray) (hR : RS w b S false) (hS : S.size ≤ 1000000) (t : List UInt8) (ht : S.data.toList = (byK k n s L T).data.toList ++ t) (ha : ∀ g, a = some g → L ≠ [] → g.block ≠ b) (ha' : ∀ g, a' = some g → T ≠ [] → g.block ≠ b) :
    Calls Try.prog 37 #[.agg #[.int .u8 K, .int .i64 n, .string s, .slice a l c, .slice a' l' c'], .pointer (some ⟨b, 0, none⟩), .int .u8 k] w fun e w' => e = .returned (.bool true) ∧ RS w' b ⟨t.toArray⟩ false ∧ w.grownBy w' (some b) := by
  rw [byK1 hk, strT_list] at ht
  have hcs := cutS_is s
  have he : (⟨(cutS s).data.toList.toArray⟩ : ByteArray) = cutS s := bytes_eq (by simp)
  have I := Lib.hid (fun (W : World) (h : RS W b S false) => rtext_ok b S false W h (by omega) (by simp) (cutS s).data.toList t ht)
  rw [he] at I
  have hss := str_eq (x := cutS s) rfl
  have m0 : (0 : Int) ≤ min (s.size : Int) 100 := by omega
  have m1 : min (s.size : Int) 100 ≤ (s.size : Int) := by omega
  clear he
  clear hl hl' hTz hL hT ha ha' hLb ht
  have hA : Below w.heap.size w (w.alloc (.cells #[.int .u8 K, .int .i64 n, .string s, .slice a l c, .slice a' l' c'] 45)) := by go_grown
  have cA : (w.alloc (.cells #[.int .u8 K, .int .i64 n, .string s, .slice a l c, .slice a' l' c'] 45)).cell? ⟨w.heap.size, 2, none⟩ = some (.string s) := by go_cell
  have hRV := rs_below hR hA
  have hbw : w.heap.size ≠ b := by have := rs_lt hR; omega
  have HA := Lib.hid hA
  go_enter Try.func37, Try.ntmps37
  go_wp2_with fail
  generalize (w.alloc (.cells #[.int .u8 K, .int .i64 n, .string s, .slice a l c, .slice a' l' c'] 45)) = V at *
  have HV := Lib.hid hRV
  have bx : ∀ W, V.grownBy W (some b) → W.cell? ⟨w.heap.size, 2, none⟩ = some (.string s) := fun W h => kg h cA hbw
  clear cA hRV hA hR
  go_region_held3 (fun w' => V.grownBy w' (some b)) (first | (with_reducible assumption) | (with_reducible exact gd1 (gr _ _)) | (with_reducible exact gdr hba) | (with_reducible exact gtb (by assumption) hba) | (with_reducible exact gg (by assumption) hba))
    (first | ((with_reducible refine (I.out _ (rs_drew HV.out)).mono ?_); rintro en wa ⟨rfl, hra, hba⟩))
  all_goals
    have HR := Lib.hid (And.intro hra (bgr HA.out (gdr hba)))
    clear hra hba bx
    go_wp2_with fail
    go_ret
    exact ⟨rfl, HR.out.1, HR.out.2⟩

set_option maxRecDepth 100000 in
set_option maxHeartbeats 4000000 in
theorem read2 (K n : Int) (s : ByteArray) (a a' : Option Addr) (L : List Int) (T : List ByteArray) (l l' c c' : Nat) (hL : L.length = l) (hT : T.length = l') (hlc : l ≤ c) (k : Int) (hk : k % 4 = 2) (k0 : 0 ≤ k) (k1 : k < 256) (hn : inI n) (hs : s.size ≤ 9223372036854775807) (hc : c ≤ 9223372036854775807) (hc' : l' ≤ 9223372036854775807) (w : World) (hl : IntsAt w a L) (hl' : StrsAt w a' T) (hLb : ∀ x ∈ L, inI x) (hTz : ∀ x ∈ T, x.size ≤ 9223372036854775807) (b : Nat) (S : ByteArray) (hR : RS w b S false) (hS : S.size ≤ 1000000) (t : List UInt8) (ht : S.data.toList = (byK k n s L T).data.toList ++ t) (ha : ∀ g, a = some g → L ≠ [] → g.block ≠ b) (ha' : ∀ g, a' = some g → T ≠ [] → g.block ≠ b) :
    Calls Try.prog 37 #[.agg #[.int .u8 K, .int .i64 n, .string s, .slice a l c, .slice a' l' c'], .pointer (some ⟨b, 0, none⟩), .int .u8 k] w fun e w' => e = .returned (.bool true) ∧ RS w' b ⟨t.toArray⟩ false ∧ w.grownBy w' (some b) := by
  rw [byK2 hk, strIs_list] at ht
  have hm : min l 20 ≤ c := by omega
  have hsl := slice_to a l c (min l 20) hm (min (l : Int) 20) (by omega)
  have hcl : (cutI L).length = min l 20 := by unfold cutI; rw [List.length_take]; omega
  have I := Lib.hid (fun (W : World) (h : RS W b S false) => rints_ok b S false W h hS (by simp) (cutI L) t (fun x hx => hLb x (List.mem_of_mem_take hx)) ht)
  have J := Lib.hid (fun (W : World) (at' : Option Addr) (ct : Nat) (h : IntsAt W at' (cutI L)) (h2 : IntsAt W a L) => sameInts_any at' a (cutI L) (cutI L) (cutI L).length (min l 20) ct c rfl hcl W h (ints_take h2 20) (by omega) (by omega))
  rw [decide_eq_true rfl] at J
  have HL := Lib.hid (And.intro hl ha)
  clear hcl
  clear hl hl' hTz hL hT ha ha' hLb ht
  have hA : Below w.heap.size w (w.alloc (.cells #[.int .u8 K, .int .i64 n, .string s, .slice a l c, .slice a' l' c'] 45)) := by go_grown
  have cA : (w.alloc (.cells #[.int .u8 K, .int .i64 n, .string s, .slice a l c, .slice a' l' c'] 45)).cell? ⟨w.heap.size, 3, none⟩ = some (.slice a l c) := by go_cell
  have hRV := rs_below hR hA
  have hbw : w.heap.size ≠ b := by have := rs_lt hR; omega
  have HA := Lib.hid hA
  go_enter Try.func37, Try.ntmps37
  go_wp2_with fail
  generalize (w.alloc (.cells #[.int .u8 K, .int .i64 n, .string s, .slice a l c, .slice a' l' c'] 45)) = V at *
  have HV := Lib.hid hRV
  have HLV := Lib.hid (at_below HL.out.1 hA)
  have bx : ∀ W, V.grownBy W (some b) → W.cell? ⟨w.heap.size, 3, none⟩ = some (.slice a l c) := fun W h => kg h cA hbw
  clear cA hRV hA hR
  go_region_held3 (fun w' => V.grownBy w' (some b)) (first | (with_reducible assumption) | (with_reducible exact gd1 (gr _ _)) | (with_reducible exact gdr hba) | (with_reducible exact gtb (by assumption) hba) | (with_reducible exact gg (by assumption) hba))
    (first | ((with_reducible refine (I.out _ (rs_drew HV.out)).mono ?_); rintro en wa ⟨v, rfl, hrow, hra, hba⟩; obtain ⟨at', ct, rfl, hat, _⟩ := row_ints hrow; have HR := Lib.hid (And.intro hra (bgr HA.out (gdr hba))); have HJ := Lib.hid (J.out wa at' ct hat (at_kept2 HLV.out (gdr hba) HL.out.2)); clear hrow hat hra)
           | ((with_reducible refine HJ.out.mono ?_); rintro en wb ⟨rfl, hba⟩; have HQ := Lib.hid (And.intro (rs_below HR.out.1 hba) (gtb HR.out.2 hba))))
  all_goals
    clear bx
    go_wp2_with fail
    go_ret
    exact ⟨rfl, HQ.out.1, HQ.out.2⟩

set_option maxRecDepth 100000 in
set_option maxHeartbeats 4000000 in
theorem read3 (K n : Int) (s : ByteArray) (a a' : Option Addr) (L : List Int) (T : List ByteArray) (l l' c c' : Nat) (hL : L.length = l) (hT : T.length = l') (hlc : l ≤ c) (k : Int) (hk : k % 4 = 3) (k0 : 0 ≤ k) (k1 : k < 256) (hn : inI n) (hs : s.size ≤ 9223372036854775807) (hc : c ≤ 9223372036854775807) (hc' : l' ≤ 9223372036854775807) (w : World) (hl : IntsAt w a L) (hl' : StrsAt w a' T) (hLb : ∀ x ∈ L, inI x) (hTz : ∀ x ∈ T, x.size ≤ 9223372036854775807) (b : Nat) (S : ByteArray) (hR : RS w b S false) (hS : S.size ≤ 1000000) (t : List UInt8) (ht : S.data.toList = (byK k n s L T).data.toList ++ t) (ha : ∀ g, a = some g → L ≠ [] → g.block ≠ b) (ha' : ∀ g, a' = some g → T ≠ [] → g.block ≠ b) :
    Calls Try.prog 37 #[.agg #[.int .u8 K, .int .i64 n, .string s, .slice a l c, .slice a' l' c'], .pointer (some ⟨b, 0, none⟩), .int .u8 k] w fun e w' => e = .returned (.bool true) ∧ RS w' b ⟨t.toArray⟩ false ∧ w.grownBy w' (some b) := by
  rw [byK3 hk, strTs_list] at ht
  have C := Lib.hid (fun (W : World) (h : StrsAt W a' T) => cut_any a' T c' l' hT W h hc' hTz)
  have ht2 : S.data.toList = encTs ((cutL T).map fun s => s.data.toList) ++ t := by rw [ht]; unfold encTs; rw [List.flatMap_map, List.length_map]
  have I := Lib.hid (fun (W : World) (h : RS W b S false) => rtexts_ok b S false W h hS (by simp) _ t ht2)
  have J := Lib.hid (fun (W : World) (at1 at2 : Option Addr) (ct1 ct2 q1 q2 : Nat) (hq1 : (cutL T).length = q1) (hq2 : (cutL T).length = q2) (h : StrsAt W at1 (cutL T)) (h2 : StrsAt W at2 (cutL T)) => sameTexts_any at1 at2 (cutL T) (cutL T) q1 q2 ct1 ct2 hq1 hq2 W h h2 (by rw [← hq1, cutL_length]; omega) (by rw [← hq2, cutL_length]; omega))
  rw [decide_eq_true rfl] at J
  have HL := Lib.hid (And.intro hl' ha')
  clear ht2
  clear hl hl' hTz hL hT ha ha' hLb ht
  have hA : Below w.heap.size w (w.alloc (.cells #[.int .u8 K, .int .i64 n, .string s, .slice a l c, .slice a' l' c'] 45)) := by go_grown
  have cA : (w.alloc (.cells #[.int .u8 K, .int .i64 n, .string s, .slice a l c, .slice a' l' c'] 45)).cell? ⟨w.heap.size, 4, none⟩ = some (.slice a' l' c') := by go_cell
  have hRV := rs_below hR hA
  have hbw : w.heap.size ≠ b := by have := rs_lt hR; omega
  have HA := Lib.hid hA
  go_enter Try.func37, Try.ntmps37
  go_wp2_with fail
  generalize (w.alloc (.cells #[.int .u8 K, .int .i64 n, .string s, .slice a l c, .slice a' l' c'] 45)) = V at *
  have HV := Lib.hid hRV
  have HLV := Lib.hid (sat_below HL.out.1 hA)
  have bx : ∀ W, V.grownBy W (some b) → W.cell? ⟨w.heap.size, 4, none⟩ = some (.slice a' l' c') := fun W h => kg h cA hbw
  clear cA hRV hA hR
  go_region_held3 (fun w' => V.grownBy w' (some b)) (first | (with_reducible assumption) | (with_reducible exact gd1 (gr _ _)) | (with_reducible exact gdr hba) | (with_reducible exact gtb (by assumption) hba) | (with_reducible exact gg (by assumption) hba))
    (first | ((with_reducible refine (I.out _ (rs_drew HV.out)).mono ?_); rintro en wa ⟨v, rfl, hrow, hra, hba⟩; obtain ⟨at', ct, rfl, hat, _⟩ := row_strs hrow; have HR := Lib.hid (And.intro hra (And.intro (bgr HA.out (gdr hba)) hat)); have HC := Lib.hid (C.out wa (sat_kept2 HLV.out (gdr hba) HL.out.2)); clear hrow hat hra)
           | ((with_reducible refine HC.out.mono ?_); rintro en wb ⟨v, rfl, hrow2, hba⟩; obtain ⟨at2, ct2, rfl, hat2, _⟩ := row_bytes hrow2; have HJ := Lib.hid (J.out wb at' at2 ct ct2 (cutL T).length (cutL T).length rfl rfl (by have := sat_below HR.out.2.2 hba; rw [mkS_strs] at this; exact this) hat2); have HQ := Lib.hid (And.intro (rs_below HR.out.1 hba) (gtb HR.out.2.1 hba)); clear hrow2 hat2)
           | ((with_reducible refine HJ.out.mono ?_); rintro en wd ⟨rfl, hba⟩; have HZ := Lib.hid (And.intro (rs_below HQ.out.1 hba) (gtb HQ.out.2 hba))))
  all_goals
    clear bx
    go_wp2_with fail
    go_ret
    exact ⟨rfl, HZ.out.1, HZ.out.2⟩

theorem read_any (K n : Int) (s : ByteArray) (a a' : Option Addr) (L : List Int) (T : List ByteArray) (l l' c c' : Nat) (hL : L.length = l) (hT : T.length = l') (hlc : l ≤ c) (k : Int) (k0 : 0 ≤ k) (k1 : k < 256) (hn : inI n) (hs : s.size ≤ 9223372036854775807) (hc : c ≤ 9223372036854775807) (hc' : l' ≤ 9223372036854775807) (w : World) (hl : IntsAt w a L) (hl' : StrsAt w a' T) (hLb : ∀ x ∈ L, inI x) (hTz : ∀ x ∈ T, x.size ≤ 9223372036854775807) (b : Nat) (S : ByteArray) (hR : RS w b S false) (hS : S.size ≤ 1000000) (t : List UInt8) (ht : S.data.toList = (byK k n s L T).data.toList ++ t) (ha : ∀ g, a = some g → L ≠ [] → g.block ≠ b) (ha' : ∀ g, a' = some g → T ≠ [] → g.block ≠ b) :
    Calls Try.prog 37 #[.agg #[.int .u8 K, .int .i64 n, .string s, .slice a l c, .slice a' l' c'], .pointer (some ⟨b, 0, none⟩), .int .u8 k] w fun e w' => e = .returned (.bool true) ∧ RS w' b ⟨t.toArray⟩ false ∧ w.grownBy w' (some b) := by
  rcases kind4 k k0 with h | h | h | h
  · exact read0 K n s a a' L T l l' c c' hL hT hlc k h k0 k1 hn hs hc hc' w hl hl' hLb hTz b S hR hS t ht ha ha'
  · exact read1 K n s a a' L T l l' c c' hL hT hlc k h k0 k1 hn hs hc hc' w hl hl' hLb hTz b S hR hS t ht ha ha'
  · exact read2 K n s a a' L T l l' c c' hL hT hlc k h k0 k1 hn hs hc hc' w hl hl' hLb hTz b S hR hS t ht ha ha'
  · exact read3 K n s a a' L T l l' c c' hL hT hlc k h k0 k1 hn hs hc hc' w hl hl' hLb hTz b S hR hS t ht ha ha'
end Go.Proofs.Ytadnkofbgifliaa.Wr
