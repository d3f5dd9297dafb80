/-
  Layer 2 (wire): the serializations of strings and lists by the document's own functions.
-/
import Derived.Test.YtadnkofbgifliaaWrR
namespace Go.Proofs.Ytadnkofbgifliaa.Wr
open Go.RowKit

set_option maxHeartbeats 1000000 in
theorem ref_text (s : ByteArray) (h : s.size ≤ 140737488355327) (w : World) :
    Calls Try.prog 15 #[.string s] w fun e w' => e = .returned (.string (strT s)) ∧ Below w.heap.size w w' := by
  have I := Lib.hid (ref_int s.size (by unfold inI; omega))
  have T : Hid (strT s = strI s.size ++ s) := Lib.hid rfl
  go_enter Try.func15, Try.ntmps15
  go_wp2_with fail
  refine (I.out _).mono ?_
  rintro e w' ⟨rfl, hB⟩
  have hx : (strI s.size).size ≤ 10 := by rw [strI_size]; exact encI_le _ (by omega)
  generalize strI s.size = x at *
  have cat := fun w => run_string_add_sum (P := Try.prog) (w := w) x s (by omega)
  go_wp2
  go_ret
  exact ⟨by rw [T.out]; rfl, hB⟩

set_option maxRecDepth 100000 in
set_option maxHeartbeats 4000000 in
theorem ref_ints (a : Option Addr) (l : List Int) (c n : Nat) (hn : l.length = n) (w : World) (hl : IntsAt w a l) (hb : ∀ x ∈ l, inI x) (hs : n ≤ 1000000) :
    Calls Try.prog 17 #[.slice a n c] w fun e w' => e = .returned (.string (strIs l)) ∧ Below w.heap.size w w' := by
  have I := Lib.hid (ref_int n (by unfold inI; omega))
  have hN := encI_le n (by omega)
  have hF := encIs_len l hb
  rw [hn] at hF
  have HB := Lib.hid hb
  clear hb
  have HL := Lib.hid (And.intro hl hn)
  have E : Hid (strIs l = ⟨(encI n ++ (l.take n).flatMap encI).toArray⟩) := Lib.hid (by unfold strIs encIs; rw [List.take_of_length_le (by omega), hn])
  clear hl hn
  go_enter Try.func17, Try.ntmps17
  go_wp2_with fail
  refine (I.out _).mono ?_
  rintro e w1 ⟨rfl, hB1⟩
  go_wp2_with fail
  go_loopw [3, 4] (fun s3 s4 wr => ∃ k : Nat, k ≤ n ∧ s4 = .int .i64 k ∧ s3 = .string ⟨(encI n ++ (l.take k).flatMap encI).toArray⟩ ∧ Below w.heap.size w wr) (fun _ s4 _ => n - (intOf s4).toNat)
  case atStart => exact ⟨0, by omega, rfl, by simp [strI], hB1⟩
  case round =>
    obtain ⟨k, hk, rfl, rfl, hB⟩ := hrel
    clear hB1
    rcases Nat.lt_or_ge k n with hlt | hge
    · have hx : l[k]? = some (l[k]'(by rw [HL.out.2]; exact hlt)) := List.getElem?_eq_getElem _
      obtain ⟨b, off, rfl, hc⟩ := HL.out.1 k _ hx
      have hmem : l[k]'(by rw [HL.out.2]; exact hlt) ∈ l := List.getElem_mem _
      have F := flat_take (encI) l k (by rw [HL.out.2]; exact hlt)
      have G := flat_le (encI) l (k + 1)
      rw [F, List.length_append] at G
      have ck : wr.cell? ⟨b, off + k, none⟩ = some (Value.int .i64 (l[k]'(by rw [HL.out.2]; exact hlt))) := by rw [hB.cell (p := ⟨b, off + k, none⟩) (block_lt_of_cell hc)]; exact hc
      clear hx hc
      generalize l[k]'(by rw [HL.out.2]; exact hlt) = x at *
      have X := Lib.hid (ref_int x (HB.out _ hmem))
      have hz2 : (strI x).size = (encI x).length := rfl
      have Y : (⟨(encI n ++ (l.take (k + 1)).flatMap encI).toArray⟩ : ByteArray) = ⟨(encI n ++ (l.take k).flatMap encI).toArray⟩ ++ strI x := by rw [F, ← List.append_assoc, ← ByteArray.mk_append_mk]; rfl
      have hz1 : (⟨(encI n ++ (l.take k).flatMap encI).toArray⟩ : ByteArray).size = (encI n ++ (l.take k).flatMap encI).length := mk_size _
      rw [List.length_append] at hz1
      clear F
      generalize (⟨(encI n ++ (l.take k).flatMap encI).toArray⟩ : ByteArray) = S at *
      have HY := Lib.hid Y
      clear Y
      have cat := fun w => run_string_add_sum (P := Try.prog) (w := w) S (strI x) (by omega)
      generalize strI x = T at *
      clear hz1
      go_wp2_with fail
      refine (X.out _).mono ?_
      rintro e w3 ⟨rfl, hB3⟩
      have hB4 : Below w.heap.size w w3 := hB.trans (hB3.mono hB.size)
      go_wp2_with fail
      go_roundw
      case rel => exact ⟨k + 1, by omega, by congr 1, by rw [HY.out], hB4⟩
      case measure => simp [intOf]; omega
    · have hkn : k = n := by omega
      subst hkn
      go_wp2_with fail
      go_ret
      exact ⟨by rw [E.out]; rfl, hB⟩

set_option maxRecDepth 100000 in
set_option maxHeartbeats 4000000 in
theorem ref_texts (a : Option Addr) (l : List ByteArray) (c n : Nat) (hn : l.length = n) (w : World) (hl : StrsAt w a l) (hF : (l.flatMap fun s => encT s.data.toList).length ≤ 140737488000000) (hs : n ≤ 1000000) :
    Calls Try.prog 19 #[.slice a n c] w fun e w' => e = .returned (.string (strTs l)) ∧ Below w.heap.size w w' := by
  have I := Lib.hid (ref_int n (by unfold inI; omega))
  have hN := encI_le n (by omega)

  have HL := Lib.hid (And.intro hl hn)
  have E : Hid (strTs l = ⟨(encI n ++ (l.take n).flatMap fun s : ByteArray => encT s.data.toList).toArray⟩) := Lib.hid (by unfold strTs encTb; rw [List.take_of_length_le (by omega), hn])
  clear hl hn
  go_enter Try.func19, Try.ntmps19
  go_wp2_with fail
  refine (I.out _).mono ?_
  rintro e w1 ⟨rfl, hB1⟩
  go_wp2_with fail
  go_loopw [3, 4] (fun s3 s4 wr => ∃ k : Nat, k ≤ n ∧ s4 = .int .i64 k ∧ s3 = .string ⟨(encI n ++ (l.take k).flatMap fun s : ByteArray => encT s.data.toList).toArray⟩ ∧ Below w.heap.size w wr) (fun _ s4 _ => n - (intOf s4).toNat)
  case atStart => exact ⟨0, by omega, rfl, by simp [strI], hB1⟩
  case round =>
    obtain ⟨k, hk, rfl, rfl, hB⟩ := hrel
    clear hB1
    rcases Nat.lt_or_ge k n with hlt | hge
    · have hx : l[k]? = some (l[k]'(by rw [HL.out.2]; exact hlt)) := List.getElem?_eq_getElem _
      obtain ⟨b, off, rfl, hc⟩ := HL.out.1 k _ hx
      have hmem : l[k]'(by rw [HL.out.2]; exact hlt) ∈ l := List.getElem_mem _
      have F := flat_take (fun s : ByteArray => encT s.data.toList) l k (by rw [HL.out.2]; exact hlt)
      have G := flat_le (fun s : ByteArray => encT s.data.toList) l (k + 1)
      rw [F, List.length_append] at G
      have ck : wr.cell? ⟨b, off + k, none⟩ = some (Value.string (l[k]'(by rw [HL.out.2]; exact hlt))) := by rw [hB.cell (p := ⟨b, off + k, none⟩) (block_lt_of_cell hc)]; exact hc
      clear hx hc
      generalize l[k]'(by rw [HL.out.2]; exact hlt) = x at *
      have hz2 : (strT x).size = (encT x.data.toList).length := strT_size x
      have X := Lib.hid (ref_text x (by
        have e2 : x.data.toList.length = x.size := by rw [← size_list]
        have e3 : (encT x.data.toList).length = (encI x.data.toList.length).length + x.data.toList.length := by unfold encT; rw [List.length_append]
        omega))
      have Y : (⟨(encI n ++ (l.take (k + 1)).flatMap fun s : ByteArray => encT s.data.toList).toArray⟩ : ByteArray) = ⟨(encI n ++ (l.take k).flatMap fun s : ByteArray => encT s.data.toList).toArray⟩ ++ strT x := by rw [F, ← List.append_assoc, ← ByteArray.mk_append_mk, ← strT_list]
      have hz1 : (⟨(encI n ++ (l.take k).flatMap fun s : ByteArray => encT s.data.toList).toArray⟩ : ByteArray).size = (encI n ++ (l.take k).flatMap fun s : ByteArray => encT s.data.toList).length := mk_size _
      rw [List.length_append] at hz1
      clear F
      generalize (⟨(encI n ++ (l.take k).flatMap fun s : ByteArray => encT s.data.toList).toArray⟩ : ByteArray) = S at *
      have HY := Lib.hid Y
      clear Y
      have cat := fun w => run_string_add_sum (P := Try.prog) (w := w) S (strT x) (by omega)
      generalize strT x = T at *
      clear hz1
      go_wp2_with fail
      refine (X.out _).mono ?_
      rintro e w3 ⟨rfl, hB3⟩
      have hB4 : Below w.heap.size w w3 := hB.trans (hB3.mono hB.size)
      go_wp2_with fail
      go_roundw
      case rel => exact ⟨k + 1, by omega, by congr 1, by rw [HY.out], hB4⟩
      case measure => simp [intOf]; omega
    · have hkn : k = n := by omega
      subst hkn
      go_wp2_with fail
      go_ret
      exact ⟨by rw [E.out]; rfl, hB⟩
end Go.Proofs.Ytadnkofbgifliaa.Wr
