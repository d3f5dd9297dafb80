/-
  Layer 2 (wire): the serializations of strings and of lists.
-/
import Derived.Test.YtadnkofbgifliaaWrC
namespace Go.Proofs.Ytadnkofbgifliaa.Wr
open Go.RowKit

/-- The serialization of a string, as a string of the program. -/
def strT (s : ByteArray) : ByteArray := strI s.size ++ s
theorem strI_size (n : Int) : (strI n).size = (encI n).length := rfl
theorem strT_list (s : ByteArray) : (strT s).data.toList = encT s.data.toList := by
  unfold strT encT strI
  rw [ByteArray.data_append, Array.toList_append, Array.length_toList]
  rfl

set_option maxHeartbeats 1000000 in
theorem text_any (s : ByteArray) (h : s.size ≤ 140737488355327) (w : World) :
    Calls Try.prog 14 #[.string s] w fun e w' => e = .returned (.string (strT s)) ∧ Below w.heap.size w w' := by
  have I := Lib.hid (int_any s.size (by omega))
  have T : Hid (strT s = strI s.size ++ s) := Lib.hid rfl
  go_enter Try.func14, Try.ntmps14
  go_wp2_with fail
  refine (I.out _).mono ?_
  rintro e w' ⟨rfl, hB⟩
  have hx : (strI s.size).size ≤ 10 := by rw [strI_size]; exact encI_le _ (by omega)
  generalize strI s.size = x at *
  have cat := fun w => run_string_add_sum (P := Try.prog) (w := w) x s (by omega)
  go_wp2
  go_ret
  exact ⟨by rw [T.out]; rfl, hB⟩


/-- The numbers of a slice. -/
def IntsAt (w : World) (a : Option Addr) (l : List Int) : Prop := ∀ i x, l[i]? = some x → ∃ b off, a = some ⟨b, off, none⟩ ∧ w.cell? ⟨b, off + i, none⟩ = some (.int .i64 x)
/-- The strings of a slice. -/
def StrsAt (w : World) (a : Option Addr) (l : List ByteArray) : Prop := ∀ i x, l[i]? = some x → ∃ b off, a = some ⟨b, off, none⟩ ∧ w.cell? ⟨b, off + i, none⟩ = some (.string x)
/-- The serialization of a list, as a string of the program. -/
def strIs (l : List Int) : ByteArray := ⟨(encIs l).toArray⟩
def encTb (l : List ByteArray) : List UInt8 := encI l.length ++ l.flatMap (fun s => encT s.data.toList)
def strTs (l : List ByteArray) : ByteArray := ⟨(encTb l).toArray⟩

theorem byteCells_append (x y : List UInt8) : Lib.byteCells (x ++ y) = Lib.byteCells x ++ Lib.byteCells y := by simp [Lib.byteCells]
theorem byteCells_length (x : List UInt8) : (Lib.byteCells x).length = x.length := by simp [Lib.byteCells]
theorem strCells_strI (n : Int) : Lib.strCells (strI n) = Lib.byteCells (encI n) := Lib.strCells_toArray _
theorem strCells_strT (s : ByteArray) : Lib.strCells (strT s) = Lib.byteCells (encT s.data.toList) := by
  rw [← strT_list]; rfl
theorem strT_size (s : ByteArray) : (strT s).size = (encT s.data.toList).length := by
  rw [← strT_list, Array.length_toList]; rfl
theorem flat_take {α : Type} (f : α → List UInt8) (l : List α) (k : Nat) (h : k < l.length) : (l.take (k + 1)).flatMap f = (l.take k).flatMap f ++ f l[k] := by
  rw [List.take_succ_eq_append_getElem h, List.flatMap_append]; simp
theorem flat_le {α : Type} (f : α → List UInt8) (l : List α) (k : Nat) : ((l.take k).flatMap f).length ≤ (l.flatMap f).length := by
  conv => rhs; rw [← List.take_append_drop k l]
  rw [List.flatMap_append, List.length_append]; omega
theorem encIs_len (l : List Int) (h : ∀ x ∈ l, -9223372036854775808 ≤ x ∧ x ≤ 9223372036854775807) : (l.flatMap encI).length ≤ 10 * l.length := by
  induction l with
  | nil => simp
  | cons x l ih =>
    rw [List.flatMap_cons, List.length_append, List.length_cons]
    have := encI_le x (h x (by simp))
    have := ih (fun y hy => h y (by simp [hy]))
    omega

/-- What a call leaves of a builder of another call: all of it. -/
theorem below_grown {w v : World} (k : Below w.heap.size w v) : w.grownBy v none := ⟨k.os, k.tape, k.output, k.size, fun i hi _ => k.block i hi⟩
theorem bat_keep {T e B b : Nat} {p : Value} {bs : List Value} {w w' : World} (h : Lib.BuilderAt T e B b p bs w) (k : Below w.heap.size w w') : Lib.BuilderAt T e B b p bs w' := by
  have hlt := h.lt
  obtain ⟨hB, v, hb, hown, hne⟩ := h
  exact ⟨hB, v, by rw [k.block b hlt]; exact hb, hown.kept (below_grown k) (by cases hv : v.ownBlock <;> simp), hne⟩
theorem bld_keep {T e B b : Nat} {bs : List Value} {w w' : World} (h : Lib.IsBuilder T e B b bs w) (k : Below w.heap.size w w') : Lib.IsBuilder T e B b bs w' :=
  h.elim (fun h => Or.inl (bat_keep h k)) (fun h => Or.inr (bat_keep h k))
theorem bld_lt {T e B b : Nat} {bs : List Value} {w : World} (h : Lib.IsBuilder T e B b bs w) : b < w.heap.size := h.elim (·.lt) (·.lt)

def ListRel (w : World) (hd : List UInt8) (parts : Nat → List UInt8) (n : Nat) (s14 : Value) (wr : World) : Prop :=
  ∃ k : Nat, k ≤ n ∧ s14 = .int .i64 k ∧ Lib.IsBuilder 73 5 w.heap.size w.heap.size (Lib.byteCells (hd ++ parts k)) wr ∧ Below w.heap.size w wr ∧ w.heap.size < wr.heap.size

set_option maxRecDepth 100000 in
set_option maxHeartbeats 2000000 in
theorem listI_any (a : Option Addr) (l : List Int) (c n : Nat) (hn : l.length = n) (w : World) (hl : IntsAt w a l) (hb : ∀ x ∈ l, -9223372036854775808 ≤ x ∧ x ≤ 9223372036854775807) (hs : n ≤ 1000000) :
    Calls Try.prog 42 #[.slice a n c, .func (.func 12) #[] #[]] w fun e w' => e = .returned (.string (strIs l)) ∧ Below w.heap.size w w' := by
  have I := Lib.hid (int_any n (by omega))
  have hN := encI_le n (by omega)
  have hF := encIs_len l hb
  rw [hn] at hF
  have HL := Lib.hid hl
  have HB := Lib.hid hb
  have HN := Lib.hid hn
  have E : Hid (strIs l = ⟨(encI n ++ (l.take n).flatMap encI).toArray⟩) := Lib.hid (by unfold strIs encIs; rw [List.take_of_length_le (by omega), hn])
  clear hl hb hn
  go_enter Try.func42, Try.ntmps42
  go_wp2_with fail
  refine (I.out _).mono ?_
  rintro e w1 ⟨rfl, hB1⟩
  have hz1 : w.heap.size < w1.heap.size := by have := hB1.size; simp at this; omega
  have hb1 : Lib.IsBuilder 73 5 w.heap.size w.heap.size [] w1 := bld_keep (Lib.fresh_isBuilder 73 5 w) hB1
  replace hB1 : Below w.heap.size w w1 := ((Below.refl _ _).alloc (Nat.le_refl _) _).trans (hB1.mono (by simp))
  go_wp2_with fail
  refine (write_any w.heap.size w.heap.size [] (strI n) w1 hb1 (by rw [strI_size]; simp; omega) (by omega)).mono ?_
  rintro e w2 ⟨rfl, hb2, hB2⟩
  clear hb1
  rw [List.nil_append, strCells_strI] at hb2
  replace hB2 : Below w.heap.size w w2 := hB1.trans hB2
  have hz2 := bld_lt hb2
  go_wp2_with fail
  go_loopw [14] (fun s14 wr => ListRel w (encI n) (fun k => (l.take k).flatMap encI) n s14 wr) (fun s14 _ => n - (intOf s14).toNat)
  case atStart =>
    exact ⟨0, by omega, rfl, by simpa using hb2, hB2, hz2⟩
  case round =>
    obtain ⟨k, hk, rfl, hbk, hB, hz⟩ := hrel
    rcases Nat.lt_or_ge k n with hlt | hge
    · have hx : l[k]? = some (l[k]'(by rw [HN.out]; exact hlt)) := List.getElem?_eq_getElem _
      obtain ⟨b, off, rfl, hc⟩ := HL.out k _ hx
      have X := Lib.hid (int_any (l[k]'(by rw [HN.out]; exact hlt)) (HB.out _ (List.getElem_mem _)))
      have F := Lib.hid (flat_take encI l k (by rw [HN.out]; exact hlt))
      have G := flat_le encI l (k + 1)
      rw [F.out, List.length_append] at G
      have ck : wr.cell? ⟨b, off + k, none⟩ = some (.int .i64 (l[k]'(by rw [HN.out]; exact hlt))) := by
        rw [hB.cell (p := ⟨b, off + k, none⟩) (block_lt_of_cell hc)]; exact hc
      clear hx hc
      generalize l[k]'(by rw [HN.out]; exact hlt) = x at *
      go_wp2_with fail
      refine (X.out _).mono ?_
      rintro e w3 ⟨rfl, hB3⟩
      replace hbk := bld_keep hbk hB3
      replace hB : Below w.heap.size w w3 := hB.trans (hB3.mono (by omega))
      have hz3 := bld_lt hbk
      go_wp2_with fail
      refine (write_any w.heap.size w.heap.size _ (strI x) w3 hbk (by rw [strI_size, byteCells_length, List.length_append]; omega) (by omega)).mono ?_
      rintro e w4 ⟨rfl, hb4, hB4⟩
      clear hbk
      rw [strCells_strI, ← byteCells_append, List.append_assoc, ← F.out] at hb4
      replace hB4 : Below w.heap.size w w4 := hB.trans hB4
      have hz4 := bld_lt hb4
      have R : Hid (ListRel w (encI n) (fun k => (l.take k).flatMap encI) n (.int .i64 ((k : Int) + 1)) w4) := Lib.hid ⟨k + 1, by omega, by congr 1, hb4, hB4, hz4⟩
      go_wp2_with fail
      go_roundw
      case rel => exact R.out
      case measure => simp [intOf]; omega
    · have hkn : k = n := by omega
      subst hkn
      go_wp2_with fail
      refine (Try.Builder_String_any _ _ _ _ hbk (by omega)).mono ?_
      rintro e w3 ⟨rfl, hB3⟩
      go_wp2
      go_ret
      exact ⟨by rw [E.out]; rfl, hB.trans hB3⟩
set_option maxRecDepth 100000 in
set_option maxHeartbeats 2000000 in
theorem listT_any (a : Option Addr) (l : List ByteArray) (c n : Nat) (hn : l.length = n) (w : World) (hl : StrsAt w a l) (hs : n ≤ 1000000) (hF : (l.flatMap fun s => encT s.data.toList).length ≤ 140737488000000) :
    Calls Try.prog 43 #[.slice a n c, .func (.func 14) #[] #[]] w fun e w' => e = .returned (.string (strTs l)) ∧ Below w.heap.size w w' := by
  have I := Lib.hid (int_any n (by omega))
  have hN := encI_le n (by omega)
  have HL := Lib.hid hl
  have HN := Lib.hid hn
  have E : Hid (strTs l = ⟨(encI n ++ (l.take n).flatMap fun s => encT s.data.toList).toArray⟩) := Lib.hid (by unfold strTs encTb; rw [List.take_of_length_le (by omega), hn])
  clear hl hn
  go_enter Try.func43, Try.ntmps43
  go_wp2_with fail
  refine (I.out _).mono ?_
  rintro e w1 ⟨rfl, hB1⟩
  have hz1 : w.heap.size < w1.heap.size := by have := hB1.size; simp at this; omega
  have hb1 : Lib.IsBuilder 73 5 w.heap.size w.heap.size [] w1 := bld_keep (Lib.fresh_isBuilder 73 5 w) hB1
  replace hB1 : Below w.heap.size w w1 := ((Below.refl _ _).alloc (Nat.le_refl _) _).trans (hB1.mono (by simp))
  go_wp2_with fail
  refine (write_any w.heap.size w.heap.size [] (strI n) w1 hb1 (by rw [strI_size]; simp; omega) (by omega)).mono ?_
  rintro e w2 ⟨rfl, hb2, hB2⟩
  clear hb1
  rw [List.nil_append, strCells_strI] at hb2
  replace hB2 : Below w.heap.size w w2 := hB1.trans hB2
  have hz2 := bld_lt hb2
  go_wp2_with fail
  go_loopw [14] (fun s14 wr => ListRel w (encI n) (fun k => (l.take k).flatMap fun s => encT s.data.toList) n s14 wr) (fun s14 _ => n - (intOf s14).toNat)
  case atStart =>
    exact ⟨0, by omega, rfl, by simpa using hb2, hB2, hz2⟩
  case round =>
    obtain ⟨k, hk, rfl, hbk, hB, hz⟩ := hrel
    rcases Nat.lt_or_ge k n with hlt | hge
    · have hx : l[k]? = some (l[k]'(by rw [HN.out]; exact hlt)) := List.getElem?_eq_getElem _
      obtain ⟨b, off, rfl, hc⟩ := HL.out k _ hx
      have F := Lib.hid (flat_take (fun s : ByteArray => encT s.data.toList) l k (by rw [HN.out]; exact hlt))
      have G := flat_le (fun s : ByteArray => encT s.data.toList) l (k + 1)
      rw [F.out, List.length_append] at G
      have X := Lib.hid (text_any (l[k]'(by rw [HN.out]; exact hlt)) (by
        have e : (encT (l[k]'(by rw [HN.out]; exact hlt)).data.toList).length = (encI (l[k]'(by rw [HN.out]; exact hlt)).data.toList.length).length + (l[k]'(by rw [HN.out]; exact hlt)).data.toList.length := by unfold encT; rw [List.length_append]
        have e2 : (l[k]'(by rw [HN.out]; exact hlt)).data.toList.length = (l[k]'(by rw [HN.out]; exact hlt)).size := by rw [Array.length_toList]; rfl
        omega))
      have ck : wr.cell? ⟨b, off + k, none⟩ = some (.string (l[k]'(by rw [HN.out]; exact hlt))) := by
        rw [hB.cell (p := ⟨b, off + k, none⟩) (block_lt_of_cell hc)]; exact hc
      clear hx hc
      generalize l[k]'(by rw [HN.out]; exact hlt) = x at *
      go_wp2_with fail
      refine (X.out _).mono ?_
      rintro e w3 ⟨rfl, hB3⟩
      replace hbk := bld_keep hbk hB3
      replace hB : Below w.heap.size w w3 := hB.trans (hB3.mono (by omega))
      have hz3 := bld_lt hbk
      go_wp2_with fail
      refine (write_any w.heap.size w.heap.size _ (strT x) w3 hbk (by rw [strT_size, byteCells_length, List.length_append]; omega) (by omega)).mono ?_
      rintro e w4 ⟨rfl, hb4, hB4⟩
      clear hbk
      rw [strCells_strT, ← byteCells_append, List.append_assoc, ← F.out] at hb4
      replace hB4 : Below w.heap.size w w4 := hB.trans hB4
      have hz4 := bld_lt hb4
      have R : Hid (ListRel w (encI n) (fun k => (l.take k).flatMap fun s => encT s.data.toList) n (.int .i64 ((k : Int) + 1)) w4) := Lib.hid ⟨k + 1, by omega, by congr 1, hb4, hB4, hz4⟩
      go_wp2_with fail
      go_roundw
      case rel => exact R.out
      case measure => simp [intOf]; omega
    · have hkn : k = n := by omega
      subst hkn
      go_wp2_with fail
      refine (Try.Builder_String_any _ _ _ _ hbk (by omega)).mono ?_
      rintro e w3 ⟨rfl, hB3⟩
      go_wp2
      go_ret
      exact ⟨by rw [E.out]; rfl, hB.trans hB3⟩

set_option maxHeartbeats 1000000 in
theorem ints_any (a : Option Addr) (l : List Int) (c n : Nat) (hn : l.length = n) (w : World) (hl : IntsAt w a l) (hb : ∀ x ∈ l, -9223372036854775808 ≤ x ∧ x ≤ 9223372036854775807) (hs : n ≤ 1000000) :
    Calls Try.prog 16 #[.slice a n c] w fun e w' => e = .returned (.string (strIs l)) ∧ Below w.heap.size w w' := by
  have H := Lib.hid (listI_any a l c n hn w hl hb hs)
  clear hn hl hb
  go_enter Try.func16, Try.ntmps16
  go_wp2_with fail
  refine H.out.mono ?_
  rintro e w' ⟨rfl, hB⟩
  go_wp2
  go_ret
  exact ⟨rfl, hB⟩
set_option maxHeartbeats 1000000 in
theorem texts_any (a : Option Addr) (l : List ByteArray) (c n : Nat) (hn : l.length = n) (w : World) (hl : StrsAt w a l) (hs : n ≤ 1000000) (hF : (l.flatMap fun s => encT s.data.toList).length ≤ 140737488000000) :
    Calls Try.prog 18 #[.slice a n c] w fun e w' => e = .returned (.string (strTs l)) ∧ Below w.heap.size w w' := by
  have H := Lib.hid (listT_any a l c n hn w hl hs hF)
  clear hn hl hF
  go_enter Try.func18, Try.ntmps18
  go_wp2_with fail
  refine H.out.mono ?_
  rintro e w' ⟨rfl, hB⟩
  go_wp2
  go_ret
  exact ⟨rfl, hB⟩
end Go.Proofs.Ytadnkofbgifliaa.Wr
