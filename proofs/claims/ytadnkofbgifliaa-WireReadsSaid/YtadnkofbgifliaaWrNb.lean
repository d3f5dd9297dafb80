/-
  Layer 2 (wire): the document's own reader: its small methods, its integer and its string.
-/
import Derived.Test.YtadnkofbgifliaaWrNa
import Derived.Test.YtadnkofbgifliaaWrRd
import Derived.Deep.QuietTactic
import Derived.BigQuiet
namespace Go.Proofs.Ytadnkofbgifliaa.Wr
open Go.RowKit

/-- The document's reader, as it lies in memory. -/
def RR (w : World) (b : Nat) (S : ByteArray) (p : Nat) (bad : Bool) : Prop :=
  w.cell? ⟨b, 0, none⟩ = some (.string S) ∧ w.cell? ⟨b, 1, none⟩ = some (.int .i64 p) ∧ w.cell? ⟨b, 2, none⟩ = some (.bool bad) ∧ w.frozen? ⟨b, 1, none⟩ = false ∧ w.frozen? ⟨b, 2, none⟩ = false
/-- What it has left. -/
def rest (S : ByteArray) (p : Nat) (bad : Bool) : ByteArray := if bad then empty else ⟨(S.data.toList.drop p).toArray⟩
def RZ (w : World) (b : Nat) (s : ByteArray) (bad : Bool) : Prop := ∃ S p, RR w b S p bad ∧ p ≤ S.size ∧ S.size ≤ 1000000 ∧ s = rest S p bad
theorem rest_ok (S : ByteArray) (p : Nat) : (rest S p false).data.toList = S.data.toList.drop p := by unfold rest; simp
theorem rest_size (S : ByteArray) (p : Nat) (h : p ≤ S.size) : (rest S p false).size = S.size - p := by rw [size_list, rest_ok, List.length_drop, ← size_list]
theorem rr_kept {w w' : World} {b : Nat} {S : ByteArray} {p : Nat} {bad : Bool} {row : Option Nat} (h : RR w b S p bad) (hg : w.grownBy w' row) (hne : row ≠ some b) : RR w' b S p bad := by
  obtain ⟨h0, h1, h2, f1, f2⟩ := h
  have hlt : b < w.heap.size := block_lt_of_cell h0
  exact ⟨hg.cell h0 (by simpa using Ne.symm hne), hg.cell h1 (by simpa using Ne.symm hne), hg.cell h2 (by simpa using Ne.symm hne), by rw [World.grownBy.frozen_far hg ⟨b, 1, none⟩ hlt (by simpa using Ne.symm hne)]; exact f1, by rw [World.grownBy.frozen_far hg ⟨b, 2, none⟩ hlt (by simpa using Ne.symm hne)]; exact f2⟩
theorem rz_kept {w w' : World} {b : Nat} {s : ByteArray} {bad : Bool} {row : Option Nat} (h : RZ w b s bad) (hg : w.grownBy w' row) (hne : row ≠ some b) : RZ w' b s bad := by
  obtain ⟨S, p, h, r⟩ := h
  exact ⟨S, p, rr_kept h hg hne, r⟩
theorem rz_lt {w : World} {b : Nat} {s : ByteArray} {bad : Bool} (h : RZ w b s bad) : b < w.heap.size := by
  obtain ⟨S, p, h, r⟩ := h
  exact block_lt_of_cell h.1
theorem rz_below {w w' : World} {b : Nat} {s : ByteArray} {bad : Bool} (h : RZ w b s bad) (hb : Below w.heap.size w w') : RZ w' b s bad := rz_kept h (below_grown hb) (by simp)
theorem rz_size {w : World} {b : Nat} {s : ByteArray} {bad : Bool} (h : RZ w b s bad) : s.size ≤ 1000000 ∧ (bad = true → s.size = 0) := by
  obtain ⟨S, p, h, hp, hs, rfl⟩ := h
  cases bad with
  | true => exact ⟨Nat.zero_le _, fun _ => rfl⟩
  | false => exact ⟨by rw [rest_size S p hp]; omega, fun h => by cases h⟩

set_option maxHeartbeats 1000000 in
theorem zbad_any (b : Nat) (s : ByteArray) (bad : Bool) (w : World) (h : RZ w b s bad) :
    Calls Try.prog 35 #[.pointer (some ⟨b, 0, none⟩)] w fun e w' => e = .returned (.bool bad) ∧ w = w' := by
  obtain ⟨S, p, ⟨h0, h1, h2, f1, f2⟩, _⟩ := h
  go_enter Try.func35, Try.ntmps35
  go_wp2
  go_ret
  exact ⟨rfl, rfl⟩
set_option maxHeartbeats 1000000 in
theorem zleft_any (b : Nat) (s : ByteArray) (bad : Bool) (w : World) (h : RZ w b s bad) :
    Calls Try.prog 33 #[.pointer (some ⟨b, 0, none⟩)] w fun e w' => e = .returned (.int .i64 s.size) ∧ Below w.heap.size w w' := by
  obtain ⟨S, p, ⟨h0, h1, h2, f1, f2⟩, hp, hs, rfl⟩ := h
  cases bad with
  | true =>
    go_enter Try.func33, Try.ntmps33
    go_wp2
    go_ret
    exact ⟨rfl, Below.refl _ _⟩
  | false =>
    have E := Lib.hid (rest_size S p hp)
    go_enter Try.func33, Try.ntmps33
    go_wp2_with fail
    have b0 : (0 : Int) ≤ (S.size : Int) - p := by omega
    have b1 : (S.size : Int) - p ≤ 1000000 := by omega
    go_quiet (fail)
    go_wp2_with fail
    go_ret
    refine ⟨?_, bd (Below.refl _ _) _⟩
    rw [E.out, show (((S.size - p : Nat)) : Int) = (S.size : Int) - p by omega]
    rfl
set_option maxHeartbeats 1000000 in
theorem zfail_any (b : Nat) (s : ByteArray) (bad : Bool) (w : World) (h : RZ w b s bad) :
    Calls Try.prog 47 #[.pointer (some ⟨b, 0, none⟩)] w fun e w' => e = .returned (.tuple #[]) ∧ RZ w' b empty true ∧ w.grownBy w' (some b) := by
  obtain ⟨S, p, hR, hp, hs, rfl⟩ := h
  have HR := Lib.hid hR
  obtain ⟨h0, h1, h2, f1, f2⟩ := hR
  go_enter Try.func47, Try.ntmps47
  go_wp2
  go_end0
  refine ⟨rfl, ⟨S, p, ⟨by go_cell, by go_cell, by go_cell, by go_cell, by go_cell⟩, hp, hs, rfl⟩, gs (gr _ _) _⟩
set_option maxHeartbeats 1000000 in
theorem znew_any (s : ByteArray) (hs : s.size ≤ 1000000) (w : World) :
    Calls Try.prog 21 #[.string s] w fun e w' => e = .returned (.pointer (some ⟨w.heap.size, 0, none⟩)) ∧ RZ w' w.heap.size s false ∧ Below w.heap.size w w' ∧ w.heap.size < w'.heap.size := by
  go_enter Try.func21, Try.ntmps21
  go_wp2
  go_ret
  exact ⟨rfl, ⟨s, 0, ⟨by go_cell, by go_cell, by go_cell, by go_cell, by go_cell⟩, Nat.zero_le _, hs, bytes_eq (by rw [rest_ok, List.drop_zero])⟩, by go_grown, by simp⟩

theorem num_ok (s : ByteArray) (p : Nat) (hp : p ≤ s.size) (hs : s.size ≤ 1000000) (n : Int) (t : List UInt8) (hn : inI n) (he : s.data.toList.drop p = encI n ++ t) (w : World) :
    Calls Try.prog 46 #[.string s, .int .i64 p] w fun e w' => e = .returned (.tuple #[.int .i64 n, .int .i64 ((p + (encI n).length : Nat) : Int), .bool true]) ∧ w' = w :=
  (num_any s p hp hs w).mono fun e w' ⟨H, hw⟩ => by
    rcases H with ⟨n', t', h1, h2, h3⟩ | ⟨h, _⟩
    · rw [he] at h2
      obtain ⟨rfl, _⟩ := encI_prefix h2
      exact ⟨h3, hw.symm⟩
    · exact absurd he (h n t hn)
theorem num_none (s : ByteArray) (p : Nat) (hp : p ≤ s.size) (hs : s.size ≤ 1000000) (he : NoIL (s.data.toList.drop p)) (w : World) :
    Calls Try.prog 46 #[.string s, .int .i64 p] w fun e w' => e = .returned (.tuple #[.int .i64 0, .int .i64 p, .bool false]) ∧ w' = w :=
  (num_any s p hp hs w).mono fun e w' ⟨H, hw⟩ => by
    rcases H with ⟨n', t', h1, h2, h3⟩ | ⟨_, h⟩
    · exact absurd h2 (he n' t' h1)
    · exact ⟨h, hw.symm⟩

/-- What reading an integer answers and leaves. -/
def ZInt (s : ByteArray) (bad : Bool) (b : Nat) (w : World) (e : Ending) (w' : World) : Prop :=
  (∃ n t, inI n ∧ s.data.toList = encI n ++ t ∧ e = .returned (.int .i64 n) ∧ RZ w' b ⟨t.toArray⟩ bad ∧ w.grownBy w' (some b)) ∨
    (NoI s ∧ e = .returned (.int .i64 0) ∧ RZ w' b empty true ∧ w.grownBy w' (some b))
set_option maxRecDepth 100000 in
set_option maxHeartbeats 4000000 in
theorem zint_any (b : Nat) (s : ByteArray) (bad : Bool) (w : World) (h : RZ w b s bad) :
    Calls Try.prog 23 #[.pointer (some ⟨b, 0, none⟩)] w fun e w' => ZInt s bad b w e w' := by
  have BA := Lib.hid (zbad_any b s bad w h)
  have FA := Lib.hid (fun (W : World) (h : RZ W b s bad) => zfail_any b s bad W h)
  have HZ := Lib.hid h
  obtain ⟨S, p, hR, hp, hs, rfl⟩ := h
  have NA := Lib.hid (num_any S p hp hs)
  have HR := Lib.hid hR
  obtain ⟨h0, h1, h2, f1, f2⟩ := hR
  cases bad with
  | true =>
    have RR : Hid (ZInt (rest S p true) true b w (.returned (.int .i64 0)) w) := Lib.hid (Or.inr ⟨noI_nil, rfl, ⟨S, p, HR.out, hp, hs, rfl⟩, gr _ _⟩)
    clear HZ FA NA
    go_enter Try.func23, Try.ntmps23
    go_wp2_with fail
    refine BA.out.mono ?_
    rintro e w1 ⟨rfl, rfl⟩
    go_wp2_with fail
    go_ret
    exact RR.out
  | false =>
    have E := Lib.hid (rest_ok S p)
    generalize hrs : rest S p false = s at *
    have HRS := Lib.hid hrs
    clear hrs
    go_enter Try.func23, Try.ntmps23
    go_wp2_with fail
    refine BA.out.mono ?_
    rintro e w1 ⟨rfl, rfl⟩
    go_wp2_with fail
    rcases Classical.em (NoIL (S.data.toList.drop p)) with hno | hyes
    · have NN := Lib.hid (num_none S p hp hs hno)
      have HN : Hid (NoI s) := Lib.hid (fun n t hn e => hno n t hn (by rw [← E.out]; exact e))
      clear hno NA
      go_quiet ((go_at_call 46; exact Calls.quiet_of_same (NN.out _)))
      go_wp2_with fail
      refine (FA.out _ (rz_kept HZ.out (gd (gr w none) _) (by simp))).mono ?_
      rintro e w2 ⟨rfl, hR2, hG2⟩
      have RR : Hid (ZInt s false b w (.returned (.int .i64 0)) w2) := Lib.hid (Or.inr ⟨HN.out, rfl, hR2, gg (gd (gr w _) _) hG2⟩)
      clear hR2 hG2
      go_wp2_with fail
      go_ret
      exact RR.out
    · obtain ⟨n, t, hn, he⟩ : ∃ n t, inI n ∧ S.data.toList.drop p = encI n ++ t := by
        refine Classical.byContradiction fun h => hyes fun n t hn he => h ⟨n, t, hn, he⟩
      have NN := Lib.hid (num_ok S p hp hs n t hn he)
      have hle : p + (encI n).length ≤ S.size := by
        have := congrArg List.length he
        rw [List.length_drop, List.length_append, ← size_list] at this
        have := encI_pos n
        omega
      have HT : Hid ((⟨t.toArray⟩ : ByteArray) = rest S (p + (encI n).length) false) := Lib.hid (bytes_eq (by
        rw [rest_ok, ← List.drop_drop, he, List.drop_left]))
      have HE : Hid (s.data.toList = encI n ++ t) := Lib.hid (by rw [E.out]; exact he)
      have HN := Lib.hid hn
      generalize hq : p + (encI n).length = q at *
      clear hq hyes NA he hn
      go_quiet ((go_at_call 46; exact Calls.quiet_of_same (NN.out _)))
      go_wp2_with fail
      go_ret
      exact Or.inl ⟨n, t, HN.out, HE.out, rfl, ⟨S, q, ⟨by go_cell, by go_cell, by go_cell, by go_cell, by go_cell⟩, hle, hs, HT.out⟩, gs (gd (gr w _) _) _⟩
end Go.Proofs.Ytadnkofbgifliaa.Wr
