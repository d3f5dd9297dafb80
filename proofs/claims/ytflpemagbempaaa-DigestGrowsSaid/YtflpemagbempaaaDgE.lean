/-
  Layer 3 (digest): the exported functions over strings, and the document's own.
-/
import Derived.Test.YtflpemagbempaaaDgD
namespace Go.Proofs.Ytflpemagbempaaa.Dg
open Go.RowKit
set_option maxHeartbeats 2000000 in
theorem Of_any (s : ByteArray) (h : s.size ≤ 1000000) (w : World) :
    Calls Try.prog 12 #[.string s] w fun e w' => e = .returned (.string (D s)) ∧ Below w.heap.size w w' := by
  have O := Lib.hid (fun (W : World) (a : Option Addr) (hW : StrsAt W a [s]) => of_any [s] a 1 1 rfl (by omega) W hW (by
    intro z hz
    simp only [List.mem_cons, List.not_mem_nil, or_false] at hz
    rcases hz with rfl <;> first | exact (by decide) | omega))
  rw [cat_one] at O
  have T := Lib.hid (text_any (dg s.data.toList) (dg_length _))
  rw [show B (dg s.data.toList) = D s from rfl] at T
  generalize D s = r at *
  obtain ⟨q0, q1, q2, q3, q4, q5, q6, q7, hq⟩ := eight (dg_length s.data.toList)
  rw [hq, dval8] at O T
  clear hq
  go_enter Try.func12, Try.ntmps12
  go_wp2_with fail
  refine (O.out _ _ (strs1 (by go_cell))).mono ?_
  rintro e w1 ⟨rfl, hB1⟩
  replace hB1 : Below w.heap.size w w1 := bt (ba (Below.refl _ _) _) hB1
  clear O
  go_wp2_with fail
  refine (T.out _).mono ?_
  rintro e w2 ⟨rfl, hB2⟩
  go_wp2
  go_ret
  exact ⟨rfl, bt hB1 hB2⟩
set_option maxHeartbeats 2000000 in
theorem Chain_any (b s : ByteArray) (hb : b.size ≤ 1000000) (h : s.size ≤ 1000000) (w : World) :
    Calls Try.prog 14 #[.string b, .string s] w fun e w' => e = .returned (.string (B (chain b s))) ∧ Below w.heap.size w w' := by
  have hw : (B (w4 b.size)).size = 4 := rfl
  have O := Lib.hid (fun (W : World) (a : Option Addr) (hW : StrsAt W a [⟨#[99]⟩, B (w4 b.size), b, s]) => of_any [⟨#[99]⟩, B (w4 b.size), b, s] a 4 4 rfl (by omega) W hW (by
    intro z hz
    simp only [List.mem_cons, List.not_mem_nil, or_false] at hz
    rcases hz with rfl | rfl | rfl | rfl <;> first | exact (by decide) | omega))
  rw [cat_chain, show dg (99 :: (w4 b.size ++ b.data.toList ++ s.data.toList)) = chain b s from rfl] at O
  have L := Lib.hid (length_any b (by omega))
  have T := Lib.hid (text_any (chain b s) rfl)
  obtain ⟨q0, q1, q2, q3, q4, q5, q6, q7, hq⟩ := eight ((rfl : (chain b s).length = 8))
  generalize B (chain b s) = r at *
  rw [hq, dval8] at O T
  clear hq hw
  generalize B (w4 b.size) = lb at *
  go_enter Try.func14, Try.ntmps14
  go_wp2_with fail
  refine (L.out _).mono ?_
  rintro e w1 ⟨rfl, hB1⟩
  clear L
  go_wp2_with fail
  refine (O.out _ _ (strs4 (by go_cell) (by go_cell) (by go_cell) (by go_cell))).mono ?_
  rintro e w2 ⟨rfl, hB2⟩
  replace hB1 : Below w.heap.size w w2 := bt (ba hB1 _) hB2
  clear O
  go_wp2_with fail
  refine (T.out _).mono ?_
  rintro e w3 ⟨rfl, hB3⟩
  go_wp2
  go_ret
  exact ⟨rfl, bt hB1 hB3⟩
set_option maxHeartbeats 2000000 in
theorem markOf_any (k m : ByteArray) (hk : k.size ≤ 1000000) (h : m.size ≤ 1000000) (w : World) :
    Calls Try.prog 36 #[.string k, .string m] w fun e w' => e = .returned (dval (mark k m)) ∧ Below w.heap.size w w' := by
  have hw : (B (w4 k.size)).size = 4 := rfl
  have O := Lib.hid (fun (W : World) (a : Option Addr) (hW : StrsAt W a [⟨#[109]⟩, B (w4 k.size), k, m, k]) => of_any [⟨#[109]⟩, B (w4 k.size), k, m, k] a 5 5 rfl (by omega) W hW (by
    intro z hz
    simp only [List.mem_cons, List.not_mem_nil, or_false] at hz
    rcases hz with rfl | rfl | rfl | rfl | rfl <;> first | exact (by decide) | omega))
  rw [cat_mark, show dg (109 :: (w4 k.size ++ k.data.toList ++ m.data.toList ++ k.data.toList)) = mark k m from rfl] at O
  have L := Lib.hid (length_any k (by omega))
  obtain ⟨q0, q1, q2, q3, q4, q5, q6, q7, hq⟩ := eight ((rfl : (mark k m).length = 8))
  rw [hq, dval8] at O
  rw [hq, dval8]
  clear hq hw
  generalize B (w4 k.size) = lb at *
  go_enter Try.func36, Try.ntmps36
  go_wp2_with fail
  refine (L.out _).mono ?_
  rintro e w1 ⟨rfl, hB1⟩
  clear L
  have R := rz_keep (rz_new w 52) hB1
  replace hB1 := bt (ba (Below.refl _ _) _) hB1
  go_wp2_with fail
  refine (O.out _ _ (strs5 (by go_cell) (by go_cell) (by go_cell) (by go_cell) (by go_cell))).mono ?_
  rintro e w2 ⟨rfl, hB2⟩
  replace R := rz_keep (rz_alloc R _) hB2
  replace hB1 : Below w.heap.size w w2 := bt (ba hB1 _) hB2
  have zc0 : w2.cell? ⟨w.heap.size, 0, none⟩ = some (.int .u8 0) := (R 0 (by omega)).1
  have zf0 : w2.frozen? ⟨w.heap.size, 0, none⟩ = false := (R 0 (by omega)).2
  have zc1 : w2.cell? ⟨w.heap.size, 1, none⟩ = some (.int .u8 0) := (R 1 (by omega)).1
  have zf1 : w2.frozen? ⟨w.heap.size, 1, none⟩ = false := (R 1 (by omega)).2
  have zc2 : w2.cell? ⟨w.heap.size, 2, none⟩ = some (.int .u8 0) := (R 2 (by omega)).1
  have zf2 : w2.frozen? ⟨w.heap.size, 2, none⟩ = false := (R 2 (by omega)).2
  have zc3 : w2.cell? ⟨w.heap.size, 3, none⟩ = some (.int .u8 0) := (R 3 (by omega)).1
  have zf3 : w2.frozen? ⟨w.heap.size, 3, none⟩ = false := (R 3 (by omega)).2
  have zc4 : w2.cell? ⟨w.heap.size, 4, none⟩ = some (.int .u8 0) := (R 4 (by omega)).1
  have zf4 : w2.frozen? ⟨w.heap.size, 4, none⟩ = false := (R 4 (by omega)).2
  have zc5 : w2.cell? ⟨w.heap.size, 5, none⟩ = some (.int .u8 0) := (R 5 (by omega)).1
  have zf5 : w2.frozen? ⟨w.heap.size, 5, none⟩ = false := (R 5 (by omega)).2
  have zc6 : w2.cell? ⟨w.heap.size, 6, none⟩ = some (.int .u8 0) := (R 6 (by omega)).1
  have zf6 : w2.frozen? ⟨w.heap.size, 6, none⟩ = false := (R 6 (by omega)).2
  have zc7 : w2.cell? ⟨w.heap.size, 7, none⟩ = some (.int .u8 0) := (R 7 (by omega)).1
  have zf7 : w2.frozen? ⟨w.heap.size, 7, none⟩ = false := (R 7 (by omega)).2
  clear R O
  go_wp2
  exact bodyPost_ret (res_dg _ _ Try.results36 _ _ w.heap.size _ _ _ _ _ _ _ _ rfl (by go_cell) (by go_cell) (by go_cell) (by go_cell) (by go_cell) (by go_cell) (by go_cell) (by go_cell) ) rfl ⟨rfl, bs8 hB1 (Nat.le_refl _) _ _ _ _ _ _ _ _⟩
set_option maxHeartbeats 2000000 in
theorem Mark_any (k m : ByteArray) (hk : k.size ≤ 1000000) (h : m.size ≤ 1000000) (w : World) :
    Calls Try.prog 20 #[.string k, .string m] w fun e w' => e = .returned (.string (B (mark k m))) ∧ Below w.heap.size w w' := by
  have M := Lib.hid (markOf_any k m hk h)
  have T := Lib.hid (text_any (mark k m) rfl)
  obtain ⟨q0, q1, q2, q3, q4, q5, q6, q7, hq⟩ := eight ((rfl : (mark k m).length = 8))
  generalize B (mark k m) = r at *
  rw [hq, dval8] at M T
  clear hq
  go_enter Try.func20, Try.ntmps20
  go_wp2_with fail
  refine (M.out _).mono ?_
  rintro e w1 ⟨rfl, hB1⟩
  go_wp2_with fail
  refine (T.out _).mono ?_
  rintro e w2 ⟨rfl, hB2⟩
  go_wp2
  go_ret
  exact ⟨rfl, bt hB1 hB2⟩
end Go.Proofs.Ytflpemagbempaaa.Dg
