/-
  Layer 2 (wire): the examples of the chapter.
-/
import Derived.Test.YtadnkofbgifliaaWrK
namespace Go.Proofs.Ytadnkofbgifliaa.Wr
open Go.RowKit

theorem e_of (n : Int) (c : Nat) (h : zz n = c) (l : List UInt8) (e : encN c = l) : encI n = l := by unfold encI; rw [h, e]
theorem e_lo (n : Int) (c : Nat) (h : zz n = c) (hc : c < 128) : encI n = [UInt8.ofNat c] := by unfold encI; rw [h, encN_lo hc]
theorem e0 : encI 0 = [0] := e_lo 0 0 rfl (by decide)
theorem e1 : encI 1 = [2] := e_lo 1 2 rfl (by decide)
theorem e2 : encI 2 = [4] := e_lo 2 4 rfl (by decide)
theorem e3 : encI 3 = [6] := e_lo 3 6 rfl (by decide)
theorem em1 : encI (-1) = [1] := e_lo (-1) 1 rfl (by decide)
theorem em2 : encI (-2) = [3] := e_lo (-2) 3 rfl (by decide)
theorem e63 : encI 63 = [126] := e_lo 63 126 rfl (by decide)
theorem e64 : encI 64 = [128, 1] := e_of 64 128 rfl _ (by rw [encN_hi (by decide), encN_lo (by decide)]; rfl)
theorem em65 : encI (-65) = [129, 1] := e_of (-65) 129 rfl _ (by rw [encN_hi (by decide), encN_lo (by decide)]; rfl)
theorem s_of {n : Int} {l : List UInt8} (h : encI n = l) : strI n = ⟨l.toArray⟩ := by unfold strI; rw [h]
theorem t_of (s : ByteArray) (l : List UInt8) (h : encT s.data.toList = l) : strT s = ⟨l.toArray⟩ := by
  apply ByteArray.ext
  apply Array.toList_inj.1
  rw [strT_list, h]
theorem int_is (n : Int) (l : List UInt8) (h : encI n = l) (hn : inI n) (w : World) : Calls Try.prog 12 #[.int .i64 n] w fun e w' => e = .returned (.string ⟨l.toArray⟩) ∧ Below w.heap.size w w' := by
  rw [← s_of h]; exact int_any n hn w
theorem text_is (s : ByteArray) (l : List UInt8) (h : encT s.data.toList = l) (hs : s.size ≤ 140737488355327) (w : World) : Calls Try.prog 14 #[.string s] w fun e w' => e = .returned (.string ⟨l.toArray⟩) ∧ Below w.heap.size w w' := by
  rw [← t_of s l h]; exact text_any s hs w
theorem two_at (x y : Value) (T : TypeId) (W : World) : (W.alloc (.cells #[x, y] T)).cell? ⟨W.heap.size, 0, none⟩ = some x ∧ (W.alloc (.cells #[x, y] T)).cell? ⟨W.heap.size, 1, none⟩ = some y := ⟨by go_cell, by go_cell⟩
theorem ints_two (x y : Int) (T : TypeId) (W : World) : IntsAt (W.alloc (.cells #[.int .i64 x, .int .i64 y] T)) (some ⟨W.heap.size, 0, none⟩) [x, y] := by
  intro i z h
  refine ⟨_, _, rfl, ?_⟩
  match i, h with
  | 0, h => simp at h; subst h; exact (two_at _ _ T W).1
  | 1, h => simp at h; subst h; exact (two_at _ _ T W).2
theorem strs_two (x y : ByteArray) (T : TypeId) (W : World) : StrsAt (W.alloc (.cells #[.string x, .string y] T)) (some ⟨W.heap.size, 0, none⟩) [x, y] := by
  intro i z h
  refine ⟨_, _, rfl, ?_⟩
  match i, h with
  | 0, h => simp at h; subst h; exact (two_at _ _ T W).1
  | 1, h => simp at h; subst h; exact (two_at _ _ T W).2
theorem ints_lit (x y : Int) (T : TypeId) (l : List UInt8) (h : encIs [x, y] = l) (hx : inI x) (hy : inI y) (W : World) : Calls Try.prog 16 #[.slice (some ⟨W.heap.size, 0, none⟩) 2 2] (W.alloc (.cells #[.int .i64 x, .int .i64 y] T)) fun e w' => e = .returned (.string ⟨l.toArray⟩) ∧ Below W.heap.size W w' := by
  have := ints_any (some ⟨W.heap.size, 0, none⟩) [x, y] 2 2 rfl (W.alloc (.cells #[.int .i64 x, .int .i64 y] T)) (ints_two x y T W) (by intro z hz; simp at hz; rcases hz with rfl | rfl <;> assumption) (by omega)
  unfold strIs at this
  rw [h] at this
  exact this.mono fun e w' ⟨he, hb⟩ => ⟨he, (by go_grown : Below W.heap.size W (W.alloc (.cells #[.int .i64 x, .int .i64 y] T))).trans (hb.mono (by simp))⟩
theorem ints_nil (l : List UInt8) (h : encIs [] = l) (W : World) : Calls Try.prog 16 #[.slice none 0 0] W fun e w' => e = .returned (.string ⟨l.toArray⟩) ∧ Below W.heap.size W w' := by
  have := ints_any none [] 0 0 rfl W (fun i x h => by simp at h) (by intro z hz; simp at hz) (by omega)
  unfold strIs at this
  rw [h] at this
  exact this
theorem texts_lit (x y : ByteArray) (T : TypeId) (l : List UInt8) (h : encTb [x, y] = l) (hl : l.length ≤ 1000) (W : World) : Calls Try.prog 18 #[.slice (some ⟨W.heap.size, 0, none⟩) 2 2] (W.alloc (.cells #[.string x, .string y] T)) fun e w' => e = .returned (.string ⟨l.toArray⟩) ∧ Below W.heap.size W w' := by
  have := texts_any (some ⟨W.heap.size, 0, none⟩) [x, y] 2 2 rfl (W.alloc (.cells #[.string x, .string y] T)) (strs_two x y T W) (by omega) (by
    have : (encTb [x, y]).length ≤ 1000 := by rw [h]; exact hl
    unfold encTb at this
    rw [List.length_append] at this
    omega)
  unfold strTs at this
  rw [h] at this
  exact this.mono fun e w' ⟨he, hb⟩ => ⟨he, (by go_grown : Below W.heap.size W (W.alloc (.cells #[.string x, .string y] T))).trans (hb.mono (by simp))⟩

theorem no_80 : NoI ⟨#[128]⟩ := by
  intro n t _ e
  have e' : (128 : UInt8) :: [] = encN (zz n) ++ t := e
  rw [front] at e'
  rcases e' with ⟨h, _⟩ | ⟨_, d, _, _, h⟩
  · exact absurd h (by decide)
  · have := encN_pos d
    have h2 := congrArg List.length h
    rw [List.length_append] at h2
    simp only [List.length_nil] at h2
    omega
theorem no_80_0 : NoI ⟨#[128, 0]⟩ := by
  intro n t _ e
  have e' : (128 : UInt8) :: [0] = encN (zz n) ++ t := e
  rw [front] at e'
  rcases e' with ⟨h, _⟩ | ⟨_, d, hd, _, h⟩
  · exact absurd h (by decide)
  · rw [front] at h
    rcases h with ⟨_, h, _⟩ | ⟨h, _⟩
    · have : d = 0 := h
      omega
    · exact absurd h (by decide)

theorem row_ints {w : World} {B : Nat} {v : Value} {l : List Int} (h : w.ownsRow B 3 1 v l.length (l.map (Value.int .i64))) : ∃ a c, v = .slice a l.length c ∧ IntsAt w a l ∧ ∀ g, a = some g → B ≤ g.block ∧ g.block < w.heap.size := by
  have hlt := h.lt
  rcases h.2 with ⟨hv, h0⟩ | ⟨g, cap, cur, hv, hB, hg, _⟩
  · refine ⟨none, 0, by rw [hv, h0], fun i x hx => ?_, fun g hg => by cases hg⟩
    have : l = [] := List.eq_nil_of_length_eq_zero h0
    rw [this] at hx; simp at hx
  · refine ⟨some ⟨g, 0, none⟩, cap, hv, fun i x hx => ⟨g, 0, rfl, ?_⟩, fun g' hg' => by cases hg'; exact hlt g (by rw [hv]; rfl)⟩
    rw [Nat.zero_add]
    subst hv
    have hi : i < l.length := by
      rcases Nat.lt_or_ge i l.length with q | q
      · exact q
      · rw [List.getElem?_eq_none q] at hx; cases hx
    rw [h.cellAt i (by omega), List.getElem?_map, hx]; rfl
/-- The strings of a list of lists of bytes. -/
def mkS (l : List (List UInt8)) : List ByteArray := l.map fun x => ⟨x.toArray⟩
theorem row_strs {w : World} {B : Nat} {v : Value} {l : List (List UInt8)} (h : w.ownsRow B 9 1 v l.length (l.map valT)) : ∃ a c, v = .slice a l.length c ∧ StrsAt w a (mkS l) ∧ ∀ g, a = some g → B ≤ g.block ∧ g.block < w.heap.size := by
  have hlt := h.lt
  rcases h.2 with ⟨hv, h0⟩ | ⟨g, cap, cur, hv, hB, hg, _⟩
  · refine ⟨none, 0, by rw [hv, h0], fun i x hx => ?_, fun g hg => by cases hg⟩
    have : l = [] := List.eq_nil_of_length_eq_zero h0
    rw [this] at hx; simp [mkS] at hx
  · refine ⟨some ⟨g, 0, none⟩, cap, hv, fun i x hx => ⟨g, 0, rfl, ?_⟩, fun g' hg' => by cases hg'; exact hlt g (by rw [hv]; rfl)⟩
    rw [Nat.zero_add]
    subst hv
    unfold mkS at hx
    rw [List.getElem?_map] at hx
    cases hq : l[i]? with
    | none => rw [hq] at hx; cases hx
    | some y =>
      rw [hq] at hx
      have hi : i < l.length := by
        rcases Nat.lt_or_ge i l.length with q | q
        · exact q
        · rw [List.getElem?_eq_none q] at hq; cases hq
      rw [h.cellAt i (by omega), List.getElem?_map, hq]
      simp at hx
      subst hx
      rfl

theorem at_kept {w w' : World} {a : Option Addr} {l : List Int} {b : Nat} (h : IntsAt w a l) (hg : w.grownBy w' (some b)) (hne : ∀ g, a = some g → g.block ≠ b) : IntsAt w' a l := fun i x hx => by
  obtain ⟨g, off, rfl, hc⟩ := h i x hx
  exact ⟨g, off, rfl, hg.cell hc (by have := hne _ rfl; simpa using this)⟩
theorem sat_kept {w w' : World} {a : Option Addr} {l : List ByteArray} {b : Nat} (h : StrsAt w a l) (hg : w.grownBy w' (some b)) (hne : ∀ g, a = some g → g.block ≠ b) : StrsAt w' a l := fun i x hx => by
  obtain ⟨g, off, rfl, hc⟩ := h i x hx
  exact ⟨g, off, rfl, hg.cell hc (by have := hne _ rfl; simpa using this)⟩
theorem at_below {w w' : World} {a : Option Addr} {l : List Int} (h : IntsAt w a l) (hb : Below w.heap.size w w') : IntsAt w' a l := fun i x hx => by
  obtain ⟨g, off, rfl, hc⟩ := h i x hx
  exact ⟨g, off, rfl, kc hb hc⟩
theorem sat_below {w w' : World} {a : Option Addr} {l : List ByteArray} (h : StrsAt w a l) (hb : Below w.heap.size w w') : StrsAt w' a l := fun i x hx => by
  obtain ⟨g, off, rfl, hc⟩ := h i x hx
  exact ⟨g, off, rfl, kc hb hc⟩
theorem same_lit (a : Option Addr) (c : Nat) (x y : Int) (T : TypeId) (W : World) (h : IntsAt W a [x, y]) : Calls Try.prog 26 #[.slice a 2 c, .slice (some ⟨W.heap.size, 0, none⟩) 2 2] (W.alloc (.cells #[.int .i64 x, .int .i64 y] T)) fun e w' => e = .returned (.bool true) ∧ Below W.heap.size W w' := by
  have hb : Below W.heap.size W (W.alloc (.cells #[.int .i64 x, .int .i64 y] T)) := by go_grown
  have := sameInts_any a (some ⟨W.heap.size, 0, none⟩) [x, y] [x, y] 2 2 c 2 rfl rfl (W.alloc (.cells #[.int .i64 x, .int .i64 y] T)) (at_below h hb) (ints_two x y T W) (by omega) (by omega)
  rw [decide_eq_true rfl] at this
  exact this.mono fun e w' ⟨he, h2⟩ => ⟨he, hb.trans (h2.mono (by simp))⟩
theorem noI_nil : NoI ⟨#[]⟩ := by
  intro n t _ e
  have h2 := congrArg List.length e
  rw [List.length_append] at h2
  have := encI_pos n
  simp only [List.length_nil] at h2
  omega

set_option maxRecDepth 100000 in
set_option maxHeartbeats 4000000 in
theorem sanity_any (w : World) : Calls Try.prog 10 #[] w fun e w' => e = .returned (.bool true) ∧ Below w.heap.size w w' := by
  have A0 := Lib.hid (int_is 0 [0] e0 (by unfold inI; omega))
  have A1 := Lib.hid (int_is (-1) [1] em1 (by unfold inI; omega))
  have A2 := Lib.hid (int_is 63 [126] e63 (by unfold inI; omega))
  have A3 := Lib.hid (int_is 64 [128, 1] e64 (by unfold inI; omega))
  have A4 := Lib.hid (int_is (-65) [129, 1] em65 (by unfold inI; omega))
  have T0 := Lib.hid (text_is ⟨#[97, 98]⟩ [4, 97, 98] (by show encI 2 ++ [97, 98] = _; rw [e2]; rfl) (by decide))
  have T1 := Lib.hid (text_is ⟨#[]⟩ [0] (by show encI 0 ++ [] = _; rw [e0]; rfl) (by decide))
  have L0 := Lib.hid (ints_lit 1 (-2) 3 [4, 2, 3] (by show encI 2 ++ (encI 1 ++ (encI (-2) ++ [])) = _; rw [e2, e1, em2]; rfl) (by unfold inI; omega) (by unfold inI; omega))
  have L1 := Lib.hid (ints_nil [0] (by show encI 0 ++ [] = _; rw [e0]; rfl))
  have L2 := Lib.hid (texts_lit ⟨#[]⟩ ⟨#[97]⟩ 9 [4, 0, 2, 97] (by show encI 2 ++ ((encI 0 ++ []) ++ ((encI 1 ++ [97]) ++ [])) = _; rw [e2, e1, e0]; rfl) (by decide))
  have N0 := Lib.hid (new_any ⟨#[4, 2, 3, 6]⟩)
  have N1 := Lib.hid (new_any ⟨#[6, 97]⟩)
  have M0 := Lib.hid (malformed_no ⟨#[128]⟩ (by decide) no_80)
  have M1 := Lib.hid (malformed_no ⟨#[128, 0]⟩ (by decide) no_80_0)
  go_enter Try.func10, Try.ntmps10
  go_wp2_with fail
  refine (A0.out _).mono ?_
  rintro e w1 ⟨rfl, hb⟩
  have hB : Below w.heap.size w w1 := hb
  clear hb
  go_wp2_with fail
  refine (A1.out _).mono ?_
  rintro e w2 ⟨rfl, hb⟩
  have hB : Below w.heap.size w w2 := bt hB hb
  clear hb
  go_wp2_with fail
  refine (A2.out _).mono ?_
  rintro e w3 ⟨rfl, hb⟩
  have hB : Below w.heap.size w w3 := bt hB hb
  clear hb
  go_wp2_with fail
  refine (A3.out _).mono ?_
  rintro e w4 ⟨rfl, hb⟩
  have hB : Below w.heap.size w w4 := bt hB hb
  clear hb
  go_wp2_with fail
  refine (A4.out _).mono ?_
  rintro e w5 ⟨rfl, hb⟩
  have hB : Below w.heap.size w w5 := bt hB hb
  clear hb
  go_wp2_with fail
  refine (T0.out _).mono ?_
  rintro e w6 ⟨rfl, hb⟩
  have hB : Below w.heap.size w w6 := bt hB hb
  clear hb
  go_wp2_with fail
  refine (T1.out _).mono ?_
  rintro e w7 ⟨rfl, hb⟩
  have hB : Below w.heap.size w w7 := bt hB hb
  clear hb
  go_wp2_with fail
  refine (L0.out _).mono ?_
  rintro e w8 ⟨rfl, hb⟩
  have hB : Below w.heap.size w w8 := bt hB hb
  clear hb
  go_wp2_with fail
  refine (L1.out _).mono ?_
  rintro e w9 ⟨rfl, hb⟩
  have hB : Below w.heap.size w w9 := bt hB hb
  clear hb
  go_wp2_with fail
  refine (L2.out _).mono ?_
  rintro e w10 ⟨rfl, hb⟩
  have hB : Below w.heap.size w w10 := bt hB hb
  clear hb
  go_wp2_with fail
  refine (N0.out _).mono ?_
  rintro e w11 ⟨rfl, hR, hb, hz⟩
  have hsz : w.heap.size ≤ w10.heap.size := hB.size
  have hB11 : Below w.heap.size w w11 := bt hB hb
  generalize w10.heap.size = b1 at *
  clear hb
  have R1 := Lib.hid (rints_ok b1 ⟨#[4, 2, 3, 6]⟩ false w11 hR (by decide) (by simp) [1, -2] [6] (by intro z h; simp at h; unfold inI; omega) (by show [4, 2, 3, 6] = (encI 2 ++ (encI 1 ++ (encI (-2) ++ []))) ++ [6]; rw [e2, e1, em2]; rfl))
  clear hR
  go_wp2_with fail
  refine R1.out.mono ?_
  rintro e w12 ⟨v, rfl, hrow, hR, hg⟩
  clear R1
  obtain ⟨a, c, rfl, hat, hbl⟩ := row_ints (l := [1, -2]) hrow
  have hB12 : Below w.heap.size w w12 := bg hB11 hg hsz
  have hne : ∀ g, a = some g → g.block ≠ b1 := fun g h => by have := hbl g h; omega
  have LA : Hid (∀ w, RS w b1 ⟨#[6]⟩ false → Calls Try.prog 32 #[.pointer (some ⟨b1, 0, none⟩)] w fun e w' => e = .returned (.int .i64 1) ∧ w = w') := Lib.hid (fun w h => left_any b1 _ _ w h)
  have LA1 := Lib.hid (LA.out w12 hR)
  have R2 := Lib.hid (rint_ok b1 ⟨#[6]⟩ false w12 hR (by decide) 3 [] (by unfold inI; omega) (by show [6] = encI 3 ++ []; rw [e3]; rfl))
  have HB := Lib.hid (And.intro hat hne)
  clear hrow hR hg hat hne hbl LA
  go_wp2_with fail
  refine LA1.out.mono ?_
  rintro e w13 ⟨rfl, rfl⟩
  clear LA1
  go_wp2_with fail
  refine R2.out.mono ?_
  rintro e w13 ⟨rfl, hR, hg⟩
  have hat := at_kept HB.out.1 hg HB.out.2
  have hB13 : Below w.heap.size w w13 := bg hB12 hg hsz
  have SA := Lib.hid (same_lit a c 1 (-2) 3 w13 hat)
  have hR13 := Lib.hid hR
  clear R2 hat hg hR HB
  go_wp2_with fail
  refine SA.out.mono ?_
  rintro e w14 ⟨rfl, hb⟩
  have hR := rs_below hR13.out hb
  have hB14 : Below w.heap.size w w14 := bt hB13 hb
  have LB : Hid (Calls Try.prog 32 #[.pointer (some ⟨b1, 0, none⟩)] w14 fun e w' => e = .returned (.int .i64 0) ∧ w14 = w') := Lib.hid (left_any b1 _ _ w14 hR)
  have BB := Lib.hid (bad_any b1 _ _ w14 hR)
  have R3 := Lib.hid (rint_no b1 _ false w14 hR (by decide) noI_nil)
  clear hb hR SA hR13
  go_wp2_with fail
  refine LB.out.mono ?_
  rintro e w15 ⟨rfl, rfl⟩
  go_wp2_with fail
  refine BB.out.mono ?_
  rintro e w15 ⟨rfl, rfl⟩
  go_wp2_with fail
  refine R3.out.mono ?_
  rintro e w15 ⟨rfl, hR, hg⟩
  have hB15 : Below w.heap.size w w15 := bg hB14 hg hsz
  have BC := Lib.hid (bad_any b1 _ _ w15 hR)
  clear LB BB R3 hR hg
  go_wp2_with fail
  refine BC.out.mono ?_
  rintro e w16 ⟨rfl, rfl⟩
  go_wp2_with fail
  refine (N1.out _).mono ?_
  rintro e w16 ⟨rfl, hR, hb, hz2⟩
  have hsz2 : w.heap.size ≤ w15.heap.size := hB15.size
  have hB16 : Below w.heap.size w w16 := bt hB15 hb
  generalize w15.heap.size = b2 at *
  have HR := Lib.hid hR
  clear hb hR BC
  go_wp2_with fail
  refine (M0.out _).mono ?_
  rintro e w17 ⟨rfl, hb⟩
  have hR17 := Lib.hid (rs_below HR.out hb)
  have hB17 : Below w.heap.size w w17 := bt hB16 hb
  clear hb HR
  go_wp2_with fail
  refine (M1.out _).mono ?_
  rintro e w18 ⟨rfl, hb⟩
  have hR := rs_below hR17.out hb
  have hB18 : Below w.heap.size w w18 := bt hB17 hb
  have R4 := Lib.hid (rtext_no b2 _ false w18 hR (by decide) (by simp) (noT_of _ 3 [97] (by show [6, 97] = encI 3 ++ [97]; rw [e3]; rfl) (Or.inr (by decide))))
  clear hb hR17 hR
  go_wp2_with fail
  refine R4.out.mono ?_
  rintro e w19 ⟨rfl, hR, hg⟩
  have hB19 : Below w.heap.size w w19 := bg hB18 hg hsz2
  have BD := Lib.hid (bad_any b2 _ _ w19 hR)
  clear hR hg R4
  go_wp2_with fail
  refine BD.out.mono ?_
  rintro e w20 ⟨rfl, rfl⟩
  go_wp2_with fail
  go_ret
  exact ⟨rfl, hB19⟩
end Go.Proofs.Ytadnkofbgifliaa.Wr
