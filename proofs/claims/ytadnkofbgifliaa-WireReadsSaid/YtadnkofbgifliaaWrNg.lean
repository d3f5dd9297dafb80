/-
  Layer 2 (wire): both readers at the same bytes: what a call answers, and what it leaves.
-/
import Derived.Test.YtadnkofbgifliaaWrNd
import Derived.Test.YtadnkofbgifliaaWrNf
namespace Go.Proofs.Ytadnkofbgifliaa.Wr
open Go.RowKit

theorem rs_bad {w : World} {b : Nat} {s : ByteArray} {bad : Bool} (hz : bad = true → s.size = 0) {n : Int} {t : List UInt8} (h : s.data.toList = encI n ++ t) : bad = false := bad_false hz h
theorem sync0 (b1 b2 : Nat) (r : ByteArray) (bad : Bool) (hs : r.size ≤ 1000000) (hz : bad = true → r.size = 0) : ∃ (n : Int) (r' : ByteArray) (bad' : Bool),
    (∀ W, RS W b1 r bad → Calls Try.prog 22 #[.pointer (some ⟨b1, 0, none⟩)] W fun e w' => e = .returned (.int .i64 n) ∧ RS w' b1 r' bad' ∧ W.grownBy w' (some b1)) ∧
    (∀ W, RZ W b2 r bad → Calls Try.prog 23 #[.pointer (some ⟨b2, 0, none⟩)] W fun e w' => e = .returned (.int .i64 n) ∧ RZ w' b2 r' bad' ∧ W.grownBy w' (some b2)) := by
  rcases Classical.em (NoI r) with hno | hyes
  · refine ⟨0, empty, true, fun W h => rint_no b1 r bad W h (by omega) hno, fun W h => (zint_any b2 r bad W h).mono fun e w' H => ?_⟩
    rcases H with ⟨n, t, h1, h2, _⟩ | ⟨_, h⟩
    · exact absurd h2 (hno n t h1)
    · exact h
  · obtain ⟨n, t, hn, he⟩ : ∃ n t, inI n ∧ r.data.toList = encI n ++ t := Classical.byContradiction fun h => hyes fun n t hn he => h ⟨n, t, hn, he⟩
    refine ⟨n, ⟨t.toArray⟩, bad, fun W h => rint_ok b1 r bad W h (by omega) n t hn he, fun W h => (zint_any b2 r bad W h).mono fun e w' H => ?_⟩
    rcases H with ⟨n', t', h1, h2, h3⟩ | ⟨h, _⟩
    · rw [he] at h2
      obtain ⟨rfl, rfl⟩ := encI_prefix h2
      exact h3
    · exact absurd he (h n t hn)
theorem sync1 (b1 b2 : Nat) (r : ByteArray) (bad : Bool) (hs : r.size ≤ 1000000) (hz : bad = true → r.size = 0) : ∃ (x r' : ByteArray) (bad' : Bool),
    (∀ W, RS W b1 r bad → Calls Try.prog 24 #[.pointer (some ⟨b1, 0, none⟩)] W fun e w' => e = .returned (.string x) ∧ RS w' b1 r' bad' ∧ W.grownBy w' (some b1)) ∧
    (∀ W, RZ W b2 r bad → Calls Try.prog 25 #[.pointer (some ⟨b2, 0, none⟩)] W fun e w' => e = .returned (.string x) ∧ RZ w' b2 r' bad' ∧ W.grownBy w' (some b2)) := by
  rcases Classical.em (NoT r) with hno | hyes
  · refine ⟨⟨#[]⟩, empty, true, fun W h => rtext_no b1 r bad W h (by omega) hz hno, fun W h => (ztext_any b2 r bad W h).mono fun e w' H => ?_⟩
    rcases H with ⟨n, t, h2, _⟩ | ⟨_, h⟩
    · exact absurd h2 (hno n t)
    · exact h
  · obtain ⟨x, t, he⟩ : ∃ x t, r.data.toList = encT x ++ t := Classical.byContradiction fun h => hyes fun x t he => h ⟨x, t, he⟩
    refine ⟨⟨x.toArray⟩, ⟨t.toArray⟩, bad, fun W h => rtext_ok b1 r bad W h (by omega) hz x t he, fun W h => (ztext_any b2 r bad W h).mono fun e w' H => ?_⟩
    rcases H with ⟨n', t', h2, h3⟩ | ⟨h, _⟩
    · rw [he] at h2
      obtain ⟨rfl, rfl⟩ := encT_prefix h2
      exact h3
    · exact absurd he (h x t)
/-- A list of integers that a call made. -/
def NewInts (W w' : World) (l : List Int) (v : Value) : Prop := ∃ a c, v = .slice a l.length c ∧ IntsAt w' a l ∧ ∀ g, a = some g → W.heap.size ≤ g.block ∧ g.block < w'.heap.size
def NewStrs (W w' : World) (l : List ByteArray) (v : Value) : Prop := ∃ a c, v = .slice a l.length c ∧ StrsAt w' a l ∧ ∀ g, a = some g → W.heap.size ≤ g.block ∧ g.block < w'.heap.size
theorem newInts_nil (W w' : World) : NewInts W w' [] (.slice none 0 0) := ⟨none, 0, rfl, fun i x h => by simp at h, fun g h => by cases h⟩
theorem newStrs_nil (W w' : World) : NewStrs W w' [] (.slice none 0 0) := ⟨none, 0, rfl, fun i x h => by simp at h, fun g h => by cases h⟩
theorem newStrs_row {W w' : World} {l : List (List UInt8)} {v : Value} (h : w'.ownsRow W.heap.size 9 1 v l.length (l.map valT)) : NewStrs W w' (mkS l) v := by
  obtain ⟨a, c, h1, h2, h3⟩ := row_strs h
  exact ⟨a, c, by rw [h1]; unfold mkS; rw [List.length_map], h2, h3⟩
theorem sync2 (b1 b2 : Nat) (r : ByteArray) (bad : Bool) (hs : r.size ≤ 1000000) (hz : bad = true → r.size = 0) : ∃ (l : List Int) (r' : ByteArray) (bad' : Bool), l.length ≤ 1000000 ∧
    (∀ W, RS W b1 r bad → Calls Try.prog 27 #[.pointer (some ⟨b1, 0, none⟩)] W fun e w' => ∃ v, e = .returned v ∧ NewInts W w' l v ∧ RS w' b1 r' bad' ∧ W.grownBy w' (some b1)) ∧
    (∀ W, RZ W b2 r bad → Calls Try.prog 28 #[.pointer (some ⟨b2, 0, none⟩)] W fun e w' => ∃ v, e = .returned v ∧ NewInts W w' l v ∧ RZ w' b2 r' bad' ∧ W.grownBy w' (some b2)) := by
  rcases Classical.em (NoIs r) with hno | hyes
  · refine ⟨[], empty, true, by simp, fun W h => (rints_no b1 r bad W h hs hz hno).mono fun e w' ⟨h1, h2⟩ => ⟨_, h1, newInts_nil _ _, h2⟩, fun W h => (zIs_any b2 r bad W h).mono fun e w' H => ?_⟩
    rcases H with ⟨l, t, v, h1, h2, _⟩ | ⟨_, h1, h2⟩
    · exact absurd h2 (hno l t h1)
    · exact ⟨_, h1, newInts_nil _ _, h2⟩
  · obtain ⟨l, t, hn, he⟩ : ∃ l t, (∀ x ∈ l, inI x) ∧ r.data.toList = (encI l.length ++ l.flatMap encI) ++ t := Classical.byContradiction fun h => hyes fun l t hn he => h ⟨l, t, hn, he⟩
    have hll : l.length ≤ 1000000 := by
      have := congrArg List.length he
      have h2 := flat_len encI (fun x => encI_pos x) l
      rw [List.length_append, List.length_append, ← size_list] at this; omega
    refine ⟨l, ⟨t.toArray⟩, bad, hll, fun W h => (rints_ok b1 r bad W h hs hz l t hn he).mono fun e w' ⟨v, h1, h2, h3⟩ => ⟨v, h1, row_ints h2, h3⟩, fun W h => (zIs_any b2 r bad W h).mono fun e w' H => ?_⟩
    rcases H with ⟨l', t', v, h1, h2, h3, h4, h5⟩ | ⟨h, _⟩
    · rw [he] at h2
      obtain ⟨rfl, rfl⟩ := list_prefix (fun _ _ _ _ => encI_prefix) h2
      exact ⟨v, h3, row_ints h4, h5⟩
    · exact absurd he (h l t hn)
theorem sync3 (b1 b2 : Nat) (r : ByteArray) (bad : Bool) (hs : r.size ≤ 1000000) (hz : bad = true → r.size = 0) : ∃ (l : List ByteArray) (r' : ByteArray) (bad' : Bool), l.length ≤ 1000000 ∧
    (∀ W, RS W b1 r bad → Calls Try.prog 30 #[.pointer (some ⟨b1, 0, none⟩)] W fun e w' => ∃ v, e = .returned v ∧ NewStrs W w' l v ∧ RS w' b1 r' bad' ∧ W.grownBy w' (some b1)) ∧
    (∀ W, RZ W b2 r bad → Calls Try.prog 31 #[.pointer (some ⟨b2, 0, none⟩)] W fun e w' => ∃ v, e = .returned v ∧ NewStrs W w' l v ∧ RZ w' b2 r' bad' ∧ W.grownBy w' (some b2)) := by
  rcases Classical.em (NoTs r) with hno | hyes
  · refine ⟨[], empty, true, by simp, fun W h => (rtexts_no b1 r bad W h hs hz hno).mono fun e w' ⟨h1, h2⟩ => ⟨_, h1, newStrs_nil _ _, h2⟩, fun W h => (zTs_any b2 r bad W h).mono fun e w' H => ?_⟩
    rcases H with ⟨l, t, v, h1, h2, _⟩ | ⟨_, h1, h2⟩
    · exact absurd h2 (hno l t h1)
    · exact ⟨_, h1, newStrs_nil _ _, h2⟩
  · obtain ⟨l, t, hn, he⟩ : ∃ l t, (∀ x ∈ l, tT x) ∧ r.data.toList = (encI l.length ++ l.flatMap encT) ++ t := Classical.byContradiction fun h => hyes fun l t hn he => h ⟨l, t, hn, he⟩
    have hll : l.length ≤ 1000000 := by
      have := congrArg List.length he
      have h2 := flat_len encT (fun x => encT_pos x) l
      rw [List.length_append, List.length_append, ← size_list] at this; omega
    refine ⟨mkS l, ⟨t.toArray⟩, bad, by unfold mkS; rw [List.length_map]; exact hll, fun W h => (rtexts_ok b1 r bad W h hs hz l t he).mono fun e w' ⟨v, h1, h2, h3⟩ => ⟨v, h1, newStrs_row h2, h3⟩, fun W h => (zTs_any b2 r bad W h).mono fun e w' H => ?_⟩
    rcases H with ⟨l', t', v, h1, h2, h3, h4, h5⟩ | ⟨h, _⟩
    · rw [he] at h2
      obtain ⟨rfl, rfl⟩ := list_prefix (fun _ _ _ _ => encT_prefix) h2
      exact ⟨v, h3, newStrs_row h4, h5⟩
    · exact absurd he (h l t hn)

set_option maxRecDepth 100000 in
set_option maxHeartbeats 4000000 in
theorem reads_any (s : ByteArray) (a : Option Addr) (l : List Int) (n c : Nat) (hn : l.length = n) (w : World) (hl : BytesAt w a l) (hb : ∀ x ∈ l, 0 ≤ x ∧ x < 256) (hs : n ≤ 9223372036854775807) (hss : s.size ≤ 9223372036854775807) :
    Calls Try.prog 4 #[.string s, .slice a n c] w fun e w' => e = .returned (.bool true) ∧ Below w.heap.size w w' := by
  have SA := Lib.hid sanity_any
  have m0 : (0 : Int) ≤ min (s.size : Int) 200 := by omega
  have m1 : min (s.size : Int) 200 ≤ (s.size : Int) := by omega
  obtain ⟨S, hS⟩ : ∃ S, s.extract 0 (min (s.size : Int) 200).toNat = S := ⟨_, rfl⟩
  have hz : S.size ≤ 1000000 := by rw [← hS, size_list, Lib.extract_data, List.length_take]; omega
  have NW := Lib.hid (new_any S)
  have ZW := Lib.hid (znew_any S hz)
  have HL := Lib.hid (And.intro hl (And.intro hn hb))
  have HZ := Lib.hid hz
  clear hl hn hb hz
  go_enter Try.func4, Try.ntmps4
  go_wp2_with fail
  refine (SA.out _).mono ?_
  rintro e w1 ⟨rfl, hB1⟩
  go_wp2_with fail
  refine (NW.out _).mono ?_
  rintro e w2 ⟨rfl, hR, hB2, hlt2⟩
  have hb12 := hB1.size
  have hBB := bt hB1 hB2
  have HR := Lib.hid hR
  generalize w1.heap.size = b1 at *
  clear hR hB1 hB2 NW SA hS
  go_wp2_with fail
  refine (ZW.out _).mono ?_
  rintro e w3 ⟨rfl, hZ, hB3, hlt3⟩
  have hB4 := bt hBB hB3
  have hR3 := rs_below HR.out hB3
  have hb2 := hBB.size
  generalize w2.heap.size = b2 at *
  have HST := Lib.hid (And.intro hR3 (And.intro hZ hB4))
  clear hR3 hZ hB3 hB4 hBB HR ZW
  go_wp2_with fail
  go_loopw [8] (fun s8 wr => ∃ (k : Nat) (r : ByteArray) (bad : Bool), k ≤ n ∧ k ≤ 12 ∧ s8 = .int .i64 k ∧ RS wr b1 r bad ∧ RZ wr b2 r bad ∧ Below w.heap.size w wr) (fun s8 _ => 12 - (intOf s8).toNat)
  case atStart => exact ⟨0, S, false, by omega, by omega, rfl, HST.out.1, HST.out.2.1, HST.out.2.2⟩
  case round =>
    clear HST
    obtain ⟨k, r, bad, hk, hk12, rfl, hR, hZ, hB⟩ := hrel
    by_cases hin : k < n ∧ k < 12
    · obtain ⟨hlt, h12⟩ := hin
      have hx : l[k]? = some (l[k]'(by rw [HL.out.2.1]; exact hlt)) := List.getElem?_eq_getElem _
      obtain ⟨b, off, rfl, hc⟩ := HL.out.1 k _ hx
      have hxb := HL.out.2.2 _ (List.getElem_mem (by rw [HL.out.2.1]; exact hlt : k < l.length))
      have ck : wr.cell? ⟨b, off + k, none⟩ = some (.int .u8 (l[k]'(by rw [HL.out.2.1]; exact hlt))) := by rw [hB.cell (p := ⟨b, off + k, none⟩) (block_lt_of_cell hc)]; exact hc
      clear hx hc
      generalize l[k]'(by rw [HL.out.2.1]; exact hlt) = x at *
      obtain ⟨x0, x1⟩ := hxb
      obtain ⟨hrz, hrb⟩ := rz_size hZ
      have kn : (k : Int) < n := by omega
      have k12 : (k : Int) < 12 := by omega
      have HRB := Lib.hid hrb
      have HST := Lib.hid (And.intro hR (And.intro hZ hB))
      clear hR hZ hB hrb
      rcases kind4 x x0 with hx4 | hx4 | hx4 | hx4
      · obtain ⟨v, r', bad', P, Q⟩ := sync0 b1 b2 r bad hrz HRB.out
        have HP := Lib.hid (P _ HST.out.1)
        have HQ := Lib.hid Q
        clear P Q
        go_wp2_with fail
        refine HP.out.mono ?_
        rintro e w5 ⟨rfl, hR5, hg5⟩
        have H5 := Lib.hid (And.intro hR5 (And.intro (rz_kept HST.out.2.1 hg5 (by simp; omega)) (bg HST.out.2.2 hg5 (by omega))))
        clear hR5 hg5 HP HST
        go_wp2_with fail
        refine (HQ.out _ H5.out.2.1).mono ?_
        rintro e WT ⟨rfl, hZ6, hg6⟩
        have HT := Lib.hid (And.intro (rs_kept H5.out.1 hg6 (by simp; omega)) (And.intro hZ6 (bg H5.out.2.2 hg6 (by omega))))
        clear hZ6 hg6 H5 HQ
        have HG := Lib.hid (And.intro HT.out.1 (And.intro HT.out.2.1 HT.out.2.2))
        have L1 := Lib.hid (left_any _ _ _ _ HT.out.1)
        have B1 := Lib.hid (fun (W : World) (h : Below WT.heap.size WT W) => bad_any _ _ _ _ (rs_below HT.out.1 h))
        have L2 := Lib.hid (zleft_any _ _ _ _ HT.out.2.1)
        have B2 := Lib.hid (fun (W : World) (h : Below WT.heap.size WT W) => zbad_any _ _ _ _ (rz_below HT.out.2.1 h))
        clear HT
        go_wp2_with fail
        refine L1.out.mono ?_
        rintro e w7 ⟨rfl, rfl⟩
        go_wp2_with fail
        refine L2.out.mono ?_
        rintro e w8 ⟨rfl, hb8⟩
        go_wp2_with fail
        refine (B1.out _ hb8).mono ?_
        rintro e w9 ⟨rfl, rfl⟩
        go_wp2_with fail
        refine (B2.out _ hb8).mono ?_
        rintro e w9 ⟨rfl, rfl⟩
        have HE := Lib.hid (And.intro (rs_below HG.out.1 hb8) (And.intro (rz_below HG.out.2.1 hb8) (bt HG.out.2.2 hb8)))
        clear hb8 HG L1 L2 B1 B2
        go_wp2_with fail
        go_roundw
        case rel => exact ⟨k + 1, r', bad', by omega, by omega, by congr 1, HE.out.1, HE.out.2.1, HE.out.2.2⟩
        case measure => simp [intOf]; omega
      · obtain ⟨v, r', bad', P, Q⟩ := sync1 b1 b2 r bad hrz HRB.out
        have HP := Lib.hid (P _ HST.out.1)
        have HQ := Lib.hid Q
        clear P Q
        go_wp2_with fail
        refine HP.out.mono ?_
        rintro e w5 ⟨rfl, hR5, hg5⟩
        have H5 := Lib.hid (And.intro hR5 (And.intro (rz_kept HST.out.2.1 hg5 (by simp; omega)) (bg HST.out.2.2 hg5 (by omega))))
        clear hR5 hg5 HP HST
        go_wp2_with fail
        refine (HQ.out _ H5.out.2.1).mono ?_
        rintro e WT ⟨rfl, hZ6, hg6⟩
        have HT := Lib.hid (And.intro (rs_kept H5.out.1 hg6 (by simp; omega)) (And.intro hZ6 (bg H5.out.2.2 hg6 (by omega))))
        clear hZ6 hg6 H5 HQ
        have HG := Lib.hid (And.intro HT.out.1 (And.intro HT.out.2.1 HT.out.2.2))
        have L1 := Lib.hid (left_any _ _ _ _ HT.out.1)
        have B1 := Lib.hid (fun (W : World) (h : Below WT.heap.size WT W) => bad_any _ _ _ _ (rs_below HT.out.1 h))
        have L2 := Lib.hid (zleft_any _ _ _ _ HT.out.2.1)
        have B2 := Lib.hid (fun (W : World) (h : Below WT.heap.size WT W) => zbad_any _ _ _ _ (rz_below HT.out.2.1 h))
        clear HT
        go_wp2_with fail
        refine L1.out.mono ?_
        rintro e w7 ⟨rfl, rfl⟩
        go_wp2_with fail
        refine L2.out.mono ?_
        rintro e w8 ⟨rfl, hb8⟩
        go_wp2_with fail
        refine (B1.out _ hb8).mono ?_
        rintro e w9 ⟨rfl, rfl⟩
        go_wp2_with fail
        refine (B2.out _ hb8).mono ?_
        rintro e w9 ⟨rfl, rfl⟩
        have HE := Lib.hid (And.intro (rs_below HG.out.1 hb8) (And.intro (rz_below HG.out.2.1 hb8) (bt HG.out.2.2 hb8)))
        clear hb8 HG L1 L2 B1 B2
        go_wp2_with fail
        go_roundw
        case rel => exact ⟨k + 1, r', bad', by omega, by omega, by congr 1, HE.out.1, HE.out.2.1, HE.out.2.2⟩
        case measure => simp [intOf]; omega
      · obtain ⟨v, r', bad', hvl, P, Q⟩ := sync2 b1 b2 r bad hrz HRB.out
        have HP := Lib.hid (P _ HST.out.1)
        have HQ := Lib.hid Q
        have hb2w := rz_lt HST.out.2.1
        clear P Q
        go_wp2_with fail
        refine HP.out.mono ?_
        rintro e w5 ⟨_, rfl, ⟨a1, ca1, rfl, hat1, hfr1⟩, hR5, hg5⟩
        have H5 := Lib.hid (And.intro hR5 (And.intro (rz_kept HST.out.2.1 hg5 (by simp; omega)) (bg HST.out.2.2 hg5 (by omega))))
        have HA1 := Lib.hid (And.intro hat1 hfr1)
        clear hR5 hg5 HP HST hat1 hfr1
        go_wp2_with fail
        refine (HQ.out _ H5.out.2.1).mono ?_
        rintro e w6 ⟨_, rfl, ⟨a2, ca2, rfl, hat2, hfr2⟩, hZ6, hg6⟩
        have H6 := Lib.hid (And.intro (rs_kept H5.out.1 hg6 (by simp; omega)) (And.intro hZ6 (bg H5.out.2.2 hg6 (by omega))))
        have SM := Lib.hid (sameInts_any a1 a2 v v v.length v.length ca1 ca2 rfl rfl w6 (at_kept HA1.out.1 hg6 (fun g hg => by have := (HA1.out.2 g hg).1; omega)) hat2 hvl hvl)
        rw [decide_eq_true rfl] at SM
        clear hZ6 hg6 H5 HQ hat2 hfr2 HA1
        go_wp2_with fail
        refine SM.out.mono ?_
        rintro e WT ⟨rfl, hb7⟩
        have HT := Lib.hid (And.intro (rs_below H6.out.1 hb7) (And.intro (rz_below H6.out.2.1 hb7) (bt H6.out.2.2 hb7)))
        clear hb7 H6 SM
        have HG := Lib.hid (And.intro HT.out.1 (And.intro HT.out.2.1 HT.out.2.2))
        have L1 := Lib.hid (left_any _ _ _ _ HT.out.1)
        have B1 := Lib.hid (fun (W : World) (h : Below WT.heap.size WT W) => bad_any _ _ _ _ (rs_below HT.out.1 h))
        have L2 := Lib.hid (zleft_any _ _ _ _ HT.out.2.1)
        have B2 := Lib.hid (fun (W : World) (h : Below WT.heap.size WT W) => zbad_any _ _ _ _ (rz_below HT.out.2.1 h))
        clear HT
        go_wp2_with fail
        refine L1.out.mono ?_
        rintro e w7 ⟨rfl, rfl⟩
        go_wp2_with fail
        refine L2.out.mono ?_
        rintro e w8 ⟨rfl, hb8⟩
        go_wp2_with fail
        refine (B1.out _ hb8).mono ?_
        rintro e w9 ⟨rfl, rfl⟩
        go_wp2_with fail
        refine (B2.out _ hb8).mono ?_
        rintro e w9 ⟨rfl, rfl⟩
        have HE := Lib.hid (And.intro (rs_below HG.out.1 hb8) (And.intro (rz_below HG.out.2.1 hb8) (bt HG.out.2.2 hb8)))
        clear hb8 HG L1 L2 B1 B2
        go_wp2_with fail
        go_roundw
        case rel => exact ⟨k + 1, r', bad', by omega, by omega, by congr 1, HE.out.1, HE.out.2.1, HE.out.2.2⟩
        case measure => simp [intOf]; omega
      · obtain ⟨v, r', bad', hvl, P, Q⟩ := sync3 b1 b2 r bad hrz HRB.out
        have HP := Lib.hid (P _ HST.out.1)
        have HQ := Lib.hid Q
        have hb2w := rz_lt HST.out.2.1
        clear P Q
        go_wp2_with fail
        refine HP.out.mono ?_
        rintro e w5 ⟨_, rfl, ⟨a1, ca1, rfl, hat1, hfr1⟩, hR5, hg5⟩
        have H5 := Lib.hid (And.intro hR5 (And.intro (rz_kept HST.out.2.1 hg5 (by simp; omega)) (bg HST.out.2.2 hg5 (by omega))))
        have HA1 := Lib.hid (And.intro hat1 hfr1)
        clear hR5 hg5 HP HST hat1 hfr1
        go_wp2_with fail
        refine (HQ.out _ H5.out.2.1).mono ?_
        rintro e w6 ⟨_, rfl, ⟨a2, ca2, rfl, hat2, hfr2⟩, hZ6, hg6⟩
        have H6 := Lib.hid (And.intro (rs_kept H5.out.1 hg6 (by simp; omega)) (And.intro hZ6 (bg H5.out.2.2 hg6 (by omega))))
        have SM := Lib.hid (sameTexts_any a1 a2 v v v.length v.length ca1 ca2 rfl rfl w6 (sat_kept HA1.out.1 hg6 (fun g hg => by have := (HA1.out.2 g hg).1; omega)) hat2 hvl hvl)
        rw [decide_eq_true rfl] at SM
        clear hZ6 hg6 H5 HQ hat2 hfr2 HA1
        go_wp2_with fail
        refine SM.out.mono ?_
        rintro e WT ⟨rfl, hb7⟩
        have HT := Lib.hid (And.intro (rs_below H6.out.1 hb7) (And.intro (rz_below H6.out.2.1 hb7) (bt H6.out.2.2 hb7)))
        clear hb7 H6 SM
        have HG := Lib.hid (And.intro HT.out.1 (And.intro HT.out.2.1 HT.out.2.2))
        have L1 := Lib.hid (left_any _ _ _ _ HT.out.1)
        have B1 := Lib.hid (fun (W : World) (h : Below WT.heap.size WT W) => bad_any _ _ _ _ (rs_below HT.out.1 h))
        have L2 := Lib.hid (zleft_any _ _ _ _ HT.out.2.1)
        have B2 := Lib.hid (fun (W : World) (h : Below WT.heap.size WT W) => zbad_any _ _ _ _ (rz_below HT.out.2.1 h))
        clear HT
        go_wp2_with fail
        refine L1.out.mono ?_
        rintro e w7 ⟨rfl, rfl⟩
        go_wp2_with fail
        refine L2.out.mono ?_
        rintro e w8 ⟨rfl, hb8⟩
        go_wp2_with fail
        refine (B1.out _ hb8).mono ?_
        rintro e w9 ⟨rfl, rfl⟩
        go_wp2_with fail
        refine (B2.out _ hb8).mono ?_
        rintro e w9 ⟨rfl, rfl⟩
        have HE := Lib.hid (And.intro (rs_below HG.out.1 hb8) (And.intro (rz_below HG.out.2.1 hb8) (bt HG.out.2.2 hb8)))
        clear hb8 HG L1 L2 B1 B2
        go_wp2_with fail
        go_roundw
        case rel => exact ⟨k + 1, r', bad', by omega, by omega, by congr 1, HE.out.1, HE.out.2.1, HE.out.2.2⟩
        case measure => simp [intOf]; omega
    · rcases Nat.lt_or_ge k n with h1 | h1
      · have h2 : 12 ≤ k := by omega
        clear hin
        go_wp2_with fail
        go_ret
        exact ⟨rfl, hB⟩
      · clear hin
        go_wp2_with fail
        go_ret
        exact ⟨rfl, hB⟩
end Go.Proofs.Ytadnkofbgifliaa.Wr
