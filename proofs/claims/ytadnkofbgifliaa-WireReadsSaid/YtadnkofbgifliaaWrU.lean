/-
  Layer 2 (wire): the law WireWrites, walked.
-/
import Derived.Test.YtadnkofbgifliaaWrT
import Derived.Deep.RegionHeld3
namespace Go.Proofs.Ytadnkofbgifliaa.Wr
open Go.RowKit

theorem cut_flat (l : List ByteArray) : ((cutL l).flatMap fun s => encT s.data.toList).length ≤ 20 * 110 := by
  have h : ∀ m : List ByteArray, (∀ x ∈ m, x.size ≤ 100) → (m.flatMap fun s => encT s.data.toList).length ≤ m.length * 110 := by
    intro m
    induction m with
    | nil => intro _; simp
    | cons x m ih =>
      intro hx
      have h1 := ih (fun y hy => hx y (by simp [hy]))
      have h2 := hx x (by simp)
      have e3 : (encT x.data.toList).length = (encI x.data.toList.length).length + x.data.toList.length := by unfold encT; rw [List.length_append]
      have e2 : x.data.toList.length = x.size := by rw [← size_list]
      have h3 := encI_le x.data.toList.length (by omega)
      rw [List.flatMap_cons, List.length_append, List.length_cons]
      omega
  have h2 := h (cutL l) (fun x hx => by unfold cutL at hx; rw [List.mem_map] at hx; obtain ⟨y, _, rfl⟩ := hx; exact cutS_size y)
  have h3 := cutL_length l
  have : (cutL l).length * 110 ≤ 20 * 110 := Nat.mul_le_mul_right _ (by omega)
  omega
theorem row_bytes {w : World} {B : Nat} {v : Value} {l : List ByteArray} (h : w.ownsRow B 9 1 v l.length (l.map Value.string)) : ∃ a c, v = .slice a l.length c ∧ StrsAt w a l ∧ ∀ g, a = some g → B ≤ g.block ∧ g.block < w.heap.size := by
  have hlt := h.lt
  rcases h.2 with ⟨hv, h0⟩ | ⟨g, cap, cur, hv, hB, hg, _⟩
  · refine ⟨none, 0, by rw [hv, h0], fun i x hx => ?_, fun g hg => by cases hg⟩
    have : l = [] := List.eq_nil_of_length_eq_zero h0
    rw [this] at hx; simp at hx
  · refine ⟨some ⟨g, 0, none⟩, cap, hv, fun i x hx => ⟨g, 0, rfl, ?_⟩, fun g' hg' => by cases hg'; exact hlt g (by rw [hv]; rfl)⟩
    rw [Nat.zero_add]
    subst hv
    have hi : i < l.length := by
      rcases Nat.lt_or_ge i l.length with q | q
      · exact q
      · rw [List.getElem?_eq_none q] at hx; cases hx
    rw [h.cellAt i (by omega), List.getElem?_map, hx]; rfl

theorem ints_take {w : World} {a : Option Addr} {l : List Int} (h : IntsAt w a l) (k : Nat) : IntsAt w a (l.take k) := fun i x hx => by
  rw [List.getElem?_take] at hx
  split at hx
  · exact h i x hx
  · cases hx

theorem elemI : Try.prog.elem 22 = 3 := by kernel_rfl
theorem sizeI (w : World) : (sizeOf 3).run Try.prog w = .ok 1 w := by kernel_rfl
theorem slice_upto (a : Option Addr) (n c : Nat) (h : Int) (h0 : 0 ≤ h) (h1 : h ≤ c) (W : World) :
    (Instr.slice 22 (.slice a n c) none (some (.int .i64 h)) none).run Try.prog W = .ok (.slice a h.toNat c) W := by
  have := run_slice_h (P := Try.prog) W 22 a n c (by rw [elemI]; exact Try.underlying22) .i64 h h0 h1
  rw [this, elemI, sizeI]
  simp [Result.andThen, sliced]
  intro _
  cases a <;> simp [Addr.add]
def TextsIn (t : List ByteArray) (v : Value) (w : World) : Prop := ∃ a c, v = .slice a (cutL t).length c ∧ StrsAt w a (cutL t)

set_option maxRecDepth 100000 in
set_option maxHeartbeats 4000000 in
theorem writes_any (a a' : Option Addr) (l : List Int) (t : List ByteArray) (n n' c c' : Nat) (hn : l.length = n) (hn' : t.length = n') (hnc : n ≤ c) (w : World) (hl : IntsAt w a l) (ht : StrsAt w a' t)
    (hs : c ≤ 9223372036854775807) (hs' : n' ≤ 9223372036854775807) (hb : ∀ x ∈ l, inI x) (hz : ∀ x ∈ t, x.size ≤ 9223372036854775807) :
    Calls Try.prog 3 #[.slice a n c, .slice a' n' c'] w fun e w' => e = .returned (.bool true) ∧ Below w.heap.size w w' := by
  have SA := Lib.hid sanity_any
  have CU := Lib.hid (fun (w1 : World) (h : Below w.heap.size w w1) => cut_any a' t c' n' hn' w1 (sat_below ht h) hs' hz)
  have HL := Lib.hid (And.intro hl (And.intro hn hb))
  clear hn hn' hl ht hb hz
  go_enter Try.func3, Try.ntmps3
  go_wp2_with fail
  refine (SA.out _).mono ?_
  rintro e w1 ⟨rfl, hB1⟩
  have hsl : ∀ W : World, (Instr.slice 22 (.slice a n c) none (some (.int .i64 (min (n : Int) 40))) none).run Try.prog W = .ok (.slice a (min n 40) c) W := by
    intro W
    rw [slice_upto a n c (min (n : Int) 40) (by omega) (by omega)]
    rw [show (min (n : Int) 40).toNat = min n 40 by omega]
  go_upto_region 2 with (fail)
  go_cut [0, 1] (fun s0 s1 wx => s0 = .slice a (min n 40) c ∧ TextsIn t s1 wx ∧ Below w.heap.size w wx)
  case first =>
    go_region_with (go_at_call 11; refine (CU.out _ (by first | exact hB1 | exact hB1.drew)).mono ?_; rintro e w2 ⟨v, rfl, hrow, hb⟩)
    all_goals
      have hB2 : Below w.heap.size w w2 := (show Below w.heap.size w w1.drew from hB1.drew).trans (hb.mono hB1.size)
      obtain ⟨at', ct, rfl, hat, _⟩ := row_bytes hrow
      have TT : Hid (TextsIn t (.slice at' (cutL t).length ct) w2) := Lib.hid ⟨at', ct, rfl, hat⟩
      clear hrow hat hb
      go_wp2_with fail
      go_meet
      exact ⟨rfl, TT.out, hB2⟩
  case rest =>
  obtain ⟨rfl, ⟨at', ct, rfl, hat⟩, hB2⟩ := hcut
  clear hsl hB1
  have hA : IntsAt wc a (l.take (min n 40)) := ints_take (at_below HL.out.1 hB2) _
  have hAl : (l.take (min n 40)).length = min n 40 := by rw [List.length_take, HL.out.2.1]; omega
  have hAb : ∀ x ∈ l.take (min n 40), inI x := fun x hx => HL.out.2.2 x (List.mem_of_mem_take hx)
  have hm40 : min n 40 ≤ 40 := by omega
  have hmc : min n 40 ≤ c := by omega
  clear HL SA CU
  generalize min n 40 = m at *
  have hTl : (cutL t).length ≤ 20 := by rw [cutL_length]; omega
  have hTF := cut_flat t
  have hTz : ∀ x ∈ cutL t, x.size ≤ 100 := fun x hx => by unfold cutL at hx; rw [List.mem_map] at hx; obtain ⟨y, _, rfl⟩ := hx; exact cutS_size y
  generalize l.take m = L at *
  generalize cutL t = T at *
  obtain ⟨q, hq⟩ : ∃ q : Nat, T.length = q := ⟨_, rfl⟩
  have I := Lib.hid (fun (W : World) (h : Below wc.heap.size wc W) => ints_any a L c m hAl W (at_below hA h) hAb (by omega))
  have J := Lib.hid (fun (W : World) (h : Below wc.heap.size wc W) => ref_ints a L c m hAl W (at_below hA h) hAb (by omega))
  have I' := Lib.hid (fun (W : World) (h : Below wc.heap.size wc W) => texts_any at' T ct q hq W (sat_below hat h) (by omega) (by omega))
  have J' := Lib.hid (fun (W : World) (h : Below wc.heap.size wc W) => ref_texts at' T ct q hq W (sat_below hat h) (by omega) (by omega))
  rw [hq] at hTl ⊢
  have HL := Lib.hid (And.intro hA (And.intro hAl hAb))
  have HT := Lib.hid (And.intro hat (And.intro hq hTz))
  clear hA hAl hAb hat hq hTz hTF
  go_wp2_with fail
  go_loopw [20] (fun s20 wr => ∃ k : Nat, k ≤ m ∧ s20 = .int .i64 k ∧ Below wc.heap.size wc wr) (fun s20 _ => m - (intOf s20).toNat)
  case atStart => exact ⟨0, by omega, rfl, Below.refl _ _⟩
  case round =>
    obtain ⟨k, hk, rfl, hB⟩ := hrel
    rcases Nat.lt_or_ge k m with hlt | hge
    · have hx : L[k]? = some (L[k]'(by rw [HL.out.2.1]; exact hlt)) := List.getElem?_eq_getElem _
      obtain ⟨b, off, rfl, hc⟩ := HL.out.1 k _ hx
      have hmem : L[k]'(by rw [HL.out.2.1]; exact hlt) ∈ L := List.getElem_mem _
      have ck : wr.cell? ⟨b, off + k, none⟩ = some (Value.int .i64 (L[k]'(by rw [HL.out.2.1]; exact hlt))) := by rw [hB.cell (p := ⟨b, off + k, none⟩) (block_lt_of_cell hc)]; exact hc
      clear hx hc
      generalize L[k]'(by rw [HL.out.2.1]; exact hlt) = x at *
      have X := Lib.hid (int_any x (HL.out.2.2 _ hmem))
      have Y := Lib.hid (ref_int x (HL.out.2.2 _ hmem))
      generalize strI x = sx at *
      go_wp2_with fail
      refine (X.out _).mono ?_
      rintro e w3 ⟨rfl, hB3⟩
      go_wp2_with fail
      refine (Y.out _).mono ?_
      rintro e w4 ⟨rfl, hB4⟩
      have hB5 : Below wc.heap.size wc w4 := (hB.trans (hB3.mono hB.size)).trans (hB4.mono (hB.trans (hB3.mono hB.size)).size)
      go_wp2_with fail
      go_roundw
      case rel => exact ⟨k + 1, by omega, by congr 1, hB5⟩
      case measure => simp [intOf]; omega
    · have hkn : k = m := by omega
      subst hkn
      obtain ⟨wo, rfl⟩ : ∃ wo : World, wo = wr := ⟨_, rfl⟩
      go_wp2_with fail
      go_loopw [32] (fun s32 wr => ∃ j : Nat, j ≤ q ∧ s32 = .int .i64 j ∧ Below wc.heap.size wc wr) (fun s32 _ => q - (intOf s32).toNat)
      case atStart => exact ⟨0, by omega, rfl, hB⟩
      case round =>
        clear hB
        obtain ⟨j, hj, rfl, hB⟩ := hrel
        rcases Nat.lt_or_ge j q with hlt | hge'
        · have hx : T[j]? = some (T[j]'(by rw [HT.out.2.1]; exact hlt)) := List.getElem?_eq_getElem _
          obtain ⟨b, off, rfl, hc⟩ := HT.out.1 j _ hx
          have hmem : T[j]'(by rw [HT.out.2.1]; exact hlt) ∈ T := List.getElem_mem _
          have ck : wr.cell? ⟨b, off + j, none⟩ = some (Value.string (T[j]'(by rw [HT.out.2.1]; exact hlt))) := by rw [hB.cell (p := ⟨b, off + j, none⟩) (block_lt_of_cell hc)]; exact hc
          clear hx hc
          generalize T[j]'(by rw [HT.out.2.1]; exact hlt) = x at *
          have hz := HT.out.2.2 _ hmem
          have X := Lib.hid (text_any x (by omega))
          have Y := Lib.hid (ref_text x (by omega))
          generalize strT x = sx at *
          go_wp2_with fail
          refine (X.out _).mono ?_
          rintro e w3 ⟨rfl, hB3⟩
          go_wp2_with fail
          refine (Y.out _).mono ?_
          rintro e w4 ⟨rfl, hB4⟩
          have hB5 : Below wc.heap.size wc w4 := (hB.trans (hB3.mono hB.size)).trans (hB4.mono (hB.trans (hB3.mono hB.size)).size)
          go_wp2_with fail
          go_roundw
          case rel => exact ⟨j + 1, by omega, by congr 1, hB5⟩
          case measure => simp [intOf]; omega
        · have hjn : j = q := by omega
          subst hjn
          generalize strIs L = sl at *
          generalize strTs T = sx at *
          go_wp2_with fail
          refine (I.out _ hB).mono ?_
          rintro e w3 ⟨rfl, hB3⟩
          have hC3 : Below wc.heap.size wc w3 := hB.trans (hB3.mono hB.size)
          go_wp2_with fail
          refine (J.out _ hC3).mono ?_
          rintro e w4 ⟨rfl, hB4⟩
          have hC4 : Below wc.heap.size wc w4 := hC3.trans (hB4.mono hC3.size)
          go_wp2_with fail
          refine (I'.out _ hC4).mono ?_
          rintro e w5 ⟨rfl, hB5⟩
          have hC5 : Below wc.heap.size wc w5 := hC4.trans (hB5.mono hC4.size)
          go_wp2_with fail
          refine (J'.out _ hC5).mono ?_
          rintro e w6 ⟨rfl, hB6⟩
          have hC6 : Below wc.heap.size wc w6 := hC5.trans (hB6.mono hC5.size)
          go_wp2_with fail
          go_ret
          exact ⟨rfl, hB2.trans (hC6.mono hB2.size)⟩
end Go.Proofs.Ytadnkofbgifliaa.Wr
