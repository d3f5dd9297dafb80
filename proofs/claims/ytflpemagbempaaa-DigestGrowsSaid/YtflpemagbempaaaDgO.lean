/-
  Layer 3 (digest): the document's own levels.
-/
import Derived.Test.YtflpemagbempaaaDgM
import Derived.Test.YtflpemagbempaaaDgG
import Derived.RangeFuncBox
namespace Go.Proofs.Ytflpemagbempaaa.Dg
open Go.RowKit
/-- The first digests of a level, as strings. -/
def bl (g : Nat → List UInt8) (m : Nat) : List ByteArray := (List.range m).map (fun j => B (g j))
theorem bl_length (g : Nat → List UInt8) (m : Nat) : (bl g m).length = m := by simp [bl]
theorem bl_get (g : Nat → List UInt8) {m j : Nat} (h : j < m) : (bl g m)[j]? = some (B (g j)) := by simp [bl, h]
theorem bl_succ (g : Nat → List UInt8) (m : Nat) : (bl g (m + 1)).map Value.string = (bl g m).map Value.string ++ [Value.string (B (g m))] := by
  unfold bl; rw [List.range_succ, List.map_append, List.map_append]; rfl
theorem row_bytes {w : World} {b : Nat} {v : Value} {l : List ByteArray} {n : Nat} (hn : l.length = n) (h : w.ownsRow b 9 1 v n (l.map Value.string)) : ∃ a c, v = .slice a n c ∧ StrsAt w a l ∧ n ≤ c ∧ c ≤ 9223372036854775807 := by
  subst hn
  have hlt := h.lt
  rcases h.2 with ⟨hv, h0⟩ | ⟨g, cap, cur, hv, hB, hg, hle, hmax, _⟩
  · refine ⟨none, 0, by rw [hv, h0], fun i x hx => ?_, by omega, by omega⟩
    have : l = [] := List.eq_nil_of_length_eq_zero h0
    rw [this] at hx; simp at hx
  · refine ⟨some ⟨g, 0, none⟩, cap, hv, fun i x hx => ⟨g, 0, rfl, ?_⟩, hle, by simpa [maxLen] using hmax⟩
    rw [Nat.zero_add]
    subst hv
    have hi : i < l.length := (List.getElem?_eq_some_iff.1 hx).1
    rw [h.cellAt i (by omega), List.getElem?_map, hx]; rfl
theorem owns_below {W A : World} {base e size n : Nat} {v : Value} {xs : List Value} (h : W.ownsRow base e size v n xs) (hB : Below W.heap.size W A) : A.ownsRow base e size v n xs :=
  owns_same h (fun g hg => hB.block g (h.lt g hg).2)
def LeRel (l : List ByteArray) (w : World) (n : Nat) (sv sk : Value) (wr : World) : Prop := ∃ k : Nat, k ≤ n ∧ sk = .int .i64 k ∧ wr.ownsRow w.heap.size 9 1 sv k ((bl (g0 l) k).map Value.string) ∧ Below w.heap.size w wr
def L3Rel (l : List ByteArray) (w : World) (n m : Nat) (sv : Value) (wr : World) : Prop := ∃ k : Nat, n ≤ k ∧ k ≤ m ∧ wr.ownsRow w.heap.size 9 1 sv k ((bl (g0 l) k).map Value.string) ∧ Below w.heap.size w wr
set_option maxRecDepth 100000 in
set_option maxHeartbeats 4000000 in
theorem leaves_any (l : List ByteArray) (a : Option Addr) (n c : Nat) (hn : l.length = n) (hs : n ≤ 1000000) (w : World) (hl : StrsAt w a l) (hz : ∀ s ∈ l, s.size ≤ 100000) :
    Calls Try.prog 38 #[.slice a n c] w fun e w' => ∃ v, e = .returned v ∧ w'.ownsRow w.heap.size 9 1 v (2 ^ ht n) ((bl (g0 l) (2 ^ ht n)).map Value.string) ∧ Below w.heap.size w w' := by
  have HL := Lib.hid hl
  have HN := Lib.hid hn
  have HZ := Lib.hid hz
  clear hl hn hz
  obtain ⟨i0, hi, hz0, hz1, hz2⟩ := info_parts infoS
  have KI := Lib.hid (And.intro hi (And.intro hz0 (And.intro hz1 hz2)))
  clear hi hz0 hz1 hz2
  go_enter Try.func38, Try.ntmps38
  go_wp2_with fail
  go_loopw [3, 4] (fun s3 s4 wr => LeRel l w n s3 s4 wr) (fun _ s4 _ => n - (intOf s4).toNat)
  case atStart => exact ⟨0, by omega, rfl, World.ownsRow_nil _ _ _ _, Below.refl _ _⟩
  case round =>
    obtain ⟨k, hk, rfl, hown, hB⟩ := hrel
    rcases Nat.lt_or_ge k n with hlt | hge
    · have hx : l[k]? = some (l[k]'(by rw [HN.out]; exact hlt)) := List.getElem?_eq_getElem _
      obtain ⟨bb, off, rfl, hc⟩ := HL.out k _ hx
      have ck := kc hB (block_lt_of_cell hc) hc
      have LO := Lib.hid (rLeaf_any (l[k]'(by rw [HN.out]; exact hlt)) (HZ.out _ (List.getElem_mem _)))
      have hg : Hid (g0 l k = leaf (l[k]'(by rw [HN.out]; exact hlt))) := Lib.hid (by unfold g0; rw [if_pos (by rw [HN.out]; exact hlt), List.getD_eq_getElem?_getD, hx]; rfl)
      rw [← hg.out] at LO
      clear hx hc hg
      generalize l[k]'(by rw [HN.out]; exact hlt) = x at *
      go_wp2_with fail
      refine (LO.out _).mono ?_
      rintro e w2 ⟨rfl, hB2⟩
      have hown2 := owns_below hown hB2
      have hB3 := bt hB hB2
      have hz2 := hB3.size
      clear hown LO
      go_wp2_with (at_builtin; refine wpList_append_own _ rfl _ _ 28 rfl w.heap.size 9 i0 (.string ⟨#[]⟩) 1 16 Try.underlying28 KI.out.1 KI.out.2.1 KI.out.2.2.1 KI.out.2.2.2 rfl (by decide) _ _ _ rfl (hown2.alloc _) ⟨w2.heap.size, 0, none⟩ 1 1 [.string (B (g0 l k))] rfl rfl ?c1 ?c2 ?c3 ?c4 ?c5 ?_)
      case c1 =>
        intro j u hj
        match j, hj with
        | 0, hj => simp at hj; subst hj; simp [Addr.add]
      case c2 => intro u hu; simp at hu; subst hu; rfl
      case c3 => unfold maxLen; omega
      case c4 => omega
      case c5 => simp; omega
      intro v' w4 hown4 hgrow _
      have R : Hid (LeRel l w n v' (.int .i64 ((k : Int) + 1)) w4) := Lib.hid ⟨k + 1, by omega, by congr 1, by rw [bl_succ]; exact hown4, (ba hB3 _).grown hgrow (by simp; omega) (fun g hg => (hown2.lt g hg).1)⟩
      clear hown2 hown4 hgrow
      go_wp2_with fail
      go_roundw
      case rel => exact R.out
      case measure => simp [intOf]; omega
    · have hkn : k = n := by omega
      subst hkn
      obtain ⟨oa, oc, rfl, hsa, _⟩ := row_bytes (bl_length _ _) hown
      clear hsa
      go_wp2_with fail
      have HO := Lib.hid hown
      have HB := Lib.hid hB
      clear hown hB
      go_loopw [5] (fun s5 w' => WRel k wr s5 w') (fun s5 _ => 2 * k - (intOf s5).toNat)
      case atStart => exact ⟨0, by omega, rfl, rfl⟩
      case round =>
        obtain ⟨j, hj, rfl, rfl⟩ := hrel
        have hpb := pow_bound hs hj
        have hpp : 0 < 2 ^ j := Nat.pow_pos (by omega)
        rcases Nat.lt_or_ge (2 ^ j) k with h1 | h1
        · have hj2 : j + 1 ≤ ht k := by
            rcases Nat.lt_or_ge j (ht k) with h | h
            · omega
            · have : j = ht k := by omega
              subst this; have := ht_le k; omega
          have hp2 : 2 ^ (j + 1) = 2 * 2 ^ j := by rw [Nat.pow_succ]; omega
          have RR : Hid (WRel k wr (.int .i64 (2 * ((2 ^ j : Nat) : Int))) wr) := Lib.hid ⟨j + 1, hj2, by rw [hp2]; congr 1, rfl⟩
          generalize 2 ^ j = p at *
          go_wp2_with fail
          go_roundw
          case rel => exact RR.out
          case measure => simp [intOf]; omega
        · have hj2 : j = ht k := by
            rcases Nat.lt_or_ge j (ht k) with h | h
            · have := ht_lt h; omega
            · omega
          subst hj2
          generalize hm : 2 ^ ht k = m at *
          have q1 : decide (m < k) = false := decide_eq_false (by omega)
          have RS := Lib.hid (rOf_any ⟨#[118]⟩ (by decide))
          rw [D_rest] at RS
          go_wp2_with fail
          go_loopw [3] (fun s3 w' => L3Rel l w k m s3 w') (fun s3 _ => m - lenOf s3)
          case atStart => exact ⟨k, Nat.le_refl _, h1, HO.out, HB.out⟩
          case round =>
            clear HO HB
            rename World => V
            obtain ⟨j, hkj, hjm, hown, hB⟩ := hrel
            obtain ⟨oa2, oc2, rfl, hsa2, _⟩ := row_bytes (bl_length _ _) hown
            clear hsa2
            rcases Nat.lt_or_ge j m with hlt | hge2
            · have hg : Hid (g0 l j = rest) := Lib.hid (by unfold g0; rw [if_neg (by rw [HN.out]; omega)])
              rw [← hg.out] at RS
              clear hg
              go_wp2_with fail
              refine (RS.out _).mono ?_
              rintro e w2 ⟨rfl, hB2⟩
              have hown2 := owns_below hown hB2
              have hB3 := bt hB hB2
              have hz2 := hB3.size
              clear hown RS
              go_wp2_with (at_builtin; refine wpList_append_own _ rfl _ _ 28 rfl w.heap.size 9 i0 (.string ⟨#[]⟩) 1 16 Try.underlying28 KI.out.1 KI.out.2.1 KI.out.2.2.1 KI.out.2.2.2 rfl (by decide) _ _ _ rfl (hown2.alloc _) ⟨w2.heap.size, 0, none⟩ 1 1 [.string (B (g0 l j))] rfl rfl ?c1 ?c2 ?c3 ?c4 ?c5 ?_)
              case c1 =>
                intro j u hj
                match j, hj with
                | 0, hj => simp at hj; subst hj; simp [Addr.add]
              case c2 => intro u hu; simp at hu; subst hu; rfl
              case c3 => unfold maxLen; omega
              case c4 => omega
              case c5 => simp; omega
              intro v' w4 hown4 hgrow _
              have R : Hid (L3Rel l w k m v' w4) := Lib.hid ⟨j + 1, by omega, by omega, by rw [bl_succ]; exact hown4, (ba hB3 _).grown hgrow (by simp; omega) (fun g hg => (hown2.lt g hg).1)⟩
              obtain ⟨g', cap', rfl⟩ := ownsRow_succ hown4
              clear hown2 hown4 hgrow
              go_wp2_with fail
              go_roundw
              case rel => exact R.out
              case measure => simp [lenOf]; omega
            · have hjm2 : j = m := by omega
              subst hjm2
              go_wp2_with fail
              go_ret
              exact ⟨_, rfl, by rw [hm]; exact hown, hB⟩
end Go.Proofs.Ytflpemagbempaaa.Dg
