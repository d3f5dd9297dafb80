/-
  Layer 3 (digest): the document's own proofs.
-/
import Derived.Test.YtflpemagbempaaaDgP
import Derived.Test.YtflpemagbempaaaDgN
namespace Go.Proofs.Ytflpemagbempaaa.Dg
open Go.RowKit
theorem sat_grown {W V : World} {a : Option Addr} {l : List ByteArray} {r : Option Nat} (h : StrsAt W a l) (hg : W.grownBy V r) (hn : ∀ b off, a = some ⟨b, off, none⟩ → r ≠ some b) : StrsAt V a l := fun i x hx => by
  obtain ⟨b, off, e, hc⟩ := h i x hx
  exact ⟨b, off, e, gco hg hc (hn b off e)⟩
def PrRel (l : List ByteArray) (w : World) (N i : Nat) (s1 so sv : Value) (wr : World) : Prop := ∃ k a c, k ≤ ht N ∧ s1 = .int .i64 ((i / 2 ^ k : Nat) : Int) ∧ sv = .slice a (cnt N k) c ∧ StrsAt wr a (bl (lv (g0 l) k) (cnt N k)) ∧ wr.ownsRow w.heap.size 9 1 so k (((pfl l (ht N) i).take k).map Value.string) ∧
  (∀ b off, a = some ⟨b, off, none⟩ → so.ownBlock ≠ some b) ∧ Below w.heap.size w wr
set_option maxRecDepth 100000 in
set_option maxHeartbeats 4000000 in
theorem rProve_no (i : Int) (a : Option Addr) (N c : Nat) (hi : i < 0 ∨ (N : Int) ≤ i) (w : World) :
    Calls Try.prog 24 #[.slice a N c, .int .i64 i] w fun e w' => e = .returned (.tuple #[.slice none 0 0, .bool false]) ∧ Below w.heap.size w w' := by
  rcases hi with hi | hi
  · go_enter Try.func24, Try.ntmps24
    go_wp2_with fail
    refine bodyPost_ret (v := .tuple #[.slice none 0 0, .bool false]) (by simp [results, Try.results24, go_sem]) rfl ⟨rfl, Below.refl _ _⟩
  · rcases Int.lt_or_le i 0 with h0 | h0
    · go_enter Try.func24, Try.ntmps24
      go_wp2_with fail
      refine bodyPost_ret (v := .tuple #[.slice none 0 0, .bool false]) (by simp [results, Try.results24, go_sem]) rfl ⟨rfl, Below.refl _ _⟩
    · go_enter Try.func24, Try.ntmps24
      go_wp2_with fail
      refine bodyPost_ret (v := .tuple #[.slice none 0 0, .bool false]) (by simp [results, Try.results24, go_sem]) rfl ⟨rfl, Below.refl _ _⟩
set_option maxRecDepth 100000 in
set_option maxHeartbeats 4000000 in
theorem rProve_any (l : List ByteArray) (a : Option Addr) (N c i : Nat) (hN : l.length = N) (hs : N ≤ 1000000) (hz : ∀ s ∈ l, s.size ≤ 100000) (hi : i < N) (w : World) (hl : StrsAt w a l) :
    Calls Try.prog 24 #[.slice a N c, .int .i64 i] w fun e w' => ∃ v, e = .returned (.tuple #[v, .bool true]) ∧ w'.ownsRow w.heap.size 9 1 v (ht N) ((pfl l (ht N) i).map Value.string) ∧ Below w.heap.size w w' := by
  have LE := Lib.hid (leaves_any l a N c hN hs w hl hz)
  have b1 : (0 : Int) ≤ i := by omega
  have b2 : (i : Int) < N := by omega
  have b3 : decide ((i : Int) < 0) = false := decide_eq_false (by omega)
  have b4 : decide (N ≤ i) = false := decide_eq_false (by omega)
  have b5 : decide ((N : Int) ≤ (i : Int)) = false := decide_eq_false (by omega)
  clear hl
  obtain ⟨i0, hi, hz0, hz1, hz2⟩ := info_parts infoS
  have KI := Lib.hid (And.intro hi (And.intro hz0 (And.intro hz1 hz2)))
  clear hi hz0 hz1 hz2
  go_enter Try.func24, Try.ntmps24
  go_wp2_with fail
  refine LE.out.mono ?_
  rintro e w1 ⟨v, rfl, hown, hB⟩
  clear LE
  obtain ⟨a1, c1, rfl, hs1, _⟩ := row_bytes (bl_length _ _) hown
  clear hown
  go_wp2_with fail
  go_loopw [1, 6, 7] (fun s1 s6 s7 wr => PrRel l w N i s1 s6 s7 wr) (fun _ _ s7 _ => lenOf s7)
  case atStart => exact ⟨0, a1, c1, by omega, by simp, rfl, hs1, World.ownsRow_nil _ _ _ _, fun b off e => by simp [Value.ownBlock], hB⟩
  case round =>
    clear hs1 hB
    rename World => V
    obtain ⟨k, a2, c2, hk, rfl, rfl, hst, hown, hdis, hB⟩ := hrel
    have hpw : i / 2 ^ (k + 1) = i / 2 ^ k / 2 := by rw [Nat.pow_succ, Nat.div_div_eq_div_mul]
    have hj : i / 2 ^ k ≤ i := Nat.div_le_self _ _
    rcases Nat.lt_or_ge k (ht N) with h | h
    · have hle := cnt_le hs (k + 1)
      have hp1 := cnt_pos N (k + 1)
      have hjl := idx_lt hi hk
      have hle2 := cnt_le hs k
      rw [cnt_next h] at hst hjl hle2
      rw [cnt_next h]
      have hnl := nb_lt hjl
      have hget : (pfl l (ht N) i)[k]? = some (B (lv (g0 l) k (nb (i / 2 ^ k)))) := by simp [pfl, h]
      have hkl : k < (pfl l (ht N) i).length := by rw [pfl_length]; exact h
      have hset : ((pfl l (ht N) i).take (k + 1)).map Value.string = ((pfl l (ht N) i).take k).map Value.string ++ [.string (B (lv (g0 l) k (nb (i / 2 ^ k))))] := by
        rw [List.take_add_one, hget, List.map_append]; rfl
      obtain ⟨bb, off, rfl, hc⟩ := hst (nb (i / 2 ^ k)) _ (bl_get _ hnl)
      have RR : Hid (∀ a3 c3 u w3, StrsAt w3 a3 (bl (up (lv (g0 l) k)) (cnt N (k + 1))) → w3.ownsRow w.heap.size 9 1 u (k + 1) (((pfl l (ht N) i).take (k + 1)).map Value.string) → (∀ b off, a3 = some ⟨b, off, none⟩ → u.ownBlock ≠ some b) → Below w.heap.size w w3 →
          PrRel l w N i (.int .i64 ((i / 2 ^ k / 2 : Nat) : Int)) u (.slice a3 (cnt N (k + 1)) c3) w3) := Lib.hid (fun a3 c3 u w3 x1 x2 x3 x4 => ⟨k + 1, a3, c3, h, by rw [hpw], rfl, x1, x2, x3, x4⟩)
      rw [hset] at RR
      clear hset hget hkl hpw
      generalize B (lv (g0 l) k (nb (i / 2 ^ k))) = x at *
      generalize i / 2 ^ k = j at *
      generalize cnt N (k + 1) = q at *
      have NB := Lib.hid (neighbour_any j (by omega) V)
      have i1 : (0 : Int) ≤ (nb j : Int) := by omega
      have i2 : (nb j : Int) < 2 * (q : Int) := by omega
      have g3 : 1 < 2 * q := by omega
      have hHD := Lib.hid hdis
      have hST := Lib.hid hst
      have hkk : k ≤ 20 := by have := ht_bound hs; omega
      clear hdis hst
      go_wp2_with fail
      refine NB.out.mono ?_
      rintro e w2 ⟨rfl, rfl⟩
      clear NB
      have hz2 := hB.size
      go_wp2_with (at_builtin; refine wpList_append_own _ rfl _ _ 28 rfl w.heap.size 9 i0 (.string ⟨#[]⟩) 1 16 Try.underlying28 KI.out.1 KI.out.2.1 KI.out.2.2.1 KI.out.2.2.2 rfl (by decide) _ _ _ rfl (hown.alloc _) ⟨V.heap.size, 0, none⟩ 1 1 [.string x] rfl rfl ?c1 ?c2 ?c3 ?c4 ?c5 ?_)
      case c1 =>
        intro j u hj
        match j, hj with
        | 0, hj => simp at hj; subst hj; simp [Addr.add]
      case c2 => intro u hu; simp at hu; subst hu; rfl
      case c3 => unfold maxLen; omega
      case c4 => omega
      case c5 => simp; omega
      intro v' w4 hown4 hgrow _
      have hst4 : StrsAt w4 (some ⟨bb, off, none⟩) (bl (lv (g0 l) k) (2 * q)) := sat_grown (sat_grown hST.out (World.grownBy_alloc V _ none) (fun b off e => by simp)) hgrow hHD.out
      have AB := Lib.hid (rAbove_any (lv (g0 l) k) (lv_len (g0 l) (g0_len l) k) (some ⟨bb, off, none⟩) c2 q (by omega) w4 hst4)
      have hB4 : Below w.heap.size w w4 := (ba hB _).grown hgrow (by simp; omega) (fun g hg => (hown.lt g hg).1)
      clear hst4 hc
      go_wp2_with fail
      refine AB.out.mono ?_
      rintro e w5 ⟨vl, rfl, hownl, hB5⟩
      have hl5 := hownl.lt
      obtain ⟨a3, c3, rfl, hs3, _⟩ := row_bytes (bl_length _ _) hownl
      have R : Hid (PrRel l w N i (.int .i64 ((j / 2 : Nat) : Int)) v' (.slice a3 q c3) w5) := Lib.hid (RR.out a3 c3 v' w5 hs3 (by first | exact owns_below hown4 hB5 | (rw [List.map_take]; exact owns_below hown4 hB5)) (fun b off e e2 => by
        have h1 := (hown4.lt b e2).2
        subst e
        have h2 := (hl5 b rfl).1
        omega) (bt hB4 hB5))
      clear hown hown4 hgrow hs3 hownl RR
      go_wp2_with fail
      go_roundw
      case rel => exact R.out
      case measure => simp [lenOf]; omega
    · have hkH : k = ht N := by omega
      subst hkH
      rw [cnt_last]
      rw [List.take_of_length_le (by rw [pfl_length]; omega)] at hown
      go_wp2_with fail
      refine bodyPost_ret (by simp [results, Try.results24, go_sem]) rfl ⟨_, rfl, hown, hB⟩
end Go.Proofs.Ytflpemagbempaaa.Dg
