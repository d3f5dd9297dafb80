/-
  Layer 3 (digest): the iterator over the levels.
-/
import Derived.Test.YtflpemagbempaaaDgJ
namespace Go.Proofs.Ytflpemagbempaaa.Dg
open Go.RowKit Go.Shelf
attribute [local go_sem] Oper.semAt_some

def lenOf : Value → Nat
  | .slice _ m _ => m
  | _ => 0
def cnt (N k : Nat) : Nat := 2 ^ (ht N - k)
theorem cnt_pos (N k : Nat) : 0 < cnt N k := Nat.pow_pos (by omega)
theorem cnt_next {N k : Nat} (h : k < ht N) : cnt N k = 2 * cnt N (k + 1) := by
  unfold cnt; rw [show ht N - k = (ht N - (k + 1)) + 1 by omega, Nat.pow_succ]; omega
theorem cnt_last (N : Nat) : cnt N (ht N) = 1 := by unfold cnt; simp
theorem cnt_le {N : Nat} (h : N ≤ 1000000) (k : Nat) : cnt N k ≤ 1048576 := pow_bound h (by omega)
def ItRel (l : List ByteArray) (N : Nat) (J : Nat → World → Prop) (s3 : Value) (wr : World) : Prop :=
  ∃ k V0 b, k ≤ ht N ∧ s3 = .slice (some ⟨b, 0, none⟩) (cnt N k) (cnt N k) ∧ J k V0 ∧ Below V0.heap.size V0 wr ∧ V0.heap.size ≤ b ∧ DR wr b (cnt N k) (lv (g0 l) k)

set_option maxRecDepth 100000 in
set_option maxHeartbeats 4000000 in
theorem levels_in (n : Nat) (hn : 1 ≤ n) (l : List ByteArray) (a : Option Addr) (N c Bn : Nat) (hN : l.length = N) (hs : N ≤ 1000000) (hz : ∀ s ∈ l, s.size ≤ 100000) (rec : Nat) (J : Nat → World → Prop) (W : World)
    (hbox : W.cell? ⟨Bn, 0, none⟩ = some (.slice a N c)) (hl : StrsAt W a l)
    (hY : ∀ k b V0 V, J k V0 → k ≤ ht N → Below V0.heap.size V0 V → V0.heap.size ≤ b → DR V b (cnt N k) (lv (g0 l) k) → YieldAt Fence.wide (n - 1) Try.prog rec #[sl b (cnt N k)] V fun e V' => e = .returned (.bool true) ∧ J (k + 1) V' ∧ V'.heap[b]? = V.heap[b]?)
    (h0 : J 0 W) :
    CallsIn Fence.wide n Try.prog 44 (#[.func (.yield rec) #[] #[]] ++ #[.pointer (some ⟨Bn, 0, none⟩)]) W fun e W' => (∃ v, e = .returned v) ∧ J (ht N + 1) W' := by
  have LO := Lib.hid (lowest_any l a N c hN hs W hl hz)
  have HY := Lib.hid hY
  clear hY hl
  refine callsIn_of_wp Try.func44 rfl trivial ?_ rfl
  simp only [Try.ntmps44, List.size_toArray, List.length_cons, List.length_nil, Nat.reduceAdd, Nat.reduceSub, Array.replicate_succ, Array.replicate_zero, List.push_toArray, List.append_toArray, List.nil_append, List.cons_append]
  gi_wp2_with (refine ⟨trivial, ?_⟩; gi_at_call 45; refine (callsIn_wide.2 LO.out).mono ?_; rintro e w1 ⟨b, rfl, hdr, hb, hB⟩)
  gi_loopw [3] (fun s3 wr => ItRel l N J s3 wr) (fun s3 _ => lenOf s3)
  case atStart => exact ⟨0, W, b, by omega, rfl, h0, hB, hb, hdr⟩
  case round =>
    clear hdr hb hB
    obtain ⟨k, V0, b, hk, rfl, hJ, hB, hb, hdr⟩ := hrel
    obtain ⟨fn, tmps, assign, body, hy, hR⟩ := HY.out k b V0 wr hJ hk hB hb hdr
    simp only [sl] at hy
    have hp := cnt_pos N k
    have hle := cnt_le hs k
    rcases Nat.lt_or_ge k (ht N) with h | h
    · have hnx := cnt_next h
      have hp1 := cnt_pos N (k + 1)
      rw [hnx] at hy hdr hle
      rw [hnx]
      clear hnx hp
      have RR : Hid (∀ V1 b' w2, J (k + 1) V1 → Below V1.heap.size V1 w2 → V1.heap.size ≤ b' → DR w2 b' (cnt N (k + 1)) (lv (g0 l) (k + 1)) → ItRel l N J (.slice (some ⟨b', 0, none⟩) (cnt N (k + 1)) (cnt N (k + 1))) w2) :=
        Lib.hid (fun V1 b' w2 x1 x2 x3 x4 => ⟨k + 1, V1, b', h, rfl, x1, x2, x3, x4⟩)
      have hd2 : ∀ w2, w2.heap[b]? = wr.heap[b]? → DR w2 b (2 * cnt N (k + 1)) (lv (g0 l) k) := fun w2 he => dr_same hdr he
      have HD2 := Lib.hid hd2
      have HLN := Lib.hid (lv_len (g0 l) (g0_len l) k)
      clear hd2 hdr
      generalize cnt N (k + 1) = q at *
      have d1 : decide ((2 * q : Nat) > 1) = true := decide_eq_true (by omega)
      have d2 : decide (1 < 2 * q) = true := decide_eq_true (by omega)
      have d3 : 1 < 2 * q := by omega
      gi_wp2
      refine hR.mono ?_
      rintro e w2 ⟨rfl, hJ2, hk2⟩
      have AB := Lib.hid (above_any (lv (g0 l) k) b (2 * q) q (by omega) w2 (HD2.out _ hk2) HLN.out)
      gi_wp2_with (refine ⟨trivial, ?_⟩; gi_at_call 46; refine (callsIn_wide.2 AB.out).mono ?_; rintro e w3 ⟨b', rfl, hdr', hb', hB'⟩)
      go_roundw
      case rel => exact RR.out _ _ _ hJ2 hB' hb' hdr'
      case measure => simp [lenOf]; omega
    · have hkH : k = ht N := by omega
      subst hkH
      rw [cnt_last] at hy
      rw [cnt_last]
      gi_wp2
      refine hR.mono ?_
      rintro e w2 ⟨rfl, hJ2, hk2⟩
      gi_wp2
      go_end0
      exact ⟨⟨_, rfl⟩, hJ2⟩
set_option maxHeartbeats 1000000 in
theorem levels_any (a : Option Addr) (N c : Nat) (w : World) :
    Calls Try.prog 37 #[.slice a N c] w fun e w' => e = .returned (.func (.func 44) #[] #[.pointer (some ⟨w.heap.size, 0, none⟩)]) ∧ w' = w.alloc (.cells #[.slice a N c] 28) := by
  go_enter Try.func37, Try.ntmps37
  go_wp2
  go_ret
  exact ⟨rfl, rfl⟩
end Go.Proofs.Ytflpemagbempaaa.Dg
