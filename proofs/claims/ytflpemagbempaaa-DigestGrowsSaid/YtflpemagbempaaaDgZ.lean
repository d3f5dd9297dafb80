/-
  Layer 3 (digest): the law DigestTrees, walked.
-/
import Derived.Test.YtflpemagbempaaaDgU
namespace Go.Proofs.Ytflpemagbempaaa.Dg
open Go.RowKit
/-- The proof of the string with an index; nothing, if it is none. -/
def prA (l : List ByteArray) (t : Int) : List ByteArray := if 0 ≤ t ∧ t < l.length then pfl l (ht l.length) t.toNat else []
def prB (l : List ByteArray) (t : Int) : Bool := decide (0 ≤ t ∧ t < l.length)
theorem nil_row (w : World) : ∃ a c, Value.slice none 0 0 = .slice a ([] : List ByteArray).length c ∧ StrsAt w a ([] : List ByteArray) ∧ ([] : List ByteArray).length ≤ c ∧ c ≤ 9223372036854775807 := ⟨none, 0, rfl, nils_at w, by decide, by decide⟩
theorem pA_any (l : List ByteArray) (a : Option Addr) (N c : Nat) (t : Int) (hN : l.length = N) (hs : N ≤ 1000000) (hz : ∀ s ∈ l, s.size ≤ 100000) (w : World) (hl : StrsAt w a l) :
    Calls Try.prog 23 #[.slice a N c, .int .i64 t] w fun e w' => ∃ a' c', e = .returned (.tuple #[.slice a' (prA l t).length c', .bool (prB l t)]) ∧ StrsAt w' a' (prA l t) ∧ (prA l t).length ≤ c' ∧ c' ≤ 9223372036854775807 ∧ (∀ b off, a' = some ⟨b, off, none⟩ → w.heap.size ≤ b) ∧ Below w.heap.size w w' := by
  by_cases h : 0 ≤ t ∧ t < N
  · obtain ⟨i, rfl⟩ := Int.eq_ofNat_of_zero_le h.1
    have e1 : prA l i = pfl l (ht N) i := by unfold prA; rw [hN, if_pos h]; rfl
    have e2 : prB l i = true := by unfold prB; rw [hN]; exact decide_eq_true h
    rw [e1, e2]
    refine (Prove_any l a N c i hN hs hz (by omega) w hl).mono ?_
    rintro e w' ⟨v, rfl, hown, hB⟩
    have hlt := hown.lt
    obtain ⟨a', c', rfl, hst, h1, h2⟩ := row_bytes (pfl_length _ _ _) hown
    exact ⟨a', c', by rw [pfl_length], hst, by rw [pfl_length]; exact h1, h2, fun b off e => by subst e; exact (hlt b rfl).1, hB⟩
  · have e1 : prA l t = [] := by unfold prA; rw [hN, if_neg h]
    have e2 : prB l t = false := by unfold prB; rw [hN]; exact decide_eq_false h
    rw [e1, e2]
    refine (Prove_no t a N c (by omega) w).mono ?_
    rintro e w' ⟨rfl, hB⟩
    exact ⟨none, 0, rfl, nils_at _, by decide, by decide, (fun b off e => by cases e), hB⟩
theorem pR_any (l : List ByteArray) (a : Option Addr) (N c : Nat) (t : Int) (hN : l.length = N) (hs : N ≤ 1000000) (hz : ∀ s ∈ l, s.size ≤ 100000) (w : World) (hl : StrsAt w a l) :
    Calls Try.prog 24 #[.slice a N c, .int .i64 t] w fun e w' => ∃ a' c', e = .returned (.tuple #[.slice a' (prA l t).length c', .bool (prB l t)]) ∧ StrsAt w' a' (prA l t) ∧ (prA l t).length ≤ c' ∧ c' ≤ 9223372036854775807 ∧ (∀ b off, a' = some ⟨b, off, none⟩ → w.heap.size ≤ b) ∧ Below w.heap.size w w' := by
  by_cases h : 0 ≤ t ∧ t < N
  · obtain ⟨i, rfl⟩ := Int.eq_ofNat_of_zero_le h.1
    have e1 : prA l i = pfl l (ht N) i := by unfold prA; rw [hN, if_pos h]; rfl
    have e2 : prB l i = true := by unfold prB; rw [hN]; exact decide_eq_true h
    rw [e1, e2]
    refine (rProve_any l a N c i hN hs hz (by omega) w hl).mono ?_
    rintro e w' ⟨v, rfl, hown, hB⟩
    have hlt := hown.lt
    obtain ⟨a', c', rfl, hst, h1, h2⟩ := row_bytes (pfl_length _ _ _) hown
    exact ⟨a', c', by rw [pfl_length], hst, by rw [pfl_length]; exact h1, h2, fun b off e => by subst e; exact (hlt b rfl).1, hB⟩
  · have e1 : prA l t = [] := by unfold prA; rw [hN, if_neg h]
    have e2 : prB l t = false := by unfold prB; rw [hN]; exact decide_eq_false h
    rw [e1, e2]
    refine (rProve_no t a N c (by omega) w).mono ?_
    rintro e w' ⟨rfl, hB⟩
    exact ⟨none, 0, rfl, nils_at _, by decide, by decide, (fun b off e => by cases e), hB⟩
theorem prA_len (l : List ByteArray) (hl : l.length ≤ 1000000) (t : Int) : (prA l t).length ≤ 20 := by
  unfold prA
  split
  · rw [pfl_length]; exact ht_bound hl
  · simp
theorem cutL_sizes (l : List ByteArray) : ∀ s ∈ cutL l, s.size ≤ 30 := by
  intro s hs
  unfold cutL at hs
  obtain ⟨x, _, rfl⟩ := List.mem_map.1 hs
  exact cutS_size x
theorem and_range (i : Int) : -9223372036854775808 ≤ bits .and .i64 i 31 ∧ bits .and .i64 i 31 ≤ 9223372036854775807 := by
  show -9223372036854775808 ≤ IntKind.i64.wrap _ ∧ IntKind.i64.wrap _ ≤ 9223372036854775807
  rw [IntKind.wrap_i64]
  omega
def TrRel (W0 : World) (s22 : Value) (wr : World) : Prop := ∃ k : Nat, k ≤ 4 ∧ s22 = .int .i64 k ∧ Below W0.heap.size W0 wr
set_option maxRecDepth 100000 in
set_option maxHeartbeats 8000000 in
theorem lawTrees_any (l0 : List ByteArray) (a0 : Option Addr) (n0 c0 : Nat) (hn0 : l0.length = n0) (i : Int) (hi : -9223372036854775808 ≤ i ∧ i ≤ 9223372036854775807) (w : World) (hl0 : StrsAt w a0 l0) (hnc : n0 ≤ 9223372036854775807) (hz0 : ∀ x ∈ l0, x.size ≤ 9223372036854775807) :
    Calls Try.prog 6 #[.slice a0 n0 c0, .int .i64 i] w fun e w' => e = .returned (.bool true) ∧ Below w.heap.size w w' := by
  have SA := Lib.hid sanity_any
  have LI := Lib.hid (fun W (h : Below w.heap.size w W) => list_any a0 l0 c0 n0 hn0 W (sat_below hl0 h) hnc hz0)
  have hlen : (cutL l0).length ≤ 20 := by rw [cutL_length]; omega
  have hcz := cutL_sizes l0
  clear hl0 hz0 hn0
  generalize cutL l0 = l at *
  go_enter Try.func6, Try.ntmps6
  go_wp2_with fail
  refine (SA.out _).mono ?_
  rintro e w1 ⟨rfl, k1⟩
  clear SA
  go_wp2_with fail
  refine (LI.out _ k1).mono ?_
  rintro e w2 ⟨v, rfl, hown, k2⟩
  clear LI
  obtain ⟨a, c, rfl, hl, _⟩ := row_bytes rfl hown
  clear hown
  replace k2 := bt k1 k2
  clear k1
  generalize hN : l.length = N at *
  have PA := Lib.hid (fun W (h : Below w2.heap.size w2 W) t => pA_any l a N c t hN (by omega) (fun s hs => Nat.le_trans (hcz s hs) (by omega)) W (sat_below hl h))
  have PR := Lib.hid (fun W (h : Below w2.heap.size w2 W) t => pR_any l a N c t hN (by omega) (fun s hs => Nat.le_trans (hcz s hs) (by omega)) W (sat_below hl h))
  have RA := Lib.hid (fun W (h : Below w2.heap.size w2 W) => Root_any l a N c hN (by omega) (fun s hs => Nat.le_trans (hcz s hs) (by omega)) W (sat_below hl h))
  have RR := Lib.hid (fun W (h : Below w2.heap.size w2 W) => rRoot_any l a N c hN (by omega) (fun s hs => Nat.le_trans (hcz s hs) (by omega)) W (sat_below hl h))
  have LE := Lib.hid (fun t => prA_len l (by omega) t)
  clear hl hcz
  go_wp2_with fail
  have hZ : ∀ k, k < 4 → ∃ t : Int, (w2.alloc (.cells #[.int .i64 i, .int .i64 (bits .and .i64 i 31), .int .i64 N, .int .i64 (-1)] 3)).cell? ⟨w2.heap.size, k, none⟩ = some (.int .i64 t) := fun k hk => by
    have : k = 0 ∨ k = 1 ∨ k = 2 ∨ k = 3 := by omega
    rcases this with rfl | rfl | rfl | rfl
    · exact ⟨i, by go_cell⟩
    · exact ⟨bits .and .i64 i 31, by go_cell⟩
    · exact ⟨N, by go_cell⟩
    · exact ⟨-1, by go_cell⟩
  have HZ := Lib.hid hZ
  have kA : Below w2.heap.size w2 (w2.alloc (.cells #[.int .i64 i, .int .i64 (bits .and .i64 i 31), .int .i64 N, .int .i64 (-1)] 3)) := ba (Below.refl _ _) _
  have hVz : w2.heap.size < (w2.alloc (.cells #[.int .i64 i, .int .i64 (bits .and .i64 i 31), .int .i64 N, .int .i64 (-1)] 3)).heap.size := by simp
  clear hZ
  generalize (w2.alloc (.cells #[.int .i64 i, .int .i64 (bits .and .i64 i 31), .int .i64 N, .int .i64 (-1)] 3)) = V at *
  go_loopw [22] (fun s22 wr => TrRel V s22 wr) (fun s22 _ => 4 - (intOf s22).toNat)
  case atStart => exact ⟨0, by omega, rfl, Below.refl _ _⟩
  case round =>
    obtain ⟨k, hk, rfl, hB⟩ := hrel
    have hBW := bt kA hB
    rcases Nat.lt_or_ge k 4 with hlt | hge
    · obtain ⟨t, ht⟩ := HZ.out k hlt
      have ct := kc hB (block_lt_of_cell ht) ht
      clear ht
      go_wp2_with fail
      refine (PA.out _ hBW t).mono ?_
      rintro e w4 ⟨pa, pc, rfl, hp, hpc, hpm, hpb, k4⟩
      have HP := Lib.hid hp
      clear hp hpb
      have hB4 := bt hBW k4
      go_wp2_with fail
      refine (PR.out _ hB4 t).mono ?_
      rintro e w5 ⟨qa, qc, rfl, hq, hqc, hqm, hqb, k5⟩
      have SM := Lib.hid (rSame_any pa qa (prA l t) (prA l t) (prA l t).length (prA l t).length pc qc rfl rfl w5 (sat_below HP.out k5) hq (by have := LE.out t; omega) (by have := LE.out t; omega))
      rw [same_rfl] at SM
      have hB5 := bt (bt hB k4) k5
      clear hq hqb HP hB4 hBW hB
      have hbb : (prB l t != prB l t) = false := bne_self_eq_false _
      generalize prB l t = bo at *
      generalize (prA l t).length = pn at *
      go_wp2_with fail
      refine SM.out.mono ?_
      rintro e w6 ⟨rfl, k6⟩
      have R : Hid (TrRel V (.int .i64 ((k : Int) + 1)) w6) := Lib.hid ⟨k + 1, by omega, by congr 1, bt hB5 k6⟩
      go_wp2_with fail
      go_roundw
      case rel => exact R.out
      case measure => simp [intOf]; omega
    · have hk4 : k = 4 := by omega
      subst hk4
      generalize hr : B (lv (g0 l) (ht N) 0) = res at *
      have e1 := str_beq res
      have hBk := bt k2 hBW
      go_wp2_with fail
      refine (RA.out _ hBW).mono ?_
      rintro e w4 ⟨rfl, k4⟩
      go_wp2_with fail
      refine (RR.out _ (bt hBW k4)).mono ?_
      rintro e w5 ⟨rfl, k5⟩
      go_wp2_with fail
      go_ret
      exact ⟨rfl, bt (bt hBk k4) k5⟩
end Go.Proofs.Ytflpemagbempaaa.Dg
