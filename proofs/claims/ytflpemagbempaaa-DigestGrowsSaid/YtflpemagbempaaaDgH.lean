/-
  Layer 3 (digest): the levels of a tree, as the project's own code makes them.
-/
import Derived.Test.YtflpemagbempaaaDgF
import Derived.OwnWalk
namespace Go.Proofs.Ytflpemagbempaaa.Dg
open Go.RowKit
/-- The number of levels above level 0. -/
def ht (n : Nat) : Nat := if n ≤ 1 then 0 else Nat.log2 (n - 1) + 1
theorem ht_le (n : Nat) : n ≤ 2 ^ ht n := by
  unfold ht
  split
  · simpa using ‹n ≤ 1›
  · have := (Nat.log2_lt (show n - 1 ≠ 0 by omega) (k := Nat.log2 (n - 1) + 1)).1 (by omega)
    omega
theorem ht_lt {n j : Nat} (h : j < ht n) : 2 ^ j < n := by
  unfold ht at h
  split at h
  · omega
  · have := (Nat.le_log2 (show n - 1 ≠ 0 by omega) (k := j)).1 (by omega)
    omega
theorem ht_bound {n : Nat} (h : n ≤ 1000000) : ht n ≤ 20 := by
  rcases Nat.lt_or_ge 20 (ht n) with h1 | h1
  · have := ht_lt h1; simp at this; omega
  · exact h1
theorem pow_bound {n j : Nat} (h : n ≤ 1000000) (hj : j ≤ ht n) : 2 ^ j ≤ 1048576 := by
  have := ht_bound h
  exact Nat.le_trans (Nat.pow_le_pow_right (by omega) (Nat.le_trans hj this)) (by decide)
/-- Level 0 of a list. -/
def g0 (l : List ByteArray) (j : Nat) : List UInt8 := if j < l.length then leaf (l.getD j ⟨#[]⟩) else rest
theorem g0_len (l : List ByteArray) (j : Nat) : (g0 l j).length = 8 := by unfold g0; split <;> rfl
/-- A row of digests in a block. -/
def DR (W : World) (b m : Nat) (g : Nat → List UInt8) : Prop :=
  ∀ j, j < m → ∀ i, i < 8 → W.cell? ⟨b, j * 8 + i, none⟩ = some (.int .u8 ((g j).getD i 0).toNat) ∧ W.frozen? ⟨b, j * 8 + i, none⟩ = false
theorem dr_keep {W a : World} {b m : Nat} {g : Nat → List UInt8} (h : DR W b m g) (hb : Below W.heap.size W a) : DR a b m g := fun j hj i hi =>
  ⟨kc hb (block_lt_of_cell (h j hj i hi).1) (h j hj i hi).1, kf hb (block_lt_of_cell (h j hj i hi).1) (h j hj i hi).2⟩
theorem dr_congr {W : World} {b m : Nat} {g f : Nat → List UInt8} (h : DR W b m g) (he : ∀ j, j < m → g j = f j) : DR W b m f := fun j hj i hi => by
  rw [← he j hj]; exact h j hj i hi
theorem dr_set {W : World} {b m k : Nat} {g f : Nat → List UInt8} (h : DR W b m g) (hk : k < m) {q0 q1 q2 q3 q4 q5 q6 q7 : UInt8} (hq : f k = [q0, q1, q2, q3, q4, q5, q6, q7]) (ho : ∀ j, j ≠ k → f j = g j) :
    DR ((((((((W.setCell ⟨b, k * 8, none⟩ (.int .u8 q0.toNat)).setCell ⟨b, k * 8 + 1, none⟩ (.int .u8 q1.toNat)).setCell ⟨b, k * 8 + 2, none⟩ (.int .u8 q2.toNat)).setCell ⟨b, k * 8 + 3, none⟩ (.int .u8 q3.toNat)).setCell ⟨b, k * 8 + 4, none⟩ (.int .u8 q4.toNat)).setCell ⟨b, k * 8 + 5, none⟩ (.int .u8 q5.toNat)).setCell ⟨b, k * 8 + 6, none⟩ (.int .u8 q6.toNat)).setCell ⟨b, k * 8 + 7, none⟩ (.int .u8 q7.toNat)) b m f := by
  intro j hj i hi
  have off : ∀ {V : World} {o o' : Nat} (v : Value), o ≠ o' → (V.setCell ⟨b, o, none⟩ v).cell? ⟨b, o', none⟩ = V.cell? ⟨b, o', none⟩ := fun {V o o'} v h => World.cell?_setCell_other V _ _ v (by intro e; injection e; omega)
  refine ⟨?_, ?_⟩
  · by_cases hjk : j = k
    · subst hjk
      rw [hq]
      have c := fun i hi => (h j hj i hi).1
      have : i = 0 ∨ i = 1 ∨ i = 2 ∨ i = 3 ∨ i = 4 ∨ i = 5 ∨ i = 6 ∨ i = 7 := by omega
      have same : ∀ {V : World} {o : Nat} {u : Value} (v : Value), V.cell? ⟨b, o, none⟩ = some u → (V.setCell ⟨b, o, none⟩ v).cell? ⟨b, o, none⟩ = some v := fun {V o u} v h => World.cell?_setCell_same V _ v h
      rcases this with rfl | rfl | rfl | rfl | rfl | rfl | rfl | rfl
      · rw [off _ (by omega), off _ (by omega), off _ (by omega), off _ (by omega), off _ (by omega), off _ (by omega), off _ (by omega)]
        exact same _ (c 0 (by omega))
      · rw [off _ (by omega), off _ (by omega), off _ (by omega), off _ (by omega), off _ (by omega), off _ (by omega)]
        exact same _ (by rw [off _ (by omega)]; exact c 1 (by omega))
      · rw [off _ (by omega), off _ (by omega), off _ (by omega), off _ (by omega), off _ (by omega)]
        exact same _ (by rw [off _ (by omega), off _ (by omega)]; exact c 2 (by omega))
      · rw [off _ (by omega), off _ (by omega), off _ (by omega), off _ (by omega)]
        exact same _ (by rw [off _ (by omega), off _ (by omega), off _ (by omega)]; exact c 3 (by omega))
      · rw [off _ (by omega), off _ (by omega), off _ (by omega)]
        exact same _ (by rw [off _ (by omega), off _ (by omega), off _ (by omega), off _ (by omega)]; exact c 4 (by omega))
      · rw [off _ (by omega), off _ (by omega)]
        exact same _ (by rw [off _ (by omega), off _ (by omega), off _ (by omega), off _ (by omega), off _ (by omega)]; exact c 5 (by omega))
      · rw [off _ (by omega)]
        exact same _ (by rw [off _ (by omega), off _ (by omega), off _ (by omega), off _ (by omega), off _ (by omega), off _ (by omega)]; exact c 6 (by omega))
      · exact same _ (by rw [off _ (by omega), off _ (by omega), off _ (by omega), off _ (by omega), off _ (by omega), off _ (by omega), off _ (by omega)]; exact c 7 (by omega))
    · rw [ho j hjk, off _ (by omega), off _ (by omega), off _ (by omega), off _ (by omega), off _ (by omega), off _ (by omega), off _ (by omega), off _ (by omega)]
      exact (h j hj i hi).1
  · simp only [World.frozen?_setCell]
    exact (h j hj i hi).2
theorem infoD : (Try.prog.info? 52).map (fun i => (i.zero, i.size, i.bytes)) = some (some (.agg #[.int .u8 0, .int .u8 0, .int .u8 0, .int .u8 0, .int .u8 0, .int .u8 0, .int .u8 0, .int .u8 0]), 8, 8) := by kernel_rfl
theorem below_none {w v : World} (k : w.grownBy v none) : Below w.heap.size w v := ⟨k.os, k.tape, k.output, k.size, fun i hi => k.block i hi (by simp)⟩
theorem dr_made {W : World} {n₀ b m : Nat} (h : W.ownsRow n₀ 52 8 (.slice (some ⟨b, 0, none⟩) m m) m (madeCells #[.int .u8 0, .int .u8 0, .int .u8 0, .int .u8 0, .int .u8 0, .int .u8 0, .int .u8 0, .int .u8 0] (m * 8)).toList) : DR W b m (fun _ => []) := by
  intro j hj i hi
  have hlt : j * 8 + i < m * 8 := by omega
  refine ⟨?_, ?_⟩
  · rw [h.cellAt _ hlt]
    have hm : (j * 8 + i) % 8 = i := by omega
    have : i = 0 ∨ i = 1 ∨ i = 2 ∨ i = 3 ∨ i = 4 ∨ i = 5 ∨ i = 6 ∨ i = 7 := by omega
    simp only [madeCells, Array.toList_map, Array.toList_range, List.getElem?_map, List.getElem?_range hlt, Option.map_some, List.size_toArray, List.length_cons, List.length_nil, Nat.zero_add, Nat.reduceAdd, hm]
    rcases this with rfl | rfl | rfl | rfl | rfl | rfl | rfl | rfl <;> rfl
  · obtain ⟨_, h2⟩ := h
    rcases h2 with ⟨h2, _⟩ | ⟨g, cap, cur, h2, _, hh, _⟩
    · cases h2
    · cases h2
      simp [World.frozen?, hh]
theorem bs8' {w u : World} {k : Nat} (h : Below w.heap.size w u) {r : Nat} (hr : w.heap.size ≤ r) (v0 v1 v2 v3 v4 v5 v6 v7 : Value) :
    Below w.heap.size w ((((((((u.setCell ⟨r, k * 8, none⟩ v0).setCell ⟨r, k * 8 + 1, none⟩ v1).setCell ⟨r, k * 8 + 2, none⟩ v2).setCell ⟨r, k * 8 + 3, none⟩ v3).setCell ⟨r, k * 8 + 4, none⟩ v4).setCell ⟨r, k * 8 + 5, none⟩ v5).setCell ⟨r, k * 8 + 6, none⟩ v6).setCell ⟨r, k * 8 + 7, none⟩ v7) :=
  bs (bs (bs (bs (bs (bs (bs (bs h hr _) hr _) hr _) hr _) hr _) hr _) hr _) hr _
def WRel (n : Nat) (w : World) (s3 : Value) (wr : World) : Prop := ∃ j : Nat, j ≤ ht n ∧ s3 = .int .i64 ((2 ^ j : Nat) : Int) ∧ w = wr
def tgt (l : List ByteArray) (k j : Nat) : List UInt8 := if j < k then g0 l j else []
def LRel (l : List ByteArray) (w : World) (b m : Nat) (s12 : Value) (wr : World) : Prop := ∃ k : Nat, k ≤ m ∧ s12 = .int .i64 k ∧ DR wr b m (tgt l k) ∧ Below w.heap.size w wr
theorem lrel_next {l : List ByteArray} {w w3 : World} {b m k : Nat} {q0 q1 q2 q3 q4 q5 q6 q7 : UInt8} (hk : k < m) (hdr : DR w3 b m (tgt l k)) (hq : g0 l k = [q0, q1, q2, q3, q4, q5, q6, q7]) (hB : Below w.heap.size w w3) (hb : w.heap.size ≤ b) :
    LRel l w b m (.int .i64 ((k : Int) + 1)) ((((((((w3.setCell ⟨b, k * 8, none⟩ (.int .u8 q0.toNat)).setCell ⟨b, k * 8 + 1, none⟩ (.int .u8 q1.toNat)).setCell ⟨b, k * 8 + 2, none⟩ (.int .u8 q2.toNat)).setCell ⟨b, k * 8 + 3, none⟩ (.int .u8 q3.toNat)).setCell ⟨b, k * 8 + 4, none⟩ (.int .u8 q4.toNat)).setCell ⟨b, k * 8 + 5, none⟩ (.int .u8 q5.toNat)).setCell ⟨b, k * 8 + 6, none⟩ (.int .u8 q6.toNat)).setCell ⟨b, k * 8 + 7, none⟩ (.int .u8 q7.toNat)) :=
  ⟨k + 1, by omega, by congr 1, dr_set (f := tgt l (k + 1)) hdr hk (by unfold tgt; rw [if_pos (by omega), hq]) (fun j hj => by
    unfold tgt
    by_cases h : j < k
    · rw [if_pos h, if_pos (by omega)]
    · rw [if_neg h, if_neg (by omega)]), bs8' hB hb _ _ _ _ _ _ _ _⟩
set_option maxRecDepth 100000 in
set_option maxHeartbeats 4000000 in
theorem lowest_any (l : List ByteArray) (a : Option Addr) (n c : Nat) (hn : l.length = n) (hs : n ≤ 1000000) (w : World) (hl : StrsAt w a l) (hz : ∀ s ∈ l, s.size ≤ 100000) :
    Calls Try.prog 45 #[.slice a n c] w fun e w' => ∃ b, e = .returned (.slice (some ⟨b, 0, none⟩) (2 ^ ht n) (2 ^ ht n)) ∧ DR w' b (2 ^ ht n) (g0 l) ∧ w.heap.size ≤ b ∧ Below w.heap.size w w' := by
  have HL := Lib.hid hl
  have HN := Lib.hid hn
  have HZ := Lib.hid hz
  clear hl hn hz
  go_enter Try.func45, Try.ntmps45
  go_wp2_with fail
  go_loopw [3] (fun s3 wr => WRel n w s3 wr) (fun s3 _ => 2 * n - (intOf s3).toNat)
  case atStart => exact ⟨0, by omega, rfl, rfl⟩
  case round =>
    obtain ⟨j, hj, rfl, rfl⟩ := hrel
    have hpb := pow_bound hs hj
    have hpp : 0 < 2 ^ j := Nat.pow_pos (by omega)
    rcases Nat.lt_or_ge (2 ^ j) n with h1 | h1
    · have hj2 : j + 1 ≤ ht n := by
        rcases Nat.lt_or_ge j (ht n) with h | h
        · omega
        · have : j = ht n := by omega
          subst this; have := ht_le n; omega
      have hp2 : 2 ^ (j + 1) = 2 ^ j * 2 := Nat.pow_succ _ _
      have RR : Hid (WRel n w (.int .i64 (((2 ^ j : Nat) : Int) * 2)) w) := Lib.hid ⟨j + 1, hj2, by rw [hp2]; congr 1, rfl⟩
      generalize 2 ^ j = p at *
      go_wp2_with fail
      go_roundw
      case rel => exact RR.out
      case measure => simp [intOf]; omega
    · have hj2 : j = ht n := by
        rcases Nat.lt_or_ge j (ht n) with h | h
        · have := ht_lt h; omega
        · omega
      subst hj2
      generalize hm : 2 ^ ht n = m at *
      have d1 : decide (m < n) = false := decide_eq_false (by omega)
      obtain ⟨i0, hi, hz0, hz1, hz2⟩ := info_parts infoD
      obtain ⟨w1, hmk, hown, hgr⟩ := run_make_full (P := Try.prog) w w.heap.size 61 52 i0 _ 8 Try.underlying61 hi hz0 hz1 .i64 .i64 m (by rw [hz2]; omega) (by unfold maxLen; omega) (Nat.le_refl _)
      have hd := dr_made hown
      have hB := below_none hgr
      clear hi hz0 hz1 hz2 hown hgr
      go_wp2_with fail
      have hb2 : w1.heap.size ≥ w.heap.size := hB.size
      go_loopw [16] (fun s16 w' => LRel l w w.heap.size m s16 w') (fun s16 _ => m - (intOf s16).toNat)
      case atStart => exact ⟨0, by omega, rfl, dr_congr hd (fun j hj => by unfold tgt; rw [if_neg (by omega)]), hB⟩
      case round =>
        clear hd hmk hB
        obtain ⟨k, hk, rfl, hdr, hB2⟩ := hrel
        rcases Nat.lt_or_ge k m with hkm | hkm
        · rcases Nat.lt_or_ge k n with hkn | hkn
          · have hx : l[k]? = some (l[k]'(by rw [HN.out]; exact hkn)) := List.getElem?_eq_getElem _
            obtain ⟨bb, off, rfl, hc⟩ := HL.out k _ hx
            have LO := Lib.hid (leafOf_any (l[k]'(by rw [HN.out]; exact hkn)) (Nat.le_trans (HZ.out _ (List.getElem_mem _)) (by omega)))
            have hg : Hid (g0 l k = leaf (l[k]'(by rw [HN.out]; exact hkn))) := Lib.hid (by unfold g0; rw [if_pos (by rw [HN.out]; exact hkn), List.getD_eq_getElem?_getD, hx]; rfl)
            have ck := kc hB2 (block_lt_of_cell hc) hc
            clear hx hc
            generalize l[k]'(by rw [HN.out]; exact hkn) = x at *
            obtain ⟨q0, q1, q2, q3, q4, q5, q6, q7, hq⟩ := eight (leaf_len x)
            rw [hq, dval8] at LO
            go_wp2_with fail
            refine (LO.out _).mono ?_
            rintro e w3 ⟨rfl, hB3⟩
            have hdr3 := dr_keep hdr hB3
            have Z : ∀ i, i < 8 → w3.cell? ⟨w.heap.size, k * 8 + i, none⟩ = some (.int .u8 0) ∧ w3.frozen? ⟨w.heap.size, k * 8 + i, none⟩ = false := fun i hi => by
              have := hdr3 k hkm i hi
              rw [show tgt l k k = [] by unfold tgt; rw [if_neg (by omega)]] at this
              exact this
            have zc0 : w3.cell? ⟨w.heap.size, k * 8, none⟩ = some (.int .u8 0) := (Z 0 (by omega)).1
            have zf0 : w3.frozen? ⟨w.heap.size, k * 8, none⟩ = false := (Z 0 (by omega)).2
            have zc1 : w3.cell? ⟨w.heap.size, k * 8 + 1, none⟩ = some (.int .u8 0) := (Z 1 (by omega)).1
            have zf1 : w3.frozen? ⟨w.heap.size, k * 8 + 1, none⟩ = false := (Z 1 (by omega)).2
            have zc2 : w3.cell? ⟨w.heap.size, k * 8 + 2, none⟩ = some (.int .u8 0) := (Z 2 (by omega)).1
            have zf2 : w3.frozen? ⟨w.heap.size, k * 8 + 2, none⟩ = false := (Z 2 (by omega)).2
            have zc3 : w3.cell? ⟨w.heap.size, k * 8 + 3, none⟩ = some (.int .u8 0) := (Z 3 (by omega)).1
            have zf3 : w3.frozen? ⟨w.heap.size, k * 8 + 3, none⟩ = false := (Z 3 (by omega)).2
            have zc4 : w3.cell? ⟨w.heap.size, k * 8 + 4, none⟩ = some (.int .u8 0) := (Z 4 (by omega)).1
            have zf4 : w3.frozen? ⟨w.heap.size, k * 8 + 4, none⟩ = false := (Z 4 (by omega)).2
            have zc5 : w3.cell? ⟨w.heap.size, k * 8 + 5, none⟩ = some (.int .u8 0) := (Z 5 (by omega)).1
            have zf5 : w3.frozen? ⟨w.heap.size, k * 8 + 5, none⟩ = false := (Z 5 (by omega)).2
            have zc6 : w3.cell? ⟨w.heap.size, k * 8 + 6, none⟩ = some (.int .u8 0) := (Z 6 (by omega)).1
            have zf6 : w3.frozen? ⟨w.heap.size, k * 8 + 6, none⟩ = false := (Z 6 (by omega)).2
            have zc7 : w3.cell? ⟨w.heap.size, k * 8 + 7, none⟩ = some (.int .u8 0) := (Z 7 (by omega)).1
            have zf7 : w3.frozen? ⟨w.heap.size, k * 8 + 7, none⟩ = false := (Z 7 (by omega)).2
            clear Z
            go_wp2_with fail
            go_roundw
            case rel =>
              (repeat (with_reducible apply Exists.intro))
              first | exact lrel_next hkm hdr3 (hg.out.trans hq) (bt hB2 hB3) (Nat.le_refl _) | exact ⟨lrel_next hkm hdr3 (hg.out.trans hq) (bt hB2 hB3) (Nat.le_refl _), rfl⟩
            case measure => simp [intOf]; omega
          · have LO := Lib.hid (fun (W : World) (a : Option Addr) (hW : StrsAt W a [⟨#[118]⟩]) => of_any [⟨#[118]⟩] a 1 1 rfl (by omega) W hW (by
              intro z hz
              rw [List.mem_singleton] at hz
              subst hz; exact (by decide)))
            rw [cat_rest, show dg [118] = rest from rfl] at LO
            have hg : Hid (g0 l k = rest) := Lib.hid (by unfold g0; rw [if_neg (by rw [HN.out]; omega)])
            obtain ⟨q0, q1, q2, q3, q4, q5, q6, q7, hq⟩ := eight rest_len
            rw [hq, dval8] at LO
            go_wp2_with fail
            refine (LO.out _ _ (strs1 (by go_cell))).mono ?_
            rintro e w3 ⟨rfl, hB3⟩
            replace hB3 : Below wr.heap.size wr w3 := bt (ba (Below.refl _ _) _) hB3
            have hdr3 := dr_keep hdr hB3
            have Z : ∀ i, i < 8 → w3.cell? ⟨w.heap.size, k * 8 + i, none⟩ = some (.int .u8 0) ∧ w3.frozen? ⟨w.heap.size, k * 8 + i, none⟩ = false := fun i hi => by
              have := hdr3 k hkm i hi
              rw [show tgt l k k = [] by unfold tgt; rw [if_neg (by omega)]] at this
              exact this
            have zc0 : w3.cell? ⟨w.heap.size, k * 8, none⟩ = some (.int .u8 0) := (Z 0 (by omega)).1
            have zf0 : w3.frozen? ⟨w.heap.size, k * 8, none⟩ = false := (Z 0 (by omega)).2
            have zc1 : w3.cell? ⟨w.heap.size, k * 8 + 1, none⟩ = some (.int .u8 0) := (Z 1 (by omega)).1
            have zf1 : w3.frozen? ⟨w.heap.size, k * 8 + 1, none⟩ = false := (Z 1 (by omega)).2
            have zc2 : w3.cell? ⟨w.heap.size, k * 8 + 2, none⟩ = some (.int .u8 0) := (Z 2 (by omega)).1
            have zf2 : w3.frozen? ⟨w.heap.size, k * 8 + 2, none⟩ = false := (Z 2 (by omega)).2
            have zc3 : w3.cell? ⟨w.heap.size, k * 8 + 3, none⟩ = some (.int .u8 0) := (Z 3 (by omega)).1
            have zf3 : w3.frozen? ⟨w.heap.size, k * 8 + 3, none⟩ = false := (Z 3 (by omega)).2
            have zc4 : w3.cell? ⟨w.heap.size, k * 8 + 4, none⟩ = some (.int .u8 0) := (Z 4 (by omega)).1
            have zf4 : w3.frozen? ⟨w.heap.size, k * 8 + 4, none⟩ = false := (Z 4 (by omega)).2
            have zc5 : w3.cell? ⟨w.heap.size, k * 8 + 5, none⟩ = some (.int .u8 0) := (Z 5 (by omega)).1
            have zf5 : w3.frozen? ⟨w.heap.size, k * 8 + 5, none⟩ = false := (Z 5 (by omega)).2
            have zc6 : w3.cell? ⟨w.heap.size, k * 8 + 6, none⟩ = some (.int .u8 0) := (Z 6 (by omega)).1
            have zf6 : w3.frozen? ⟨w.heap.size, k * 8 + 6, none⟩ = false := (Z 6 (by omega)).2
            have zc7 : w3.cell? ⟨w.heap.size, k * 8 + 7, none⟩ = some (.int .u8 0) := (Z 7 (by omega)).1
            have zf7 : w3.frozen? ⟨w.heap.size, k * 8 + 7, none⟩ = false := (Z 7 (by omega)).2
            clear Z
            go_wp2_with fail
            go_roundw
            case rel =>
              (repeat (with_reducible apply Exists.intro))
              first | exact lrel_next hkm hdr3 (hg.out.trans hq) (bt hB2 hB3) (Nat.le_refl _) | exact ⟨lrel_next hkm hdr3 (hg.out.trans hq) (bt hB2 hB3) (Nat.le_refl _), rfl⟩
            case measure => simp [intOf]; omega
        · have hkm2 : k = m := by omega
          subst hkm2
          go_wp2_with fail
          go_ret
          exact ⟨_, by rw [hm]; rfl, by rw [hm]; exact dr_congr hdr (fun j hj => by unfold tgt; rw [if_pos hj]), Nat.le_refl _, hB2⟩
end Go.Proofs.Ytflpemagbempaaa.Dg
