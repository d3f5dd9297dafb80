/-
  Layer 3 (digest): Verify.
-/
import Derived.Test.YtflpemagbempaaaDgI
namespace Go.Proofs.Ytflpemagbempaaa.Dg
open Go.RowKit
/-- What a digest and a proof form. -/
def upv (d : List UInt8) (i : Nat) : List ByteArray → Option (List UInt8)
  | [] => some d
  | s :: ps => if s.size = 8 then upv (if i % 2 = 0 then node d s.data.toList else node s.data.toList d) (i / 2) ps else none
/-- May the index and the proof be? -/
abbrev ixOk (i : Int) (n : Nat) : Prop := n ≤ 40 ∧ 0 ≤ i ∧ i < 2 ^ n
def vf (root leafs : ByteArray) (i : Int) (ps : List ByteArray) : Bool := decide (ixOk i ps.length ∧ upv (leaf leafs) i.toNat ps = some root.data.toList)
theorem ixOk_shift {i : Int} {n : Nat} (h0 : 0 ≤ i) : i < 2 ^ n ↔ i / 2 ^ n = 0 := by
  obtain ⟨m, rfl⟩ := Int.eq_ofNat_of_zero_le h0
  have hp : 0 < 2 ^ n := Nat.pow_pos (by omega)
  constructor
  · intro h
    have : m < 2 ^ n := by exact_mod_cast h
    have e : m / 2 ^ n = 0 := Nat.div_eq_of_lt this
    exact_mod_cast e
  · intro h
    have e : m / 2 ^ n = 0 := by exact_mod_cast h
    have := (Nat.div_eq_zero_iff).1 e
    have : m < 2 ^ n := by omega
    exact_mod_cast this
set_option maxRecDepth 100000 in
set_option maxHeartbeats 4000000 in
theorem Verify_long (root leafs : ByteArray) (i : Int) (ps : List ByteArray) (a : Option Addr) (n c : Nat) (hn : ps.length = n) (h40 : 40 < n) (hb : n ≤ 1000000) (w : World) :
    Calls Try.prog 27 #[.string root, .string leafs, .int .i64 i, .slice a n c] w fun e w' => e = .returned (.bool (vf root leafs i ps)) ∧ Below w.heap.size w w' := by
  have E : Hid (vf root leafs i ps = false) := Lib.hid (decide_eq_false (by rintro ⟨⟨h, _⟩, _⟩; omega))
  have d1 : decide ((40 : Int) < (n : Int)) = true := decide_eq_true (by omega)
  have d2 : decide (40 < n) = true := decide_eq_true (by omega)
  go_enter Try.func27, Try.ntmps27
  go_wp2_with fail
  go_ret
  exact ⟨by rw [E.out]; rfl, Below.refl _ _⟩
set_option maxRecDepth 100000 in
set_option maxHeartbeats 4000000 in
theorem Verify_out (root leafs : ByteArray) (i : Int) (ps : List ByteArray) (a : Option Addr) (n c : Nat) (hn : ps.length = n) (h40 : n ≤ 40) (_hi : -9223372036854775808 ≤ i ∧ i ≤ 9223372036854775807) (hix : ¬ (0 ≤ i ∧ i < 2 ^ n)) (w : World) :
    Calls Try.prog 27 #[.string root, .string leafs, .int .i64 i, .slice a n c] w fun e w' => e = .returned (.bool (vf root leafs i ps)) ∧ Below w.heap.size w w' := by
  have E : Hid (vf root leafs i ps = false) := Lib.hid (decide_eq_false (by rintro ⟨⟨_, h1, h2⟩, _⟩; rw [hn] at h2; exact hix ⟨h1, h2⟩))
  have d2 : decide (40 < n) = false := decide_eq_false (by omega)
  have d3 : decide ((40 : Int) < (n : Int)) = false := decide_eq_false (by omega)
  have d4 : (i / 2 ^ n != 0) = true := by
    rw [bne_iff_ne]
    intro h
    rcases Int.lt_or_le i 0 with h0 | h0
    · have := Int.ediv_neg_of_neg_of_pos h0 (show (0 : Int) < 2 ^ n from Int.pow_pos (by omega))
      omega
    · exact hix ⟨h0, (ixOk_shift h0).2 h⟩
  go_enter Try.func27, Try.ntmps27
  go_wp2_with fail
  go_ret
  exact ⟨by rw [E.out]; rfl, Below.refl _ _⟩
def VRel (w : World) (bd : Nat) (ps : List ByteArray) (n : Nat) (tot : Option (List UInt8)) (s2 s30 : Value) (wr : World) : Prop :=
  ∃ k m : Nat, ∃ d : List UInt8, k ≤ n ∧ m < 2 ^ n ∧ s2 = .int .i64 m ∧ s30 = .int .i64 k ∧ d.length = 8 ∧ DR wr bd 1 (fun _ => d) ∧ upv d m (ps.drop k) = tot ∧ Below w.heap.size w wr
theorem dr_one {W : World} {b : Nat} {x0 x1 x2 x3 x4 x5 x6 x7 : UInt8} (h : ∀ i, i < 8 → W.cell? ⟨b, i, none⟩ = some (.int .u8 (([x0, x1, x2, x3, x4, x5, x6, x7] : List UInt8).getD i 0).toNat) ∧ W.frozen? ⟨b, i, none⟩ = false) : DR W b 1 (fun _ => [x0, x1, x2, x3, x4, x5, x6, x7]) := by
  intro j hj i hi
  obtain rfl : j = 0 := by omega
  simpa using h i hi
theorem one_dr {W : World} {b : Nat} {d : List UInt8} (h : DR W b 1 (fun _ => d)) : ∀ i, i < 8 → W.cell? ⟨b, i, none⟩ = some (.int .u8 (d.getD i 0).toNat) ∧ W.frozen? ⟨b, i, none⟩ = false := fun i hi => by
  have := h 0 (by omega) i hi
  simpa using this
theorem dr_put {W : World} {b : Nat} {d : List UInt8} {q0 q1 q2 q3 q4 q5 q6 q7 : UInt8} (h : DR W b 1 (fun _ => d)) :
    DR ((((((((W.setCell ⟨b, 0, none⟩ (.int .u8 q0.toNat)).setCell ⟨b, 1, none⟩ (.int .u8 q1.toNat)).setCell ⟨b, 2, none⟩ (.int .u8 q2.toNat)).setCell ⟨b, 3, none⟩ (.int .u8 q3.toNat)).setCell ⟨b, 4, none⟩ (.int .u8 q4.toNat)).setCell ⟨b, 5, none⟩ (.int .u8 q5.toNat)).setCell ⟨b, 6, none⟩ (.int .u8 q6.toNat)).setCell ⟨b, 7, none⟩ (.int .u8 q7.toNat)) b 1 (fun _ => [q0, q1, q2, q3, q4, q5, q6, q7]) := by
  have h1 := dr_set (k := 0) (f := fun j => if j = 0 then [q0, q1, q2, q3, q4, q5, q6, q7] else d) h (by omega) (by rw [if_pos rfl]) (fun j hj => by simp only [if_neg hj])
  have h2 := dr_congr (f := fun _ => [q0, q1, q2, q3, q4, q5, q6, q7]) h1 (fun j hj => by rw [if_pos (by omega)])
  simpa using h2
theorem vrel_next {w w1 w3 : World} {ps : List ByteArray} {n k m : Nat} {tot : Option (List UInt8)} {d : List UInt8} {n0 n1 n2 n3 n4 n5 n6 n7 : UInt8} (hk : k < n) (hm : m < 2 ^ n) (hdr : DR w3 w1.heap.size 1 (fun _ => d)) (hB : Below w.heap.size w w3) (h1 : w.heap.size ≤ w1.heap.size)
    (htot : upv [n0, n1, n2, n3, n4, n5, n6, n7] (m / 2) (ps.drop (k + 1)) = tot) : VRel w w1.heap.size ps n tot (.int .i64 ((m : Int) / 2)) (.int .i64 ((k : Int) + 1)) ((((((((w3.setCell ⟨w1.heap.size, 0, none⟩ (.int .u8 n0.toNat)).setCell ⟨w1.heap.size, 1, none⟩ (.int .u8 n1.toNat)).setCell ⟨w1.heap.size, 2, none⟩ (.int .u8 n2.toNat)).setCell ⟨w1.heap.size, 3, none⟩ (.int .u8 n3.toNat)).setCell ⟨w1.heap.size, 4, none⟩ (.int .u8 n4.toNat)).setCell ⟨w1.heap.size, 5, none⟩ (.int .u8 n5.toNat)).setCell ⟨w1.heap.size, 6, none⟩ (.int .u8 n6.toNat)).setCell ⟨w1.heap.size, 7, none⟩ (.int .u8 n7.toNat)) :=
  ⟨k + 1, m / 2, [n0, n1, n2, n3, n4, n5, n6, n7], by omega, by omega, by congr 1, by congr 1, rfl, dr_put hdr, htot, bs8 hB h1 _ _ _ _ _ _ _ _⟩
theorem dr_new (W : World) (x0 x1 x2 x3 x4 x5 x6 x7 : UInt8) (T : TypeId) (V : World) (hV : V = W.alloc (.cells #[.int .u8 x0.toNat, .int .u8 x1.toNat, .int .u8 x2.toNat, .int .u8 x3.toNat, .int .u8 x4.toNat, .int .u8 x5.toNat, .int .u8 x6.toNat, .int .u8 x7.toNat] T)) : DR V W.heap.size 1 (fun _ => [x0, x1, x2, x3, x4, x5, x6, x7]) := by
  subst hV
  refine dr_one (fun i hi => ?_)
  have : i = 0 ∨ i = 1 ∨ i = 2 ∨ i = 3 ∨ i = 4 ∨ i = 5 ∨ i = 6 ∨ i = 7 := by omega
  rcases this with rfl | rfl | rfl | rfl | rfl | rfl | rfl | rfl <;> exact ⟨by go_cell, by go_cell⟩
set_option maxRecDepth 100000 in
set_option maxHeartbeats 4000000 in
theorem Verify_in (root leafs : ByteArray) (i : Nat) (ps : List ByteArray) (a : Option Addr) (n c : Nat) (hn : ps.length = n) (h40 : n ≤ 40) (hix : i < 2 ^ n) (hl : leafs.size ≤ 100000) (w : World) (ha : StrsAt w a ps) :
    Calls Try.prog 27 #[.string root, .string leafs, .int .i64 i, .slice a n c] w fun e w' => e = .returned (.bool (vf root leafs i ps)) ∧ Below w.heap.size w w' := by
  have E : Hid (vf root leafs i ps = decide (upv (leaf leafs) i ps = some root.data.toList)) := Lib.hid (by
    unfold vf
    rw [decide_eq_decide]
    exact ⟨fun h => h.2, fun h => ⟨⟨by omega, by omega, by rw [hn]; exact_mod_cast hix⟩, h⟩⟩)
  have d2 : decide (40 < n) = false := decide_eq_false (by omega)
  have d3 : decide ((40 : Int) < (n : Int)) = false := decide_eq_false (by omega)
  have d4 : ((i : Int) / 2 ^ n != 0) = false := by
    rw [bne_eq_false_iff_eq]
    exact (ixOk_shift (by omega)).1 (by exact_mod_cast hix)
  have hpn : 2 ^ n ≤ 2 ^ 40 := Nat.pow_le_pow_right (by omega) h40
  have LF := Lib.hid (leafOf_any leafs (by omega))
  have HA := Lib.hid ha
  have HN := Lib.hid hn
  clear ha hn
  obtain ⟨q0, q1, q2, q3, q4, q5, q6, q7, hq⟩ := eight (leaf_len leafs)
  rw [hq, dval8] at LF
  rw [hq] at E
  clear hq
  go_enter Try.func27, Try.ntmps27
  go_wp2_with fail
  refine (LF.out _).mono ?_
  rintro e w1 ⟨rfl, hB1⟩
  clear LF
  have hz1 : w.heap.size ≤ w1.heap.size := hB1.size
  go_wp2_with fail
  go_loopw [2, 30] (fun s2 s30 wr => VRel w w1.heap.size ps n (upv [q0, q1, q2, q3, q4, q5, q6, q7] i ps) s2 s30 wr) (fun _ s30 _ => n - (intOf s30).toNat)
  case atStart => exact ⟨0, i, _, by omega, hix, rfl, rfl, rfl, dr_new w1 _ _ _ _ _ _ _ _ 52 _ rfl, rfl, ba hB1 _⟩
  case round =>
    obtain ⟨k, m, d, hk, hm, rfl, rfl, hd, hdr, htot, hB⟩ := hrel
    rcases Nat.lt_or_ge k n with hlt | hge
    · have hx : ps[k]? = some (ps[k]'(by rw [HN.out]; exact hlt)) := List.getElem?_eq_getElem _
      obtain ⟨bb, off, rfl, hc⟩ := HA.out k _ hx
      have ck := kc hB (block_lt_of_cell hc) hc
      rw [List.drop_eq_getElem_cons (by rw [HN.out]; exact hlt)] at htot
      clear hx hc
      generalize ps[k]'(by rw [HN.out]; exact hlt) = x at *
      by_cases hx8 : x.size = 8
      · have PY := Lib.hid (parse_yes x hx8)
        have hxl : x.data.toList.length = 8 := by rw [toList_length]; exact hx8
        rw [upv, if_pos hx8] at htot
        have NE := Lib.hid (nodeOf_any d x.data.toList hd hxl)
        have NO := Lib.hid (nodeOf_any x.data.toList d hxl hd)
        have le := node_len d x.data.toList
        have lo := node_len x.data.toList d
        generalize x.data.toList = y at *
        obtain ⟨y0, y1, y2, y3, y4, y5, y6, y7, rfl⟩ := eight hxl
        obtain ⟨d0, d1, d2', d3', d4', d5, d6, d7, rfl⟩ := eight hd
        rw [dval8] at PY
        rw [dval8, dval8] at NE NO
        go_wp2_with fail
        refine (PY.out _).mono ?_
        rintro e w2 ⟨rfl, hB2⟩
        have hdr2 := dr_keep (dr_keep hdr hB2) ((Below.refl w2.heap.size w2).alloc (Nat.le_refl _) (.cells #[.int .u8 y0.toNat, .int .u8 y1.toNat, .int .u8 y2.toNat, .int .u8 y3.toNat, .int .u8 y4.toNat, .int .u8 y5.toNat, .int .u8 y6.toNat, .int .u8 y7.toNat] 52))
        have zz := one_dr hdr2
        have cd0 : (w2.alloc (.cells #[.int .u8 y0.toNat, .int .u8 y1.toNat, .int .u8 y2.toNat, .int .u8 y3.toNat, .int .u8 y4.toNat, .int .u8 y5.toNat, .int .u8 y6.toNat, .int .u8 y7.toNat] 52)).cell? ⟨w1.heap.size, 0, none⟩ = some (.int .u8 d0.toNat) := (zz 0 (by omega)).1
        have cd1 : (w2.alloc (.cells #[.int .u8 y0.toNat, .int .u8 y1.toNat, .int .u8 y2.toNat, .int .u8 y3.toNat, .int .u8 y4.toNat, .int .u8 y5.toNat, .int .u8 y6.toNat, .int .u8 y7.toNat] 52)).cell? ⟨w1.heap.size, 1, none⟩ = some (.int .u8 d1.toNat) := (zz 1 (by omega)).1
        have cd2 : (w2.alloc (.cells #[.int .u8 y0.toNat, .int .u8 y1.toNat, .int .u8 y2.toNat, .int .u8 y3.toNat, .int .u8 y4.toNat, .int .u8 y5.toNat, .int .u8 y6.toNat, .int .u8 y7.toNat] 52)).cell? ⟨w1.heap.size, 2, none⟩ = some (.int .u8 d2'.toNat) := (zz 2 (by omega)).1
        have cd3 : (w2.alloc (.cells #[.int .u8 y0.toNat, .int .u8 y1.toNat, .int .u8 y2.toNat, .int .u8 y3.toNat, .int .u8 y4.toNat, .int .u8 y5.toNat, .int .u8 y6.toNat, .int .u8 y7.toNat] 52)).cell? ⟨w1.heap.size, 3, none⟩ = some (.int .u8 d3'.toNat) := (zz 3 (by omega)).1
        have cd4 : (w2.alloc (.cells #[.int .u8 y0.toNat, .int .u8 y1.toNat, .int .u8 y2.toNat, .int .u8 y3.toNat, .int .u8 y4.toNat, .int .u8 y5.toNat, .int .u8 y6.toNat, .int .u8 y7.toNat] 52)).cell? ⟨w1.heap.size, 4, none⟩ = some (.int .u8 d4'.toNat) := (zz 4 (by omega)).1
        have cd5 : (w2.alloc (.cells #[.int .u8 y0.toNat, .int .u8 y1.toNat, .int .u8 y2.toNat, .int .u8 y3.toNat, .int .u8 y4.toNat, .int .u8 y5.toNat, .int .u8 y6.toNat, .int .u8 y7.toNat] 52)).cell? ⟨w1.heap.size, 5, none⟩ = some (.int .u8 d5.toNat) := (zz 5 (by omega)).1
        have cd6 : (w2.alloc (.cells #[.int .u8 y0.toNat, .int .u8 y1.toNat, .int .u8 y2.toNat, .int .u8 y3.toNat, .int .u8 y4.toNat, .int .u8 y5.toNat, .int .u8 y6.toNat, .int .u8 y7.toNat] 52)).cell? ⟨w1.heap.size, 6, none⟩ = some (.int .u8 d6.toNat) := (zz 6 (by omega)).1
        have cd7 : (w2.alloc (.cells #[.int .u8 y0.toNat, .int .u8 y1.toNat, .int .u8 y2.toNat, .int .u8 y3.toNat, .int .u8 y4.toNat, .int .u8 y5.toNat, .int .u8 y6.toNat, .int .u8 y7.toNat] 52)).cell? ⟨w1.heap.size, 7, none⟩ = some (.int .u8 d7.toNat) := (zz 7 (by omega)).1
        replace hB2 : Below w.heap.size w (w2.alloc (.cells #[.int .u8 y0.toNat, .int .u8 y1.toNat, .int .u8 y2.toNat, .int .u8 y3.toNat, .int .u8 y4.toNat, .int .u8 y5.toNat, .int .u8 y6.toNat, .int .u8 y7.toNat] 52)) := ba (bt hB hB2) _
        clear zz hdr hB
        rcases Nat.mod_two_eq_zero_or_one m with hm2 | hm2
        · rw [if_pos hm2] at htot
          obtain ⟨n0, n1, n2, n3, n4, n5, n6, n7, hnq⟩ := eight le
          rw [hnq] at htot NE
          rw [dval8] at NE
          clear hnq
          have hm3 : ((m : Int) % 2 == 0) = true := by rw [beq_iff_eq]; omega
          go_wp2_with fail
          refine (NE.out _).mono ?_
          rintro e w3 ⟨rfl, hB3⟩
          have hdr3 := dr_keep hdr2 hB3
          have zz := one_dr hdr3
          have zc0 : w3.cell? ⟨w1.heap.size, 0, none⟩ = some (.int .u8 d0.toNat) := (zz 0 (by omega)).1
          have zf0 : w3.frozen? ⟨w1.heap.size, 0, none⟩ = false := (zz 0 (by omega)).2
          have zc1 : w3.cell? ⟨w1.heap.size, 1, none⟩ = some (.int .u8 d1.toNat) := (zz 1 (by omega)).1
          have zf1 : w3.frozen? ⟨w1.heap.size, 1, none⟩ = false := (zz 1 (by omega)).2
          have zc2 : w3.cell? ⟨w1.heap.size, 2, none⟩ = some (.int .u8 d2'.toNat) := (zz 2 (by omega)).1
          have zf2 : w3.frozen? ⟨w1.heap.size, 2, none⟩ = false := (zz 2 (by omega)).2
          have zc3 : w3.cell? ⟨w1.heap.size, 3, none⟩ = some (.int .u8 d3'.toNat) := (zz 3 (by omega)).1
          have zf3 : w3.frozen? ⟨w1.heap.size, 3, none⟩ = false := (zz 3 (by omega)).2
          have zc4 : w3.cell? ⟨w1.heap.size, 4, none⟩ = some (.int .u8 d4'.toNat) := (zz 4 (by omega)).1
          have zf4 : w3.frozen? ⟨w1.heap.size, 4, none⟩ = false := (zz 4 (by omega)).2
          have zc5 : w3.cell? ⟨w1.heap.size, 5, none⟩ = some (.int .u8 d5.toNat) := (zz 5 (by omega)).1
          have zf5 : w3.frozen? ⟨w1.heap.size, 5, none⟩ = false := (zz 5 (by omega)).2
          have zc6 : w3.cell? ⟨w1.heap.size, 6, none⟩ = some (.int .u8 d6.toNat) := (zz 6 (by omega)).1
          have zf6 : w3.frozen? ⟨w1.heap.size, 6, none⟩ = false := (zz 6 (by omega)).2
          have zc7 : w3.cell? ⟨w1.heap.size, 7, none⟩ = some (.int .u8 d7.toNat) := (zz 7 (by omega)).1
          have zf7 : w3.frozen? ⟨w1.heap.size, 7, none⟩ = false := (zz 7 (by omega)).2
          have R := Lib.hid (vrel_next hlt hm hdr3 (bt hB2 hB3) hz1 htot)
          clear zz hdr3
          go_wp2_with fail
          go_roundw
          case rel => exact R.out
          case measure => simp [intOf]; omega
        · rw [if_neg (by omega)] at htot
          obtain ⟨n0, n1, n2, n3, n4, n5, n6, n7, hnq⟩ := eight lo
          rw [hnq] at htot NO
          rw [dval8] at NO
          clear hnq
          have hm3 : ((m : Int) % 2 == 0) = false := by rw [beq_eq_false_iff_ne]; omega
          go_wp2_with fail
          refine (NO.out _).mono ?_
          rintro e w3 ⟨rfl, hB3⟩
          have hdr3 := dr_keep hdr2 hB3
          have zz := one_dr hdr3
          have zc0 : w3.cell? ⟨w1.heap.size, 0, none⟩ = some (.int .u8 d0.toNat) := (zz 0 (by omega)).1
          have zf0 : w3.frozen? ⟨w1.heap.size, 0, none⟩ = false := (zz 0 (by omega)).2
          have zc1 : w3.cell? ⟨w1.heap.size, 1, none⟩ = some (.int .u8 d1.toNat) := (zz 1 (by omega)).1
          have zf1 : w3.frozen? ⟨w1.heap.size, 1, none⟩ = false := (zz 1 (by omega)).2
          have zc2 : w3.cell? ⟨w1.heap.size, 2, none⟩ = some (.int .u8 d2'.toNat) := (zz 2 (by omega)).1
          have zf2 : w3.frozen? ⟨w1.heap.size, 2, none⟩ = false := (zz 2 (by omega)).2
          have zc3 : w3.cell? ⟨w1.heap.size, 3, none⟩ = some (.int .u8 d3'.toNat) := (zz 3 (by omega)).1
          have zf3 : w3.frozen? ⟨w1.heap.size, 3, none⟩ = false := (zz 3 (by omega)).2
          have zc4 : w3.cell? ⟨w1.heap.size, 4, none⟩ = some (.int .u8 d4'.toNat) := (zz 4 (by omega)).1
          have zf4 : w3.frozen? ⟨w1.heap.size, 4, none⟩ = false := (zz 4 (by omega)).2
          have zc5 : w3.cell? ⟨w1.heap.size, 5, none⟩ = some (.int .u8 d5.toNat) := (zz 5 (by omega)).1
          have zf5 : w3.frozen? ⟨w1.heap.size, 5, none⟩ = false := (zz 5 (by omega)).2
          have zc6 : w3.cell? ⟨w1.heap.size, 6, none⟩ = some (.int .u8 d6.toNat) := (zz 6 (by omega)).1
          have zf6 : w3.frozen? ⟨w1.heap.size, 6, none⟩ = false := (zz 6 (by omega)).2
          have zc7 : w3.cell? ⟨w1.heap.size, 7, none⟩ = some (.int .u8 d7.toNat) := (zz 7 (by omega)).1
          have zf7 : w3.frozen? ⟨w1.heap.size, 7, none⟩ = false := (zz 7 (by omega)).2
          have R := Lib.hid (vrel_next hlt hm hdr3 (bt hB2 hB3) hz1 htot)
          clear zz hdr3
          go_wp2_with fail
          go_roundw
          case rel => exact R.out
          case measure => simp [intOf]; omega
      · have PN := Lib.hid (parse_no x hx8)
        rw [zero8] at PN
        rw [upv, if_neg hx8] at htot
        go_wp2_with fail
        refine (PN.out _).mono ?_
        rintro e w2 ⟨rfl, hB2⟩
        go_wp2_with fail
        go_ret
        refine ⟨?_, ba (bt hB hB2) _⟩
        rw [E.out, ← htot]
        rfl
    · have hkn : k = n := by omega
      subst hkn
      rw [List.drop_of_length_le (by rw [HN.out]; omega), upv] at htot
      by_cases hr8 : root.size = 8
      · have PY := Lib.hid (parse_yes root hr8)
        have hrl : root.data.toList.length = 8 := by rw [toList_length]; exact hr8
        obtain ⟨r0, r1, r2, r3, r4, r5, r6, r7, hr⟩ := eight hrl
        obtain ⟨d0, d1, d2', d3', d4', d5, d6, d7, rfl⟩ := eight hd
        rw [hr, dval8] at PY
        rw [hr, ← htot] at E
        have E2 : Hid (vf root leafs i ps = decide ([r0, r1, r2, r3, r4, r5, r6, r7] = [d0, d1, d2', d3', d4', d5, d6, d7])) := Lib.hid (by
          rw [E.out, decide_eq_decide, Option.some.injEq]; exact eq_comm)
        have EQ := eq8 r0 r1 r2 r3 r4 r5 r6 r7 d0 d1 d2' d3' d4' d5 d6 d7
        generalize decide ([r0, r1, r2, r3, r4, r5, r6, r7] = [d0, d1, d2', d3', d4', d5, d6, d7]) = ans at *
        clear hr hrl htot E
        go_wp2_with fail
        refine (PY.out _).mono ?_
        rintro e w2 ⟨rfl, hB2⟩
        have hdr2 := dr_keep (dr_keep hdr hB2) ((Below.refl w2.heap.size w2).alloc (Nat.le_refl _) (.cells #[.int .u8 r0.toNat, .int .u8 r1.toNat, .int .u8 r2.toNat, .int .u8 r3.toNat, .int .u8 r4.toNat, .int .u8 r5.toNat, .int .u8 r6.toNat, .int .u8 r7.toNat] 52))
        have zz := one_dr hdr2
        have cd0 : (w2.alloc (.cells #[.int .u8 r0.toNat, .int .u8 r1.toNat, .int .u8 r2.toNat, .int .u8 r3.toNat, .int .u8 r4.toNat, .int .u8 r5.toNat, .int .u8 r6.toNat, .int .u8 r7.toNat] 52)).cell? ⟨w1.heap.size, 0, none⟩ = some (.int .u8 d0.toNat) := (zz 0 (by omega)).1
        have cd1 : (w2.alloc (.cells #[.int .u8 r0.toNat, .int .u8 r1.toNat, .int .u8 r2.toNat, .int .u8 r3.toNat, .int .u8 r4.toNat, .int .u8 r5.toNat, .int .u8 r6.toNat, .int .u8 r7.toNat] 52)).cell? ⟨w1.heap.size, 1, none⟩ = some (.int .u8 d1.toNat) := (zz 1 (by omega)).1
        have cd2 : (w2.alloc (.cells #[.int .u8 r0.toNat, .int .u8 r1.toNat, .int .u8 r2.toNat, .int .u8 r3.toNat, .int .u8 r4.toNat, .int .u8 r5.toNat, .int .u8 r6.toNat, .int .u8 r7.toNat] 52)).cell? ⟨w1.heap.size, 2, none⟩ = some (.int .u8 d2'.toNat) := (zz 2 (by omega)).1
        have cd3 : (w2.alloc (.cells #[.int .u8 r0.toNat, .int .u8 r1.toNat, .int .u8 r2.toNat, .int .u8 r3.toNat, .int .u8 r4.toNat, .int .u8 r5.toNat, .int .u8 r6.toNat, .int .u8 r7.toNat] 52)).cell? ⟨w1.heap.size, 3, none⟩ = some (.int .u8 d3'.toNat) := (zz 3 (by omega)).1
        have cd4 : (w2.alloc (.cells #[.int .u8 r0.toNat, .int .u8 r1.toNat, .int .u8 r2.toNat, .int .u8 r3.toNat, .int .u8 r4.toNat, .int .u8 r5.toNat, .int .u8 r6.toNat, .int .u8 r7.toNat] 52)).cell? ⟨w1.heap.size, 4, none⟩ = some (.int .u8 d4'.toNat) := (zz 4 (by omega)).1
        have cd5 : (w2.alloc (.cells #[.int .u8 r0.toNat, .int .u8 r1.toNat, .int .u8 r2.toNat, .int .u8 r3.toNat, .int .u8 r4.toNat, .int .u8 r5.toNat, .int .u8 r6.toNat, .int .u8 r7.toNat] 52)).cell? ⟨w1.heap.size, 5, none⟩ = some (.int .u8 d5.toNat) := (zz 5 (by omega)).1
        have cd6 : (w2.alloc (.cells #[.int .u8 r0.toNat, .int .u8 r1.toNat, .int .u8 r2.toNat, .int .u8 r3.toNat, .int .u8 r4.toNat, .int .u8 r5.toNat, .int .u8 r6.toNat, .int .u8 r7.toNat] 52)).cell? ⟨w1.heap.size, 6, none⟩ = some (.int .u8 d6.toNat) := (zz 6 (by omega)).1
        have cd7 : (w2.alloc (.cells #[.int .u8 r0.toNat, .int .u8 r1.toNat, .int .u8 r2.toNat, .int .u8 r3.toNat, .int .u8 r4.toNat, .int .u8 r5.toNat, .int .u8 r6.toNat, .int .u8 r7.toNat] 52)).cell? ⟨w1.heap.size, 7, none⟩ = some (.int .u8 d7.toNat) := (zz 7 (by omega)).1
        replace hB2 : Below w.heap.size w (w2.alloc (.cells #[.int .u8 r0.toNat, .int .u8 r1.toNat, .int .u8 r2.toNat, .int .u8 r3.toNat, .int .u8 r4.toNat, .int .u8 r5.toNat, .int .u8 r6.toNat, .int .u8 r7.toNat] 52)) := ba (bt hB hB2) _
        clear zz hdr2 hdr hB
        go_wp2_with fail
        go_ret
        exact ⟨by rw [E2.out]; rfl, hB2⟩
      · have PN := Lib.hid (parse_no root hr8)
        rw [zero8] at PN
        have E2 : Hid (vf root leafs i ps = false) := Lib.hid (by
          rw [E.out, ← htot]
          refine decide_eq_false (fun h => hr8 ?_)
          rw [Option.some.injEq] at h
          rw [← toList_length, ← h]; exact hd)
        go_wp2_with fail
        refine (PN.out _).mono ?_
        rintro e w2 ⟨rfl, hB2⟩
        replace hB2 : Below w.heap.size w (w2.alloc (.cells #[.int .u8 0, .int .u8 0, .int .u8 0, .int .u8 0, .int .u8 0, .int .u8 0, .int .u8 0, .int .u8 0] 52)) := ba (bt hB hB2) _
        go_wp2_with fail
        go_ret
        exact ⟨by rw [E2.out]; rfl, hB2⟩
theorem Verify_any (root leafs : ByteArray) (i : Int) (ps : List ByteArray) (a : Option Addr) (n c : Nat) (hn : ps.length = n) (hb : n ≤ 1000000) (hi : -9223372036854775808 ≤ i ∧ i ≤ 9223372036854775807) (hl : leafs.size ≤ 100000) (w : World) (ha : StrsAt w a ps) :
    Calls Try.prog 27 #[.string root, .string leafs, .int .i64 i, .slice a n c] w fun e w' => e = .returned (.bool (vf root leafs i ps)) ∧ Below w.heap.size w w' := by
  rcases Nat.lt_or_ge 40 n with h | h
  · exact Verify_long root leafs i ps a n c hn h hb w
  · by_cases hix : 0 ≤ i ∧ i < 2 ^ n
    · obtain ⟨m, rfl⟩ := Int.eq_ofNat_of_zero_le hix.1
      exact Verify_in root leafs m ps a n c hn h (by exact_mod_cast hix.2) hl w ha
    · exact Verify_out root leafs i ps a n c hn h hi hix w
end Go.Proofs.Ytflpemagbempaaa.Dg
