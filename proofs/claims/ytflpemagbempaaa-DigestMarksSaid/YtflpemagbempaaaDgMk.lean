/-
  Layer 3 (digest): the law DigestMarks, walked.
-/
import Derived.Test.YtflpemagbempaaaDgU
namespace Go.Proofs.Ytflpemagbempaaa.Dg
open Go.RowKit
theorem mark_size (k m : ByteArray) : (B (mark k m)).size = 8 := rfl
def MkRel (W0 : World) (s48 : Value) (wr : World) : Prop := ∃ k : Nat, k ≤ 6 ∧ s48 = .int .i64 k ∧ Below W0.heap.size W0 wr
set_option maxRecDepth 100000 in
set_option maxHeartbeats 8000000 in
theorem lawMarks_any (key0 msg0 : ByteArray) (hk0 : key0.size ≤ 9223372036854775807) (hm0 : msg0.size ≤ 9223372036854775807) (S : ByteArray) (hS : S.size ≤ 9223372036854775807) (at' x : Nat) (hat : at' < 256) (w : World) :
    Calls Try.prog 4 #[.string key0, .string msg0, .agg #[.string S, .int .u8 at', .int .u8 x]] w fun e w' => e = .returned (.bool true) ∧ Below w.heap.size w w' := by
  have SA := Lib.hid sanity_any
  have C1 := Lib.hid (cut_any key0 hk0)
  have C2 := Lib.hid (cut_any msg0 hm0)
  have z1 := cut200_size key0
  have z2 := cut200_size msg0
  generalize cut200 key0 = key at *
  generalize cut200 msg0 = msg at *
  have MK := Lib.hid (rMark_any key msg (by omega) (by omega))
  have MK2 := Lib.hid (rMark_any msg key (by omega) (by omega))
  have DM := Lib.hid (Mark_any key msg (by omega) (by omega))
  have CK := Lib.hid (fun s => Check_any key msg s (by omega) (by omega))
  have RC := Lib.hid (fun s => rCheck_any key msg s (by omega) (by omega))
  have hms := mark_size key msg
  have CH := Lib.hid (change_any S at' hat x (B (mark key msg)) (by rw [hms]; omega))
  have m0 : (0 : Int) ≤ min (S.size : Int) 20 := by omega
  have m1 : min (S.size : Int) 20 ≤ (S.size : Int) := by omega
  have hraw : (S.extract 0 (min (S.size : Int) 20).toNat).size ≤ 20 := by rw [extract_size _ _ _ (by omega)]; omega
  generalize hrw : S.extract 0 (min (S.size : Int) 20).toNat = raw at *
  have MK3 := Lib.hid (rMark_any raw msg (by omega) (by omega))
  generalize hmk : B (mark key msg) = mk at *
  have ekk := str_beq mk
  have hmi : (mk.size : Int) = 8 := by omega
  have t1 : (at' : Int) % 8 = ((at' % 8 : Nat) : Int) := by omega
  have t2 : (at' : Int).tmod 8 = ((at' % 8 : Nat) : Int) := by rw [Int.tmod_eq_emod_of_nonneg (by omega)]; omega
  have t3 : at' % 8 < 8 := Nat.mod_lt _ (by omega)
  generalize at' % 8 = j at *
  have t4 : (0 : Int) ≤ (j : Int) := by omega
  have t5 : (j : Int) ≤ 8 := by omega
  have t9 : IntKind.i64.wrap (at' : Int) = (at' : Int) := IntWalk.i64_in _ (by omega)
  have t10 : (j : Int).toNat = j := by omega
  have t6 : j ≤ 8 := by omega
  have t7 : (j : Int) ≤ (mk.size : Int) := by omega
  have t8 : j ≤ mk.size := by omega
  generalize chgO at' x mk = ch at *
  generalize B (mark msg key) = mk2 at *
  generalize B (mark raw msg) = mk3 at *
  go_enter Try.func4, Try.ntmps4
  go_wp2_with fail
  have o0 : (w.alloc (.cells #[.string S, .int .u8 at', .int .u8 x] 27)).cell? ⟨w.heap.size, 0, none⟩ = some (.string S) := by go_cell
  have o1 : (w.alloc (.cells #[.string S, .int .u8 at', .int .u8 x] 27)).cell? ⟨w.heap.size, 1, none⟩ = some (.int .u8 at') := by go_cell
  have o2 : (w.alloc (.cells #[.string S, .int .u8 at', .int .u8 x] 27)).cell? ⟨w.heap.size, 2, none⟩ = some (.int .u8 x) := by go_cell
  have kW : Below w.heap.size w (w.alloc (.cells #[.string S, .int .u8 at', .int .u8 x] 27)) := ba (Below.refl _ _) _
  generalize (w.alloc (.cells #[.string S, .int .u8 at', .int .u8 x] 27)) = W0 at *
  refine (SA.out _).mono ?_
  rintro e w1 ⟨rfl, k1⟩
  go_wp2_with fail
  refine (C1.out _).mono ?_
  rintro e w1' ⟨rfl, rfl⟩
  go_wp2_with fail
  refine (C2.out _).mono ?_
  rintro e w1'' ⟨rfl, rfl⟩
  go_wp2_with fail
  refine (MK.out _).mono ?_
  rintro e V ⟨rfl, k2⟩
  replace k2 := bt k1 k2
  have q0 := kc k2 (block_lt_of_cell o0) o0
  have q1 := kc k2 (block_lt_of_cell o1) o1
  have q2 := kc k2 (block_lt_of_cell o2) o2
  have kA := bt kW k2
  clear o0 o1 o2 k1 k2 SA C1 C2 MK
  go_wp2_with fail
  have x0 : ∀ W, Below V.heap.size V W → W.cell? ⟨w.heap.size, 0, none⟩ = some (.string S) := fun W h => kc h (block_lt_of_cell q0) q0
  have x1 : ∀ W, Below V.heap.size V W → W.cell? ⟨w.heap.size, 1, none⟩ = some (.int .u8 at') := fun W h => kc h (block_lt_of_cell q1) q1
  have x2 : ∀ W, Below V.heap.size V W → W.cell? ⟨w.heap.size, 2, none⟩ = some (.int .u8 x) := fun W h => kc h (block_lt_of_cell q2) q2
  clear q0 q1 q2
  go_region_held3 (fun w' => Below V.heap.size V w') (first | (with_reducible exact bd1 (Below.refl _ _)) | (with_reducible assumption) | (with_reducible exact bt (by assumption) hba) | (with_reducible exact ba (by assumption) _))
    (first
      | ((with_reducible refine (CH.out _).mono ?_); rintro en wa ⟨rfl, hba⟩)
      | ((with_reducible refine (MK2.out _).mono ?_); rintro en wb ⟨rfl, hba⟩)
      | ((with_reducible refine (MK3.out _).mono ?_); rintro en wc ⟨rfl, hba⟩))
  generalize hsh : mk.extract 0 j = sh at *
  have hZ : ∀ k, k < 6 → ∃ t : ByteArray, (wc.alloc (.cells #[.string mk, .string ch, .string raw, .string sh, .string mk2, .string mk3] 9)).cell? ⟨wc.heap.size, k, none⟩ = some (.string t) := fun k hk => by
    have : k = 0 ∨ k = 1 ∨ k = 2 ∨ k = 3 ∨ k = 4 ∨ k = 5 := by omega
    rcases this with rfl | rfl | rfl | rfl | rfl | rfl
    · exact ⟨mk, by go_cell⟩
    · exact ⟨ch, by go_cell⟩
    · exact ⟨raw, by go_cell⟩
    · exact ⟨sh, by go_cell⟩
    · exact ⟨mk2, by go_cell⟩
    · exact ⟨mk3, by go_cell⟩
  have HZ := Lib.hid hZ
  have kF : Below w.heap.size w (wc.alloc (.cells #[.string mk, .string ch, .string raw, .string sh, .string mk2, .string mk3] 9)) := bt kA (by with_reducible assumption : Below V.heap.size V (wc.alloc (.cells #[.string mk, .string ch, .string raw, .string sh, .string mk2, .string mk3] 9)))
  clear hZ CH MK2 MK3 x0 x1 x2 hsh hrw hmk
  generalize (wc.alloc (.cells #[.string mk, .string ch, .string raw, .string sh, .string mk2, .string mk3] 9)) = V2 at *
  go_wp2_with fail
  go_loopw [48] (fun s48 wr => MkRel V2 s48 wr) (fun s48 _ => 6 - (intOf s48).toNat)
  case atStart => exact ⟨0, by omega, rfl, Below.refl _ _⟩
  case round =>
    obtain ⟨k, hk, rfl, hB⟩ := hrel
    rcases Nat.lt_or_ge k 6 with hlt | hge
    · obtain ⟨t, ht⟩ := HZ.out k hlt
      have ct := kc hB (block_lt_of_cell ht) ht
      clear ht
      have C1 := Lib.hid (CK.out t)
      have C2 := Lib.hid (RC.out t)
      generalize ck key msg t = bo at *
      have hbb : (bo != bo) = false := bne_self_eq_false _
      go_wp2_with fail
      refine (C1.out _).mono ?_
      rintro e w5 ⟨rfl, k5⟩
      go_wp2_with fail
      refine (C2.out _).mono ?_
      rintro e w6 ⟨rfl, k6⟩
      have R : Hid (MkRel V2 (.int .i64 ((k : Int) + 1)) w6) := Lib.hid ⟨k + 1, by omega, by congr 1, bt (bt hB k5) k6⟩
      go_wp2_with fail
      go_roundw
      case rel => exact R.out
      case measure => simp [intOf]; omega
    · have hk4 : k = 6 := by omega
      subst hk4
      have hBk := bt kF hB
      go_wp2_with fail
      refine (DM.out _).mono ?_
      rintro e w5 ⟨rfl, k5⟩
      go_wp2_with fail
      go_ret
      exact ⟨rfl, bt hBk k5⟩
end Go.Proofs.Ytflpemagbempaaa.Dg
