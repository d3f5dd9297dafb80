/-
  Layer 3 (digest): the document's own Verify; whether two lists are the same.
-/
import Derived.Test.YtflpemagbempaaaDgQ
namespace Go.Proofs.Ytflpemagbempaaa.Dg
open Go.RowKit
/-- What Up answers. -/
def upA (dd : List UInt8) (i : Int) (ps : List ByteArray) : Option (List UInt8) := if ixOk i ps.length then upv dd i.toNat ps else none
def upV : Option (List UInt8) → Value
  | some d => .tuple #[.string (B d), .bool true]
  | none => .tuple #[.string ⟨#[]⟩, .bool false]
theorem upv_len : ∀ (ps : List ByteArray) (d : List UInt8) (i : Nat) (r : List UInt8), d.length = 8 → upv d i ps = some r → r.length = 8
  | [], d, i, r, hd, h => by rw [upv] at h; cases h; exact hd
  | s :: ps, d, i, r, hd, h => by
    rw [upv] at h
    split at h
    · refine upv_len ps _ _ r ?_ h
      split <;> exact node_len _ _
    · cases h
def UpRel (w : World) (ps : List ByteArray) (n : Nat) (tot : Option (List UInt8)) (s0 s1 sk : Value) (wr : World) : Prop :=
  ∃ k m : Nat, ∃ d : List UInt8, k ≤ n ∧ m < 2 ^ n ∧ s0 = .string (B d) ∧ s1 = .int .i64 m ∧ sk = .int .i64 k ∧ d.length = 8 ∧ upv d m (ps.drop k) = tot ∧ Below w.heap.size w wr
set_option maxRecDepth 100000 in
set_option maxHeartbeats 4000000 in
theorem Up_no (dd : ByteArray) (i : Int) (ps : List ByteArray) (a : Option Addr) (n c : Nat) (hn : ps.length = n) (hb : n ≤ 1000000) (hi : -9223372036854775808 ≤ i ∧ i ≤ 9223372036854775807) (hix : ¬ ixOk i n) (w : World) :
    Calls Try.prog 29 #[.string dd, .int .i64 i, .slice a n c] w fun e w' => e = .returned (upV none) ∧ w = w' := by
  rw [show upV none = .tuple #[.string ⟨#[]⟩, .bool false] from rfl]
  rcases Int.lt_or_le i 0 with h0 | h0
  · have d0 : decide (i < 0) = true := decide_eq_true h0
    go_enter Try.func29, Try.ntmps29
    go_wp2_with fail
    refine bodyPost_ret (by simp [results, Try.results29, go_sem]) rfl ⟨rfl, rfl⟩
  · have d0 : decide (i < 0) = false := decide_eq_false (by omega)
    rcases Nat.lt_or_ge 40 n with h | h
    · have d1 : decide (40 < n) = true := decide_eq_true h
      have d2 : decide ((40 : Int) < (n : Int)) = true := decide_eq_true (by omega)
      go_enter Try.func29, Try.ntmps29
      go_wp2_with fail
      refine bodyPost_ret (by simp [results, Try.results29, go_sem]) rfl ⟨rfl, rfl⟩
    · have d1 : decide (40 < n) = false := decide_eq_false (by omega)
      have d2 : decide ((40 : Int) < (n : Int)) = false := decide_eq_false (by omega)
      have h2 : (2 : Int) ^ n ≤ i := by
        rcases Int.lt_or_le i (2 ^ n) with h3 | h3
        · exact absurd ⟨h, h0, h3⟩ hix
        · exact h3
      have hpw : (2 : Int) ^ n ≤ 2 ^ 40 := by exact_mod_cast Nat.pow_le_pow_right (n := 2) (by omega) h
      have hpp : (0 : Int) < 2 ^ n := Int.pow_pos (by omega)
      have hw : RowKit.wrap64 ((2 : Int) ^ n) = 2 ^ n := wrapi _ (by omega) (by omega)
      have d3 : decide ((2 : Int) ^ n ≤ i) = true := decide_eq_true h2
      go_enter Try.func29, Try.ntmps29
      go_wp2_with fail
      refine bodyPost_ret (by simp [results, Try.results29, go_sem]) rfl ⟨rfl, rfl⟩
set_option maxRecDepth 100000 in
set_option maxHeartbeats 4000000 in
theorem Up_in (dd : List UInt8) (hdd : dd.length = 8) (i : Nat) (ps : List ByteArray) (a : Option Addr) (n c : Nat) (hn : ps.length = n) (h40 : n ≤ 40) (hix : i < 2 ^ n) (w : World) (ha : StrsAt w a ps) :
    Calls Try.prog 29 #[.string (B dd), .int .i64 i, .slice a n c] w fun e w' => e = .returned (upV (upv dd i ps)) ∧ Below w.heap.size w w' := by
  have d0 : decide ((i : Int) < 0) = false := decide_eq_false (by omega)
  have d1 : decide (40 < n) = false := decide_eq_false (by omega)
  have d2 : decide ((40 : Int) < (n : Int)) = false := decide_eq_false (by omega)
  have hpn : 2 ^ n ≤ 2 ^ 40 := Nat.pow_le_pow_right (by omega) h40
  have hpw : (2 : Int) ^ n ≤ 2 ^ 40 := by exact_mod_cast hpn
  have hix2 : (i : Int) < 2 ^ n := by exact_mod_cast hix
  have hw : RowKit.wrap64 ((2 : Int) ^ n) = 2 ^ n := wrapi _ (by omega) (by omega)
  have d3 : decide ((2 : Int) ^ n ≤ (i : Int)) = false := decide_eq_false (by omega)
  have HA := Lib.hid ha
  have HN := Lib.hid hn
  clear ha hn
  have E : Hid (upV none = .tuple #[.string ⟨#[]⟩, .bool false]) := Lib.hid rfl
  go_enter Try.func29, Try.ntmps29
  go_wp2_with fail
  clear d3 hw hpw hix2
  go_loopw [0, 1, 8] (fun s0 s1 s8 wr => UpRel w ps n (upv dd i ps) s0 s1 s8 wr) (fun _ _ s8 _ => n - (intOf s8).toNat)
  case atStart => exact ⟨0, i, dd, by omega, hix, rfl, rfl, rfl, hdd, rfl, Below.refl _ _⟩
  case round =>
    rename World => V
    obtain ⟨k, m, d, hk, hm, rfl, rfl, rfl, hd, htot, hB⟩ := hrel
    rcases Nat.lt_or_ge k n with hlt | hge
    · have hx : ps[k]? = some (ps[k]'(by rw [HN.out]; exact hlt)) := List.getElem?_eq_getElem _
      obtain ⟨bb, off, rfl, hc⟩ := HA.out k _ hx
      have ck := kc hB (block_lt_of_cell hc) hc
      rw [List.drop_eq_getElem_cons (by rw [HN.out]; exact hlt)] at htot
      clear hx hc
      generalize ps[k]'(by rw [HN.out]; exact hlt) = x at *
      by_cases hx8 : x.size = 8
      · rw [upv, if_pos hx8] at htot
        have hxl : x.data.toList.length = 8 := by rw [toList_length]; exact hx8
        have hsd : (B d).size = 8 := by rw [B_size, hd]
        have hbx : B x.data.toList = x := B_data x
        have RE := Lib.hid (rOf_any (⟨#[110]⟩ ++ B d ++ x) (by rw [size_append, size_append, one_size, hsd, hx8]; decide))
        have RO := Lib.hid (rOf_any (⟨#[110]⟩ ++ x ++ B d) (by rw [size_append, size_append, one_size, hsd, hx8]; decide))
        have e1 := D_node d x.data.toList
        have e2 := D_node x.data.toList d
        rw [hbx] at e1 e2
        rw [e1] at RE
        rw [e2] at RO
        have c1 := fun w => run_string_add_sum (P := Try.prog) (w := w) ⟨#[110]⟩ (B d) (by rw [one_size, hsd]; decide)
        have c2 := fun w => run_string_add_sum (P := Try.prog) (w := w) (⟨#[110]⟩ ++ B d) x (by rw [size_append, one_size, hsd, hx8]; decide)
        have c3 := fun w => run_string_add_sum (P := Try.prog) (w := w) ⟨#[110]⟩ x (by rw [one_size, hx8]; decide)
        have c4 := fun w => run_string_add_sum (P := Try.prog) (w := w) (⟨#[110]⟩ ++ x) (B d) (by rw [size_append, one_size, hsd, hx8]; decide)
        have NX : Hid (∀ d', d'.length = 8 → upv d' (m / 2) (ps.drop (k + 1)) = upv dd i ps → ∀ w3, Below w.heap.size w w3 → UpRel w ps n (upv dd i ps) (.string (B d')) (.int .i64 ((m : Int) / 2)) (.int .i64 ((k : Int) + 1)) w3) :=
          Lib.hid (fun d' x1 x2 w3 x3 => ⟨k + 1, m / 2, d', by omega, by omega, rfl, by congr 1, by congr 1, x1, x2, x3⟩)
        have hx9 : (x.size : Int) = 8 := by omega
        rcases Nat.mod_two_eq_zero_or_one m with hm2 | hm2
        · rw [if_pos hm2] at htot
          have hm3 : ((m : Int) % 2 == 0) = true := by rw [beq_iff_eq]; omega
          have R := Lib.hid (NX.out _ (node_len _ _) htot)
          clear NX htot e1 e2 hsd hbx RO c3 c4
          generalize B (node d x.data.toList) = y at *
          generalize B d = dS at *
          go_wp2_with fail
          refine (RE.out _).mono ?_
          rintro e w3 ⟨rfl, hB3⟩
          go_wp2_with fail
          go_roundw
          case rel => exact R.out _ (bt hB hB3)
          case measure => simp [intOf]; omega
        · rw [if_neg (by omega)] at htot
          have hm3 : ((m : Int) % 2 == 0) = false := by rw [beq_eq_false_iff_ne]; omega
          have R := Lib.hid (NX.out _ (node_len _ _) htot)
          clear NX htot e1 e2 hsd hbx RE c1 c2
          generalize B (node x.data.toList d) = y at *
          generalize B d = dS at *
          go_wp2_with fail
          refine (RO.out _).mono ?_
          rintro e w3 ⟨rfl, hB3⟩
          go_wp2_with fail
          go_roundw
          case rel => exact R.out _ (bt hB hB3)
          case measure => simp [intOf]; omega
      · rw [upv, if_neg hx8] at htot
        have hx9 : ¬ (x.size : Int) = 8 := by omega
        go_wp2_with fail
        rw [← htot, E.out]
        refine bodyPost_ret (by simp [results, Try.results29, go_sem]) rfl ⟨rfl, hB⟩
    · have hkn : k = n := by omega
      subst hkn
      rw [List.drop_of_length_le (by rw [HN.out]; omega), upv] at htot
      go_wp2_with fail
      refine bodyPost_ret (v := .tuple #[.string (B d), .bool true]) (by simp [results, Try.results29, go_sem]) rfl ⟨by rw [← htot]; rfl, hB⟩
theorem Up_any (dd : List UInt8) (hdd : dd.length = 8) (i : Int) (ps : List ByteArray) (a : Option Addr) (n c : Nat) (hn : ps.length = n) (hb : n ≤ 1000000) (hi : -9223372036854775808 ≤ i ∧ i ≤ 9223372036854775807) (w : World) (ha : StrsAt w a ps) :
    Calls Try.prog 29 #[.string (B dd), .int .i64 i, .slice a n c] w fun e w' => e = .returned (upV (upA dd i ps)) ∧ Below w.heap.size w w' := by
  by_cases hix : ixOk i n
  · obtain ⟨h40, h0, h2⟩ := id hix
    obtain ⟨m, rfl⟩ := Int.eq_ofNat_of_zero_le h0
    rw [show upA dd m ps = upv dd m ps by unfold upA; rw [hn, if_pos hix]; rfl]
    exact Up_in dd hdd m ps a n c hn h40 (by exact_mod_cast h2) w ha
  · rw [show upA dd i ps = none by unfold upA; rw [hn, if_neg hix]]
    refine (Up_no (B dd) i ps a n c hn hb hi hix w).mono ?_
    rintro e w' ⟨rfl, rfl⟩
    exact ⟨rfl, Below.refl _ _⟩
theorem vf_up (root leafs : ByteArray) (i : Int) (ps : List ByteArray) : vf root leafs i ps = (match upA (leaf leafs) i ps with | some d => decide (B d = root) | none => false) := by
  unfold vf upA
  by_cases h : ixOk i ps.length
  · rw [if_pos h]
    cases hu : upv (leaf leafs) i.toNat ps with
    | none => simp
    | some d =>
      simp only [Option.some.injEq]
      rw [decide_eq_decide]
      exact ⟨fun h => by rw [h.2, B_data], fun h2 => ⟨h, by rw [← h2, B_toList]⟩⟩
  · rw [if_neg h, decide_eq_false (fun h2 => h h2.1)]
set_option maxHeartbeats 2000000 in
theorem rVerify_any (root leafs : ByteArray) (i : Int) (ps : List ByteArray) (a : Option Addr) (n c : Nat) (hn : ps.length = n) (hb : n ≤ 1000000) (hi : -9223372036854775808 ≤ i ∧ i ≤ 9223372036854775807) (hl : leafs.size ≤ 100000) (w : World) (ha : StrsAt w a ps) :
    Calls Try.prog 28 #[.string root, .string leafs, .int .i64 i, .slice a n c] w fun e w' => e = .returned (.bool (vf root leafs i ps)) ∧ Below w.heap.size w w' := by
  have HA := Lib.hid ha
  have LE := Lib.hid (rLeaf_any leafs hl)
  have UP := Lib.hid (fun W hW => Up_any (leaf leafs) (leaf_len _) i ps a n c hn hb hi W hW)
  have E := Lib.hid (vf_up root leafs i ps)
  clear ha hn
  generalize upA (leaf leafs) i ps = r at *
  generalize B (leaf leafs) = lf at *
  cases r with
  | none =>
    rw [show upV none = .tuple #[.string ⟨#[]⟩, .bool false] from rfl] at UP
    go_enter Try.func28, Try.ntmps28
    go_wp2_with fail
    refine (LE.out _).mono ?_
    rintro e w1 ⟨rfl, hB1⟩
    have hs := sat_below HA.out hB1
    go_wp2_with fail
    refine (UP.out _ hs).mono ?_
    rintro e w2 ⟨rfl, hB2⟩
    go_wp2_with fail
    go_ret
    exact ⟨by rw [E.out]; rfl, bt hB1 hB2⟩
  | some d =>
    rw [show upV (some d) = .tuple #[.string (B d), .bool true] from rfl] at UP
    have hd := str_dec (B d) root
    have E2 : Hid (vf root leafs i ps = decide (B d = root)) := Lib.hid E.out
    generalize decide (B d = root) = ans at *
    generalize B d = bd at *
    clear E
    go_enter Try.func28, Try.ntmps28
    go_wp2_with fail
    refine (LE.out _).mono ?_
    rintro e w1 ⟨rfl, hB1⟩
    have hs := sat_below HA.out hB1
    go_wp2_with fail
    refine (UP.out _ hs).mono ?_
    rintro e w2 ⟨rfl, hB2⟩
    go_wp2_with fail
    go_ret
    exact ⟨by rw [E2.out]; rfl, bt hB1 hB2⟩
end Go.Proofs.Ytflpemagbempaaa.Dg
