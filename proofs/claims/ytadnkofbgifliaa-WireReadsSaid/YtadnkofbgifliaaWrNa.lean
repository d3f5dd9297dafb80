/-
  Layer 2 (wire): the document's own reading of a number.
-/
import Derived.Test.YtadnkofbgifliaaWrR
import Derived.Test.YtadnkofbgifliaaWrYa
namespace Go.Proofs.Ytadnkofbgifliaa.Wr
open Go.RowKit

theorem and1 (d : Nat) (h : d < 18446744073709551616) : bits .and .u64 (d : Int) 1 = ((d % 2 : Nat) : Int) := by
  have h := bits_mask .u64 64 (by decide) wraps_u64 1 (by decide) (d : Int) (by omega) (by omega)
  simpa using h
theorem and127b (d : Nat) (h : d < 256) : bits .and .u8 (d : Int) 127 = ((d % 128 : Nat) : Int) := by
  have h := bits_mask .u8 8 (by decide) wraps_u8 7 (by decide) (d : Int) (by omega) (by omega)
  simpa using h
def NoIL (l : List UInt8) : Prop := ∀ n t, inI n → l ≠ encI n ++ t
/-- What the number at a position is, and the position behind it. -/
def NumAt (l : List UInt8) (at' : Nat) (e : Ending) : Prop :=
  (∃ n t, inI n ∧ l = encI n ++ t ∧ e = .returned (.tuple #[.int .i64 n, .int .i64 ((at' + (encI n).length : Nat) : Int), .bool true])) ∨
    (NoIL l ∧ e = .returned (.tuple #[.int .i64 0, .int .i64 at', .bool false]))

/-- What is read at a last byte. -/
theorem num_end (l : List UInt8) (p k acc B C : Nat) (hk : k < l.length) (P : Pre l k acc) (hB : (l[k]'hk).toNat = B) (h128 : B < 128) (h0 : k = 0 ∨ 0 < B) (hC : acc + 128 ^ k * B = C) (hc : C < 18446744073709551616) (n v : Int) (hn : n = un C) (hv : v = p + k + 1) :
    NumAt l p (.returned (.tuple #[.int .i64 n, .int .i64 v, .bool true])) := by
  have he := (pre_last P hk (by rw [hB]; exact h128) C (l.drop (k + 1))).2 ⟨by rw [hB]; exact h0, by rw [hB, hC], rfl⟩
  have hz : encI (un C) = encN C := by unfold encI; rw [zz_un]
  refine Or.inl ⟨un C, l.drop (k + 1), un_bd _ hc, by rw [hz]; exact he, ?_⟩
  have hlen : (encI (un C)).length = k + 1 := by
    have := congrArg List.length he
    rw [List.length_append, List.length_drop] at this
    rw [hz]; omega
  rw [hn, hv, hlen]
  congr 1
theorem num_no (l : List UInt8) (p : Nat) (h : NoIL l) : NumAt l p (.returned (.tuple #[.int .i64 0, .int .i64 p, .bool false])) := Or.inr ⟨h, rfl⟩
theorem half_even (C : Nat) (hc : C < 18446744073709551616) (h : C % 2 = 0) : ((C : Int) / 2) = un C := by unfold un; rw [if_neg (by omega)]; omega
theorem half_odd (C : Nat) (hc : C < 18446744073709551616) (h : C % 2 = 1) : -((C : Int) / 2) - 1 = un C := by unfold un; rw [if_pos h]; omega

set_option maxRecDepth 100000 in
set_option maxHeartbeats 4000000 in
theorem num_any (s : ByteArray) (p : Nat) (hp : p ≤ s.size) (hs : s.size ≤ 1000000) (w : World) :
    Calls Try.prog 46 #[.string s, .int .i64 p] w fun e w' => NumAt (s.data.toList.drop p) p e ∧ w = w' := by
  obtain ⟨l, hl⟩ : ∃ l, s.data.toList.drop p = l := ⟨_, rfl⟩
  have hln : l.length = s.size - p := by rw [← hl, List.length_drop, ← size_list]
  rw [hl]
  have HL := Lib.hid hl
  clear hl
  go_enter Try.func46, Try.ntmps46
  go_wp2_with fail
  go_loop [7, 8] (fun s7 s8 => (∃ k acc : Nat, k ≤ 9 ∧ p + k ≤ s.size ∧ s7 = .int .u64 acc ∧ s8 = .int .i64 k ∧ Hid (Pre l k acc) ∧ acc < 18446744073709551616) ∨ (∃ C : Int, s7 = .int .u64 C ∧ s8 = .int .i64 10 ∧ Hid (NoIL l))) (fun _ s8 => 10 - (intOf s8).toNat)
  case atStart => exact Or.inl ⟨0, 0, by omega, by omega, rfl, rfl, Lib.hid (pre_zero _), by omega⟩
  case round =>
    rcases hrel with ⟨k, acc, hk, hpk, rfl, rfl, P, ha⟩ | ⟨C, rfl, rfl, HN⟩
    · rcases Nat.lt_or_ge (p + k) s.size with hlt | hge
      · have hlk : k < l.length := by omega
        obtain ⟨B, hB⟩ : ∃ B, (l[k]'hlk).toNat = B := ⟨_, rfl⟩
        have hB1 : B < 256 := by rw [← hB]; exact l[k].toNat_lt
        have hsB : s[p + k].toNat = B := by
          rw [← hB, get_list s (p + k) hlt]
          congr 1
          have := HL.out
          subst this
          rw [List.getElem_drop]
        have HBB := Lib.hid hB
        clear hB
        have i0 : (0 : Int) ≤ (p : Int) + k := by omega
        have i1 : (p : Int) + k < s.size := by omega
        have i2 : ((p : Int) + k).toNat = p + k := by omega
        have hk10 : (k : Int) < 10 := by omega
        have a1 := and127b B hB1
        obtain ⟨M, hM⟩ : ∃ M, B % 128 = M := ⟨_, rfl⟩
        have hM1 : M < 128 := by omega
        rw [hM] at a1
        have a2 : IntKind.u64.wrap (M : Int) = M := IntWalk.u64_in _ (by omega)
        rcases Nat.lt_or_ge (M * 128 ^ k) 18446744073709551616 with hf | hf
        · have e1 := wrap_grp M k hf
          rw [Nat.mul_comm k 7] at e1
          have e3 := or_add acc M k P.out.1 ha hf
          have e4 := acc_lt acc M k P.out.1 hk ha (by omega) hf
          obtain ⟨C, hC⟩ : ∃ C, acc + 128 ^ k * M = C := ⟨_, rfl⟩
          rw [hC] at e3 e4
          generalize M * 128 ^ k = Z at *
          have a3 := and1 C e4
          have HC := Lib.hid hC
          clear hC
          rcases Nat.lt_or_ge B 128 with hlo | hhi
          · have hMB : M = B := by omega
            subst hMB
            have hlo' : (M : Int) < 128 := by omega
            by_cases hb : 0 < k ∧ M = 0
            · obtain ⟨hk0, rfl⟩ := hb
              have HN : Hid (NoIL l) := Lib.hid (fun n t hn e => by
                have := ((pre_last P.out hlk (by rw [HBB.out]; exact hlo) _ _).1 e).1
                rw [HBB.out] at this
                omega)
              clear hM
              go_wp2_with fail
              go_ret3
              exact ⟨num_no l p HN.out, rfl⟩
            · have h0 : k = 0 ∨ 0 < M := by omega
              have NE := Lib.hid (num_end l p k acc M C hlk P.out HBB.out hlo h0 HC.out e4)
              obtain ⟨H, hH⟩ : ∃ H : Int, (C : Int) / 2 = H := ⟨_, rfl⟩
              have H0 : 0 ≤ H := by omega
              have H1 : H ≤ 9223372036854775807 := by omega
              have HE := Lib.hid (half_even C e4)
              have HO := Lib.hid (half_odd C e4)
              rw [hH] at HE HO
              have wH := IntWalk.wrap64_in H ⟨by omega, by omega⟩
              have hM9 : k = 9 → M ≤ 1 := fun h => by subst h; have := e4; have := HC.out; simp at this; omega
              have t0 : k ≠ 0 → ((M : Int) == 0) = false := fun h => beq_eq_false_iff_ne.2 (by omega)
              rcases Nat.mod_two_eq_zero_or_one C with hp2 | hp2
              · rw [hp2] at a3
                by_cases hk0 : k = 0
                · have hk0' : ¬ 0 < k := by omega
                  clear t0 hM9 hM hb h0 hk0
                  go_wp2_with fail
                  go_ret3
                  exact ⟨NE.out _ _ (HE.out hp2) (by omega), rfl⟩
                · have hk0' : (0 : Int) < k := by omega
                  have t0 := t0 hk0
                  by_cases hk9 : k = 9
                  · have hk9' : ((k : Int) == 9) = true := beq_iff_eq.2 (by omega)
                    have hMM : ¬ ((1 : Int) < M) := by have := hM9 hk9; omega
                    clear hM9 hM hb h0 hk9 hk0
                    go_wp2_with fail
                    go_ret3
                    exact ⟨NE.out _ _ (HE.out hp2) (by omega), rfl⟩
                  · have hk9' : ((k : Int) == 9) = false := beq_eq_false_iff_ne.2 (by omega)
                    clear hM9 hM hb h0
                    go_wp2_with fail
                    go_ret3
                    exact ⟨NE.out _ _ (HE.out hp2) (by omega), rfl⟩
              · rw [hp2] at a3
                by_cases hk0 : k = 0
                · have hk0' : ¬ 0 < k := by omega
                  clear t0 hM9 hM hb h0 hk0
                  go_wp2_with fail
                  go_ret3
                  exact ⟨NE.out _ _ (HO.out hp2) (by omega), rfl⟩
                · have hk0' : (0 : Int) < k := by omega
                  have t0 := t0 hk0
                  by_cases hk9 : k = 9
                  · have hk9' : ((k : Int) == 9) = true := beq_iff_eq.2 (by omega)
                    have hMM : ¬ ((1 : Int) < M) := by have := hM9 hk9; omega
                    clear hM9 hM hb h0 hk9 hk0
                    go_wp2_with fail
                    go_ret3
                    exact ⟨NE.out _ _ (HO.out hp2) (by omega), rfl⟩
                  · have hk9' : ((k : Int) == 9) = false := beq_eq_false_iff_ne.2 (by omega)
                    clear hM9 hM hb h0
                    go_wp2_with fail
                    go_ret3
                    exact ⟨NE.out _ _ (HO.out hp2) (by omega), rfl⟩
          · have hhi' : (128 : Int) ≤ B := by omega
            have HN := pre_succ P.out hlk (by rw [HBB.out]; exact hhi)
            rw [HBB.out, show B - 128 = M by omega, HC.out] at HN
            have HNC := Lib.hid HN
            clear HN hM
            by_cases hk9 : k = 9
            · subst hk9
              have HX : Hid (NoIL l) := Lib.hid (fun n t hn => pre_ten HNC.out _ _ (zz_lt n hn))
              go_wp2_with fail
              go_round
              case rel => exact Or.inr ⟨_, rfl, rfl, HX⟩
              case measure => simp [intOf]
            · go_wp2_with fail
              go_round
              case rel => exact Or.inl ⟨k + 1, C, by omega, by omega, rfl, by congr 1, HNC, e4⟩
              case measure => simp [intOf]; omega
        · have hk9 : k = 9 := by
            have : k = 0 ∨ k = 1 ∨ k = 2 ∨ k = 3 ∨ k = 4 ∨ k = 5 ∨ k = 6 ∨ k = 7 ∨ k = 8 ∨ k = 9 := by omega
            rcases this with rfl | rfl | rfl | rfl | rfl | rfl | rfl | rfl | rfl | rfl <;> first | rfl | (exfalso; simp at hf; omega)
          subst hk9
          have hM2 : 2 ≤ M := by simp at hf; omega
          have HX : Hid (NoIL l) := Lib.hid (fun n t hn => pre_big P.out hlk (by rw [HBB.out, hM, Nat.mul_comm]; exact hf) _ _ (zz_lt n hn))
          clear hf
          rcases Nat.lt_or_ge B 128 with hlo | hhi
          · have hMB : M = B := by omega
            subst hMB
            have hlo' : (M : Int) < 128 := by omega
            have hB1' : (1 : Int) < M := by omega
            have t0 : ((M : Int) == 0) = false := beq_eq_false_iff_ne.2 (by omega)
            clear hM
            go_wp2_with fail
            go_ret3
            exact ⟨num_no l p HX.out, rfl⟩
          · have hhi' : (128 : Int) ≤ B := by omega
            clear hM
            go_wp2_with fail
            go_round
            case rel => exact Or.inr ⟨_, rfl, rfl, HX⟩
            case measure => simp [intOf]
      · have HX : Hid (NoIL l) := Lib.hid (fun n t hn => pre_end P.out (by omega) _ _)
        have hk10 : (k : Int) < 10 := by omega
        have i1 : ¬ ((p : Int) + k < s.size) := by omega
        go_wp2_with fail
        go_ret3
        exact ⟨num_no l p HX.out, rfl⟩
    · go_wp2_with fail
      go_ret3
      exact ⟨num_no l p HN.out, rfl⟩
end Go.Proofs.Ytadnkofbgifliaa.Wr
