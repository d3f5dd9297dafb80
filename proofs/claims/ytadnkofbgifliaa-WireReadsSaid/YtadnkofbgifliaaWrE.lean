/-
  Layer 2 (wire): a reader's integer.
-/
import Derived.Test.YtadnkofbgifliaaWrD
import Derived.WalkMore
import Derived.Outline
namespace Go.Proofs.Ytadnkofbgifliaa.Wr
open Go.RowKit

def inI (n : Int) : Prop := -9223372036854775808 ≤ n ∧ n ≤ 9223372036854775807
/-- What reading an integer answers and leaves. -/
def RInt (s : ByteArray) (bad : Bool) (b : Nat) (w : World) (e : Ending) (w' : World) : Prop :=
  (∃ n t, inI n ∧ s.data.toList = encI n ++ t ∧ e = .returned (.int .i64 n) ∧ RS w' b ⟨t.toArray⟩ bad ∧ w.grownBy w' (some b)) ∨
    ((∀ n t, inI n → s.data.toList ≠ encI n ++ t) ∧ e = .returned (.int .i64 0) ∧ RS w' b empty true ∧ w.grownBy w' (some b))

theorem pow7 (k : Nat) : 2 ^ (k * 7) = 128 ^ k := by rw [Nat.mul_comm, Nat.pow_mul]
theorem pow7i (k : Nat) : (2 : Int) ^ (k * 7) = ((128 ^ k : Nat) : Int) := by rw [← pow7]; simp
theorem wrap_grp (g k : Nat) (h : g * 128 ^ k < 18446744073709551616) : IntKind.u64.wrap ((g : Int) * 2 ^ (k * 7)) = ((g * 128 ^ k : Nat) : Int) := by
  rw [pow7i, ← Int.natCast_mul, IntKind.wrap_u64]; omega
theorem grp_fits (g k : Nat) (h : g * 128 ^ k < 18446744073709551616) : (((g * 128 ^ k : Nat) : Int) / 2 ^ (k * 7) != (g : Int)) = false := by
  rw [pow7i, ← Int.natCast_ediv, Nat.mul_div_cancel _ (Nat.pow_pos (by omega))]; simp
theorem grp_big (g k : Nat) (hk : k ≤ 9) (hg : g < 128) (h : 18446744073709551616 ≤ g * 128 ^ k) : (IntKind.u64.wrap ((g : Int) * 2 ^ (k * 7)) / 2 ^ (k * 7) != (g : Int)) = true := by
  have h9 : k = 9 := by
    rcases Nat.lt_or_ge k 9 with h9 | h9
    · have h8 : 128 ^ k ≤ 128 ^ 8 := Nat.pow_le_pow_right (by omega) (by omega)
      have : g * 128 ^ k ≤ 127 * 128 ^ 8 := Nat.mul_le_mul (by omega) h8
      omega
    · omega
  subst h9
  rw [bne_iff_ne, pow7i, IntKind.wrap_u64]
  intro e
  omega
theorem or_add (acc g k : Nat) (ha : acc < 128 ^ k) (hm : acc < 18446744073709551616) (h : g * 128 ^ k < 18446744073709551616) : bits .or .u64 (acc : Int) ((g * 128 ^ k : Nat) : Int) = ((acc + 128 ^ k * g : Nat) : Int) := by
  rw [u64_or_nat _ _ hm h]
  congr 1
  rw [Nat.or_comm, Nat.mul_comm, ← pow7, ← Nat.two_pow_add_eq_or_of_lt (by rw [pow7]; exact ha)]
  omega
theorem or_zero (acc : Nat) (hm : acc < 18446744073709551616) : bits .or .u64 (acc : Int) 0 = (acc : Int) := by
  have := u64_or_nat acc 0 hm (by omega)
  simpa using this
theorem wrap_zero : IntKind.u64.wrap 0 = 0 := by rw [IntKind.wrap_u64]; rfl

theorem size_list (s : ByteArray) : s.size = s.data.toList.length := by rw [Array.length_toList]; rfl
theorem get_list (s : ByteArray) (k : Nat) (h : k < s.size) : s[k] = s.data.toList[k]'(by rw [← size_list]; exact h) := by rw [Array.getElem_toList]; rfl
theorem extract_list (s : ByteArray) (k : Nat) : s.extract k s.size = ⟨(s.data.toList.drop k).toArray⟩ := by
  apply ByteArray.ext
  apply Array.toList_inj.1
  rw [Lib.extract_data]
  simp only [List.toList_toArray]
  rw [List.take_of_length_le (by rw [List.length_drop, size_list]; omega)]

/-- A frame of n slots whose first one is known. -/
def JF (n : Nat) (p : Value) (a : Act) : Prop := a.defers = [] ∧ a.tmps.size = n ∧ a.tmps.getD 0 undef = p
set_option maxRecDepth 100000 in
set_option maxHeartbeats 2000000 in
theorem fr60 (p : Value) (a : Act) (h : JF 60 p a) : ∃ u1 u2 u3 u4 u5 u6 u7 u8 u9 u10 u11 u12 u13 u14 u15 u16 u17 u18 u19 u20 u21 u22 u23 u24 u25 u26 u27 u28 u29 u30 u31 u32 u33 u34 u35 u36 u37 u38 u39 u40 u41 u42 u43 u44 u45 u46 u47 u48 u49 u50 u51 u52 u53 u54 u55 u56 u57 u58 u59 : Value, a = { tmps := #[p, u1, u2, u3, u4, u5, u6, u7, u8, u9, u10, u11, u12, u13, u14, u15, u16, u17, u18, u19, u20, u21, u22, u23, u24, u25, u26, u27, u28, u29, u30, u31, u32, u33, u34, u35, u36, u37, u38, u39, u40, u41, u42, u43, u44, u45, u46, u47, u48, u49, u50, u51, u52, u53, u54, u55, u56, u57, u58, u59], defers := [] } := by
  obtain ⟨⟨l⟩, d⟩ := a
  obtain ⟨h1, h2, h3⟩ := h
  simp only at h1 h2 h3
  subst h1
  have h2' : l.length = 60 := h2
  clear h2
  iterate 60 (rcases l with _ | ⟨x, l⟩; (· simp at h2'); simp only [List.length_cons, Nat.add_right_cancel_iff] at h2')
  have : l = [] := List.eq_nil_of_length_eq_zero (by omega)
  subst this
  have h3' : _ = p := h3
  subst h3'
  exact ⟨_, _, _, _, _, _, _, _, _, _, _, _, _, _, _, _, _, _, _, _, _, _, _, _, _, _, _, _, _, _, _, _, _, _, _, _, _, _, _, _, _, _, _, _, _, _, _, _, _, _, _, _, _, _, _, _, _, _, _, rfl⟩

def NoI (s : ByteArray) : Prop := ∀ n t, inI n → s.data.toList ≠ encI n ++ t

theorem acc_lt (acc g k : Nat) (ha : acc < 128 ^ k) (hk : k ≤ 9) (hm : acc < 18446744073709551616) (hg : g < 128) (h : g * 128 ^ k < 18446744073709551616) : acc + 128 ^ k * g < 18446744073709551616 := by
  have : k = 0 ∨ k = 1 ∨ k = 2 ∨ k = 3 ∨ k = 4 ∨ k = 5 ∨ k = 6 ∨ k = 7 ∨ k = 8 ∨ k = 9 := by omega
  rcases this with rfl | rfl | rfl | rfl | rfl | rfl | rfl | rfl | rfl | rfl <;> simp at * <;> omega

/-- What is read at a last byte. -/
theorem rint_end (s : ByteArray) (bad : Bool) (b : Nat) (w : World) (k acc B : Nat) (hk : k < s.size) (P : Pre s.data.toList k acc) (hB : (s.data.toList[k]'(by rw [← size_list]; exact hk)).toNat = B) (h128 : B < 128) (h0 : k = 0 ∨ 0 < B) (hc : acc + 128 ^ k * B < 18446744073709551616) (W : World) (hR : RS w b s bad) (hW : W = w.setCell ⟨b, 0, none⟩ (.string (s.extract (k + 1) s.size))) :
    RInt s bad b w (.returned (.int .i64 (un (acc + 128 ^ k * B)))) W := by
  refine Or.inl ⟨un (acc + 128 ^ k * B), s.data.toList.drop (k + 1), un_bd _ hc, ?_, rfl, ?_, ?_⟩
  · unfold encI
    rw [zz_un]
    exact (pre_last P (by rw [← size_list]; exact hk) (by rw [hB]; exact h128) _ _).2 ⟨by rw [hB]; exact h0, by rw [hB], rfl⟩
  · obtain ⟨h0, h1, f0, f1⟩ := hR
    rw [hW, extract_list]
    exact ⟨sc_same h0 _, by rw [sc_off _ (by omega)]; exact h1, by rw [sc_fz]; exact f0, by rw [sc_fz]; exact f1⟩
  · rw [hW]; exact gs (gr _ _) _

set_option maxRecDepth 100000 in
set_option maxHeartbeats 4000000 in
theorem rint_any (b : Nat) (s : ByteArray) (bad : Bool) (w : World) (h : RS w b s bad) (hs : s.size ≤ 140737488355327) :
    Calls Try.prog 22 #[.pointer (some ⟨b, 0, none⟩)] w fun e w' => RInt s bad b w e w' := by
  have L := Lib.hid (left_any b s bad w h)
  have FA := Lib.hid (fail_any b s bad w h)
  have HS := Lib.hid h
  obtain ⟨h0, h1, f0, f1⟩ := h
  go_enter Try.func22, Try.ntmps22
  go_wp2_with fail
  refine wp_scope_jumps 0 (fun a' w' => w' = w ∧ NoI s ∧ JF 60 (.pointer (some ⟨b, 0, none⟩)) a') (fun _ _ => 0) rfl ?_ ?_
  · go_wp2_with fail
    refine L.out.mono ?_
    rintro e w1 ⟨rfl, rfl⟩
    clear L
    go_wp2_with fail
    go_loop [3, 11] (fun s3 s11 => ∃ k acc : Nat, k ≤ min s.size 10 ∧ s3 = .int .u64 acc ∧ s11 = .int .i64 k ∧ Hid (Pre s.data.toList k acc) ∧ acc < 18446744073709551616) (fun _ s11 => 10 - (intOf s11).toNat)
    case atStart => exact ⟨0, 0, by omega, rfl, rfl, Lib.hid (pre_zero _), by omega⟩
    case round =>
      obtain ⟨k, acc, hk, rfl, rfl, P, ha⟩ := hrel
      rcases Nat.lt_or_ge k (min s.size 10) with hlt | hge
      · have hk0 : k < s.size := by omega
        have hk9 : k ≤ 9 := by omega
        obtain ⟨B, hB⟩ : ∃ B, s[k].toNat = B := ⟨_, rfl⟩
        have hB1 : B < 256 := by rw [← hB]; exact s[k].toNat_lt
        have HL : Hid ((s.data.toList[k]'(by rw [← size_list]; exact hk0)).toNat = B) := Lib.hid (by rw [← hB, get_list s k hk0])
        have cB : ((B % 128 : Nat) : Int) = (B : Int) % 128 := by omega
        rcases Nat.lt_or_ge (B % 128 * 128 ^ k) 18446744073709551616 with hf | hf
        · have e1 := wrap_grp (B % 128) k hf
          have e2 := grp_fits (B % 128) k hf
          have e3 := or_add acc (B % 128) k P.out.1 ha hf
          have e4 := acc_lt acc (B % 128) k P.out.1 hk9 ha (by omega) hf
          rw [cB] at e1 e2
          generalize hM : B % 128 * 128 ^ k = M at *
          have HM := Lib.hid hM
          clear hM cB
          rcases Nat.lt_or_ge B 128 with hlo | hhi
          · have hm : B % 128 = B := Nat.mod_eq_of_lt hlo
            rw [hm] at e3 e4
            have hlo' : (B : Int) < 128 := by omega
            by_cases hz : B = 0
            · have hz' : ((B : Int) == 0) = true := by rw [beq_iff_eq]; omega
              subst hz
              by_cases hk1 : k = 0
              · have hk1' : ¬ 0 < k := by omega
                have ha0 := P.out.1
                rw [hk1, Nat.pow_zero] at ha0
                have N := Lib.hid (number_any (acc + 128 ^ k * 0) e4)
                have R := Lib.hid (fun W => rint_end s bad b w k acc 0 hk0 P.out HL.out hlo (Or.inl hk1) e4 W HS.out)
                rw [Nat.mul_zero, Nat.add_zero] at N R
                have oz := or_zero acc ha
                have wz := wrap_zero
                clear e1 e2 e3 hf HM hk1 ha0 hz'
                go_wp2_with fail
                refine (N.out _).mono ?_
                rintro e w3 ⟨rfl, rfl⟩
                have RR := Lib.hid (R.out _ rfl)
                clear R
                go_wp2_with fail
                simp only [Exit.jump]
                go_ret
                exact RR.out
              · have hk1' : 0 < k := by omega
                have HN : Hid (NoI s) := Lib.hid (fun n t hn e => by
                  have := ((pre_last P.out (by rw [← size_list]; exact hk0) (by rw [HL.out]; exact hlo) _ _).1 e).1
                  rw [HL.out] at this
                  omega)
                have wz := wrap_zero
                clear e1 e2 e3 hf HM hk1 hz'
                go_wp2_with fail
                go_step3
                exact ⟨rfl, rfl, HN.out, rfl, rfl, rfl⟩
            · have hz' : ((B : Int) == 0) = false := by rw [beq_eq_false_iff_ne]; omega
              have N := Lib.hid (number_any (acc + 128 ^ k * B) e4)
              have R := Lib.hid (fun W => rint_end s bad b w k acc B hk0 P.out HL.out hlo (Or.inr (by omega)) e4 W HS.out)
              generalize hC : acc + 128 ^ k * B = C at *
              clear hC
              go_wp2_with fail
              refine (N.out _).mono ?_
              rintro e w3 ⟨rfl, rfl⟩
              have RR := Lib.hid (R.out _ rfl)
              clear R
              go_wp2_with fail
              simp only [Exit.jump]
              go_ret
              exact RR.out
          · have hhi' : (128 : Int) ≤ B := by omega
            have HN := pre_succ P.out (by rw [← size_list]; exact hk0) (by rw [HL.out]; exact hhi)
            rw [HL.out, show B - 128 = B % 128 by omega] at HN
            generalize hC : acc + 128 ^ k * (B % 128) = C at *
            have HNC := Lib.hid HN
            clear hC HN
            go_wp2_with fail
            go_round
            case rel => exact ⟨k + 1, C, by omega, rfl, by congr 1, HNC, e4⟩
            case measure => simp [intOf]; omega
        · have e1 := grp_big (B % 128) k hk9 (by omega) hf
          rw [cB] at e1
          have HN : Hid (NoI s) := Lib.hid (fun n t hn => pre_big P.out (by rw [← size_list]; exact hk0) (by rw [HL.out, Nat.mul_comm]; exact hf) _ _ (zz_lt n hn))
          go_wp2_with fail
          go_step3
          exact ⟨rfl, rfl, HN.out, rfl, rfl, rfl⟩
      · have HN : Hid (NoI s) := Lib.hid (fun n t hn => by
          rcases Nat.lt_or_ge k s.data.toList.length with q | q
          · have : k = 10 := by rw [← size_list] at q; omega
            subst this
            exact pre_ten P.out _ _ (zz_lt n hn)
          · exact pre_end P.out q _ _)
        go_wp2_with fail
        go_step3
        go_wp2_with fail
        refine FA.out.mono ?_
        rintro e w3 ⟨rfl, hR, hG⟩
        have RR : Hid (RInt s bad b w (.returned (.int .i64 0)) w3) := Lib.hid (Or.inr ⟨HN.out, rfl, hR, hG⟩)
        clear hR hG
        go_wp2_with fail
        simp only [Exit.jump]
        go_ret
        exact RR.out
  · rintro a' w' ⟨rfl, hN, hJ⟩
    obtain ⟨u1,u2,u3,u4,u5,u6,u7,u8,u9,u10,u11,u12,u13,u14,u15,u16,u17,u18,u19,u20,u21,u22,u23,u24,u25,u26,u27,u28,u29,u30,u31,u32,u33,u34,u35,u36,u37,u38,u39,u40,u41,u42,u43,u44,u45,u46,u47,u48,u49,u50,u51,u52,u53,u54,u55,u56,u57,u58,u59, rfl⟩ := fr60 _ _ hJ
    have HN := Lib.hid hN
    clear hN hJ
    go_wp2_with fail
    refine FA.out.mono ?_
    rintro e w3 ⟨rfl, hR, hG⟩
    have RR : Hid (RInt s bad b w' (.returned (.int .i64 0)) w3) := Lib.hid (Or.inr ⟨HN.out, rfl, hR, hG⟩)
    clear hR hG
    go_wp2_with fail
    simp only [Exit.jump]
    go_ret
    exact RR.out
end Go.Proofs.Ytadnkofbgifliaa.Wr
