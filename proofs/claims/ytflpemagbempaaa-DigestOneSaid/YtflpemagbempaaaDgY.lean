/-
  Layer 3 (digest): the law DigestOne, walked.
-/
import Derived.Test.YtflpemagbempaaaDgX
import Derived.Test.YtflpemagbempaaaDgU
namespace Go.Proofs.Ytflpemagbempaaa.Dg
open Go.RowKit
theorem xor_ne {a m : Nat} (hm : 1 ≤ m) : a ≠ a ^^^ m := by
  intro h
  have h2 : a ^^^ a = a ^^^ (a ^^^ m) := by rw [← h]
  rw [Nat.xor_self, ← Nat.xor_assoc, Nat.xor_self, Nat.zero_xor] at h2
  omega
theorem root_one (s : ByteArray) : B (lv (g0 [s]) (ht 1) 0) = B (leaf s) := by rw [ht1]; rfl
set_option maxRecDepth 100000 in
set_option maxHeartbeats 8000000 in
theorem lawOne_any (s0 : ByteArray) (at' c : Nat) (hs : s0.size ≤ 9223372036854775807) (hat : at' < 65536) (hc : c < 256) (w : World) :
    Calls Try.prog 5 #[.string s0, .int .u16 at', .int .u8 c] w fun e w' => e = .returned (.bool true) ∧ Below w.heap.size w w' := by
  have SA := Lib.hid sanity_any
  have C1 := Lib.hid (cut_any s0 hs)
  have z1 := cut200_size s0
  generalize cut200 s0 = s at *
  by_cases h0 : s.size = 0
  · have h1 : (s.size : Int) = 0 := by omega
    go_enter Try.func5, Try.ntmps5
    go_wp2_with fail
    refine (SA.out _).mono ?_
    rintro e w1 ⟨rfl, k1⟩
    go_wp2_with fail
    refine (C1.out _).mono ?_
    rintro e w2 ⟨rfl, rfl⟩
    go_wp2_with fail
    go_ret
    exact ⟨rfl, k1⟩
  · have h1 : ¬ (s.size : Int) = 0 := by omega
    have hk : at' % s.size < s.size := Nat.mod_lt _ (by omega)
    have hm2 : ((at' : Int)) % (s.size : Int) = ((at' % s.size : Nat) : Int) := by omega
    have hm3 : ((at' : Int)).tmod (s.size : Int) = ((at' % s.size : Nat) : Int) := by rw [Int.tmod_eq_emod_of_nonneg (by omega)]; omega
    generalize at' % s.size = k at *
    have k0 : (0 : Int) ≤ k := by omega
    have k1' : (k : Int) ≤ s.size := by omega
    have k1'' : (k : Int) < s.size := by omega
    have k2 : (0 : Int) ≤ (k : Int) + 1 := by omega
    have k3 : (k : Int) + 1 ≤ s.size := by omega
    have k4 : RowKit.wrap64 ((k : Int) + 1) = (k : Int) + 1 := wrapi _ (by omega) (by omega)
    have k5 : IntKind.i64.wrap ((k : Int) + 1) = (k : Int) + 1 := IntWalk.i64_in _ (by omega)
    have k6 : ((k : Int) + 1).toNat = k + 1 := by omega
    have hb : s[k].toNat < 256 := s[k].toNat_lt
    have hmx : max (c : Int) 1 = ((max c 1 : Nat) : Int) := by omega
    have hx256 : s[k].toNat ^^^ max c 1 < 256 := Nat.xor_lt_two_pow (n := 8) (by omega) (by omega)
    have hxr : bits .xor .u8 (s[k].toNat : Int) ((max c 1 : Nat) : Int) = ((s[k].toNat ^^^ max c 1 : Nat) : Int) := u8_xor_nat _ _ (by omega) (by omega)
    have hne : s[k].toNat ≠ s[k].toNat ^^^ max c 1 := xor_ne (by omega)
    have ON := one_ne s k (s[k].toNat ^^^ max c 1) hk hx256 hne
    have hcz := chg_size k ((s[k].toNat ^^^ max c 1 : Nat) : Int) s hk
    have hex : Hid (chg k ((s[k].toNat ^^^ max c 1 : Nat) : Int) s = s.extract 0 k ++ strOfNums [((s[k].toNat ^^^ max c 1 : Nat) : Int)] ++ s.extract (k + 1) s.size) := Lib.hid rfl
    have e1 := extract_size s 0 k (by omega)
    have e2 := extract_size s (k + 1) s.size (Nat.le_refl _)
    generalize hxx : ((s[k].toNat ^^^ max c 1 : Nat) : Int) = x at *
    have c1 := fun w => run_string_add_sum (P := Try.prog) (w := w) (s.extract 0 k) (strOfNums [x]) (by rw [e1, one_nums]; omega)
    have c2 := fun w => run_string_add_sum (P := Try.prog) (w := w) (s.extract 0 k ++ strOfNums [x]) (s.extract (k + 1) s.size) (by rw [size_append, e1, e2, one_nums]; omega)
    rw [hex.out] at ON hcz
    generalize s.extract 0 k ++ strOfNums [x] ++ s.extract (k + 1) s.size = ot at *
    obtain ⟨ne1, ne2, ne3, ne4⟩ := ON
    have n1 := str_ne ne1
    have n2 := str_ne ne2
    have n3 := str_ne ne3
    have n4 := str_ne ne4
    have A1' := Lib.hid (Of_any s (by omega))
    have A2' := Lib.hid (Of_any ot (by omega))
    have B1 := Lib.hid (Chain_any ⟨#[97]⟩ s (by decide) (by omega))
    have B2 := Lib.hid (Chain_any ⟨#[97]⟩ ot (by decide) (by omega))
    have M1 := Lib.hid (Mark_any ⟨#[97]⟩ s (by decide) (by omega))
    have M2 := Lib.hid (Mark_any ⟨#[97]⟩ ot (by decide) (by omega))
    have R1 := Lib.hid (fun W a (h : StrsAt W a [s]) => Root_any [s] a 1 1 rfl (by omega) (by intro y hy; rw [List.mem_singleton] at hy; subst hy; omega) W h)
    have R2 := Lib.hid (fun W a (h : StrsAt W a [ot]) => Root_any [ot] a 1 1 rfl (by omega) (by intro y hy; rw [List.mem_singleton] at hy; subst hy; omega) W h)
    rw [root_one] at R1 R2
    generalize D s = ds at *
    generalize D ot = dt at *
    generalize B (chain ⟨#[97]⟩ s) = cs at *
    generalize B (chain ⟨#[97]⟩ ot) = ct at *
    generalize B (mark ⟨#[97]⟩ s) = ms at *
    generalize B (mark ⟨#[97]⟩ ot) = mt at *
    generalize B (leaf s) = ls at *
    generalize B (leaf ot) = lt at *
    clear e1 e2 hne hx256 hxx hcz ne1 ne2 ne3 ne4 hex
    go_enter Try.func5, Try.ntmps5
    go_wp2_with fail
    refine (SA.out _).mono ?_
    rintro e w1 ⟨rfl, k1⟩
    go_wp2_with fail
    refine (C1.out _).mono ?_
    rintro e V ⟨rfl, rfl⟩
    clear SA C1
    rename World => V
    go_wp2_with fail
    have cvV : (convert 32 9 (.slice (some ⟨V.heap.size, 0, none⟩) 1 1)).run Try.prog (V.alloc (.cells #[.int .u8 x] 5)).drew = .ok (.string (strOfNums [x])) (V.alloc (.cells #[.int .u8 x] 5)).drew := conv1 V.drew x 5
    go_region_with (fail)
    all_goals
      have hE : Below w.heap.size w (V.alloc (.cells #[.int .u8 x] 5)).drew := bd1 (ba k1 _)
      go_wp2_with fail
      refine (A1'.out _).mono ?_
      rintro e w10 ⟨rfl, k10⟩
      replace k10 : Below w.heap.size w w10 := bt hE k10
      clear hE
      go_wp2_with fail
      refine (A2'.out _).mono ?_
      rintro e w11 ⟨rfl, k11⟩
      replace k11 : Below w.heap.size w w11 := bt k10 k11
      clear k10
      go_wp2_with fail
      refine (B1.out _).mono ?_
      rintro e w12 ⟨rfl, k12⟩
      replace k12 : Below w.heap.size w w12 := bt k11 k12
      clear k11
      go_wp2_with fail
      refine (B2.out _).mono ?_
      rintro e w13 ⟨rfl, k13⟩
      replace k13 : Below w.heap.size w w13 := bt k12 k13
      clear k12
      go_wp2_with fail
      refine (M1.out _).mono ?_
      rintro e w14 ⟨rfl, k14⟩
      replace k14 : Below w.heap.size w w14 := bt k13 k14
      clear k13
      go_wp2_with fail
      refine (M2.out _).mono ?_
      rintro e w15 ⟨rfl, k15⟩
      replace k15 : Below w.heap.size w w15 := bt k14 k15
      clear k14
      go_wp2_with fail
      refine (R1.out _ _ (strs1 (by go_cell))).mono ?_
      rintro e w16 ⟨rfl, k16⟩
      replace k16 : Below w.heap.size w w16 := bt (ba k15 _) k16
      clear k15
      go_wp2_with fail
      refine (R2.out _ _ (strs1 (by go_cell))).mono ?_
      rintro e w17 ⟨rfl, k17⟩
      replace k17 : Below w.heap.size w w17 := bt (ba k16 _) k17
      clear k16
      go_wp2_with fail
      go_ret
      exact ⟨rfl, k17⟩
end Go.Proofs.Ytflpemagbempaaa.Dg
