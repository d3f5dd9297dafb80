/-
  Layer 2 (wire): the serializations of the document's own functions.
-/
import Derived.Test.YtadnkofbgifliaaWrP
namespace Go.Proofs.Ytadnkofbgifliaa.Wr
open Go.RowKit

theorem infoB : (Try.prog.info? 5).map (fun i => (i.zero, i.size, i.bytes)) = some (some (.int .u8 0), 1, 1) := by kernel_rfl
theorem and127 (d : Nat) (h : d < 18446744073709551616) : bits .and .u64 (d : Int) 127 = ((d % 128 : Nat) : Int) := by
  have h := bits_mask .u64 64 (by decide) wraps_u64 7 (by decide) (d : Int) (by omega) (by omega)
  simpa using h
def grpV (c k : Nat) : List Value := (List.range k).map fun j => Value.int .u8 (grp c j)
theorem grpV_succ (c k : Nat) : grpV c (k + 1) = grpV c k ++ [.int .u8 (grp c k)] := by unfold grpV; rw [List.range_succ, List.map_append]; rfl
def RefRel (w : World) (c : Nat) (s3 s4 : Value) (wr : World) : Prop :=
  ∃ k d : Nat, k ≤ 9 ∧ Hid (d = c / 128 ^ k) ∧ Hid (∀ j, j < k → 128 ≤ c / 128 ^ j) ∧ s3 = .int .u64 d ∧ wr.ownsRow w.heap.size 5 1 s4 k (grpV c k) ∧ Below w.heap.size w wr
theorem nums_map (c k : Nat) : (nums c k).map (Value.int .u8) = grpV c k ++ [.int .u8 ((c / 128 ^ k : Nat) : Int)] := by
  unfold nums grpV; rw [List.map_append, List.map_map]; rfl

/-- A slice of the call's own bytes, as a string. -/
theorem own_string (W : World) (B : Nat) (v : Value) (c k : Nat) (h : W.ownsRow B 5 1 v (k + 1) ((nums c k).map (Value.int .u8))) (hg : ∀ j, j < k → 128 ≤ c / 128 ^ j) (hk : c / 128 ^ k < 128) (n : Int) (hs : strI n = ⟨(encN c).toArray⟩) :
    (convert 31 9 v).run Try.prog W = .ok (.string (strI n)) W := by
  rcases h.2 with ⟨_, h0⟩ | ⟨g, cap, cur, hv, _⟩
  · omega
  · subst hv
    have := run_convert_bytes_arg (P := Try.prog) W 31 5 Try.underlying31 Try.underlying5 g 0 (k + 1) cap (nums c k) (nums_length c k) (fun i hi => by
      rw [Nat.zero_add, h.cellAt i (by omega), List.getElem?_map, List.getD_eq_getElem?_getD]
      have : i < (nums c k).length := by rw [nums_length]; exact hi
      rw [List.getElem?_eq_getElem this]; rfl) 9 Try.underlying9
    rw [this, nums_enc c k hg hk, hs]

set_option maxRecDepth 100000 in
set_option maxHeartbeats 4000000 in
theorem ref_int (n : Int) (h : inI n) (w : World) :
    Calls Try.prog 13 #[.int .i64 n] w fun e w' => e = .returned (.string (strI n)) ∧ Below w.heap.size w w' := by
  have hc := zz_lt n h
  obtain ⟨hn0, hn1⟩ := h
  have T : Hid (strI n = ⟨(encN (zz n)).toArray⟩) := Lib.hid rfl
  have Zn : n < 0 → bits .xor .u64 IntKind.u64.max (IntKind.u64.wrap (IntKind.u64.wrap n * 2)) = ((zz n : Nat) : Int) := fun q => by rw [zz_lib]; exact Lib.zigzag_neg hn0 q
  have Zp : 0 ≤ n → n * 2 = ((zz n : Nat) : Int) := fun q => by rw [zz_lib]; exact (Lib.zigzag_nonneg q).symm
  have HZ := Lib.hid (And.intro Zn Zp)
  clear Zn Zp
  obtain ⟨i0, hi, hz0, hz1, hz2⟩ := info_parts infoB
  have KI := Lib.hid (And.intro hi (And.intro hz0 (And.intro hz1 hz2)))
  clear hi hz0 hz1 hz2
  generalize zz n = c at *
  rcases Int.lt_or_le n 0 with hn | hn
  all_goals
    first
    | have Z := HZ.out.1 hn
    | have Z := HZ.out.2 hn
    go_enter Try.func13, Try.ntmps13
    go_wp2_with fail
    (try rw [Z])
    clear Z
    go_loopw [3, 4] (fun s3 s4 wr => RefRel w c s3 s4 wr) (fun s3 _ _ => (intOf s3).toNat)
    case atStart =>
      exact ⟨0, c, by omega, Lib.hid (by simp), Lib.hid (fun j hj => by omega), rfl, World.ownsRow_nil _ _ _ _, Below.refl _ _⟩
    case round =>
      obtain ⟨k, d, hk, hd, hg, rfl, hown, hB⟩ := hrel
      have hsz := hB.size
      have hk8 : 128 ≤ d → k ≤ 8 := fun hge => by
        rcases Nat.lt_or_ge 8 k with h | h
        · have : k = 9 := by omega
          subst this
          have h9 := hd.out
          have : c / 128 ^ 9 < 128 := by rw [Nat.div_lt_iff_lt_mul (by decide)]; omega
          omega
        · exact h
      rcases Nat.lt_or_ge d 128 with hlt | hge
      · clear hk8
        have hdi : (d : Int) < 128 := by omega
        go_wp2_with (at_builtin; refine wpList_append_own _ rfl _ _ 31 rfl w.heap.size 5 i0 (.int .u8 0) 1 1 Try.underlying31 KI.out.1 KI.out.2.1 KI.out.2.2.1 KI.out.2.2.2 rfl (by decide) _ _ _ rfl (hown.alloc _) ⟨wr.heap.size, 0, none⟩ 1 1 [.int .u8 (d : Int)] rfl rfl ?c1 ?c2 ?c3 ?c4 ?c5 ?_)
        case c1 =>
          intro j u hj
          match j, hj with
          | 0, hj => simp at hj; subst hj; simp [Addr.add]
        case c2 => intro u hu; simp at hu; subst hu; rfl
        case c3 => unfold maxLen; omega
        case c4 => omega
        case c5 => simp; omega
        intro v' w3 hown' hgrow _
        have hB3 : Below w.heap.size w w3 := (hB.alloc (by omega) _).grown hgrow (by simp; omega) (fun g hg => (hown.lt g hg).1)
        have e1 : grpV c k ++ [.int .u8 (d : Int)] = (nums c k).map (Value.int .u8) := by rw [nums_map, hd.out]
        rw [e1] at hown'
        have hconv := own_string w3 w.heap.size v' c k hown' hg.out (by rw [← hd.out]; exact hlt) n T.out
        clear hown hown' hgrow e1 hB
        go_wp2_with fail
        go_ret
        exact ⟨rfl, hB3⟩
      · have hk8' := hk8 hge
        have hdi : (127 : Int) < d := by omega
        clear hk8
        have e127 : bits .and .u64 (d : Int) 127 = ((d % 128 : Nat) : Int) := and127 d (by have := hd.out; have : c / 128 ^ k ≤ c := Nat.div_le_self _ _; omega)
        have hm : d % 128 < 128 := Nat.mod_lt _ (by omega)
        have hgr : d % 128 + 128 = grp c k := by unfold grp; rw [← hd.out]
        have HGR := Lib.hid hgr
        clear hgr
        generalize d % 128 = m at *
        go_wp2_with (at_builtin; refine wpList_append_own _ rfl _ _ 31 rfl w.heap.size 5 i0 (.int .u8 0) 1 1 Try.underlying31 KI.out.1 KI.out.2.1 KI.out.2.2.1 KI.out.2.2.2 rfl (by decide) _ _ _ rfl (hown.alloc _) ⟨wr.heap.size, 0, none⟩ 1 1 [.int .u8 ((m : Int) + 128)] rfl rfl ?d1 ?d2 ?d3 ?d4 ?d5 ?_)
        case d1 =>
          intro j u hj
          match j, hj with
          | 0, hj => simp at hj; subst hj; simp [Addr.add]
        case d2 => intro u hu; simp at hu; subst hu; rfl
        case d3 => unfold maxLen; omega
        case d4 => omega
        case d5 => simp; omega
        intro v' w3 hown' hgrow _
        have hB3 : Below w.heap.size w w3 := (hB.alloc (by omega) _).grown hgrow (by simp; omega) (fun g hg => (hown.lt g hg).1)
        have e1 : grpV c k ++ [.int .u8 ((m : Int) + 128)] = grpV c (k + 1) := by rw [grpV_succ, ← HGR.out]; rfl
        rw [e1] at hown'
        have R : Hid (RefRel w c (.int .u64 ((d : Int) / 128)) v' w3) := Lib.hid ⟨k + 1, d / 128, by omega, Lib.hid (by rw [hd.out, Nat.div_div_eq_div_mul, Nat.pow_succ]), Lib.hid (fun j hj => by
            rcases Nat.lt_or_eq_of_le (Nat.le_of_lt_succ hj) with h | h
            · exact hg.out j h
            · rw [h, ← hd.out]; exact hge), by congr 1, hown', hB3⟩
        clear hown hown' hgrow e1 hB
        go_wp2_with fail
        go_roundw
        case rel => exact R.out
        case measure => simp [intOf]; omega
end Go.Proofs.Ytadnkofbgifliaa.Wr
