/-
  Layer 4 (bitmap): Parse.
-/
import Derived.Test.YtfkpodhkbcocmaaBmL
namespace Go.Proofs.Ytfkpodhkbcocmaa.Bm
open Go.RowKit
set_option maxHeartbeats 1000000 in
theorem Text_bad (W H : Int) (a : Option Addr) (n c : Nat) (hg : gd W H n = false) (w : World) :
    Calls Try.prog 14 #[bv W H a n c] w fun e w' => e = .returned (.string ⟨#[]⟩) ∧ Below w.heap.size w w' := by
  have C := Lib.hid (Check_any W H a n c)
  have hz := ck_zero W H n
  rw [hg] at hz
  generalize ck W H n = z at *
  have hz2 : ¬ z = 0 := fun h => by rw [h] at hz; cases hz
  unfold bv at *
  go_enter Try.func14, Try.ntmps14
  go_wp2_with fail
  refine (C.out _).mono ?_
  rintro e w1 ⟨rfl, hb1⟩
  have hB : Below w.heap.size w w1 := bt (ba (Below.refl _ _) _) hb1
  clear hb1
  go_wp2
  go_ret
  exact ⟨rfl, hB⟩
/-- The byte of a text that stands for a dot. -/
def pos (W H : Nat) (k : Nat) : Nat := (H - 1 - k / W) * (W + 1) + k % W
def pf (s : ByteArray) (W H : Nat) (k : Nat) : Bool := s.data.toList.getD (pos W H k) 0 == 35
def mix (f : Nat → Bool) (k : Nat) (i : Nat) : Bool := if i < k then f i else false
def PRel (w2 : World) (W H n : Nat) (b : Nat) (f : Nat → Bool) (r : Nat) (s28 : Value) (wr : World) : Prop :=
  ∃ k : Nat, k ≤ n ∧ s28 = .int .i64 k ∧ OB wr b n (mix f k) ∧ BoxAt wr w2.heap.size W H (some ⟨b, 0, none⟩) n n ∧ FR w2 wr (some ⟨b, 0, none⟩)
theorem pos_facts {W H n k : Nat} {s : ByteArray} (hW : 1 ≤ W ∧ W ≤ 96) (hH : H ≤ 96) (hn : n = W * H) (hk : k < n) (hs : H = s.size / (W + 1)) : ∃ x y q z : Nat, (k : Int).tmod W = x ∧ (k : Int).tdiv W = y ∧ (k : Int) % W = x ∧ (k : Int) / W = y ∧
    x ≤ 96 ∧ y < H ∧ RowKit.wrap64 (((H : Int) - 1 - y) * ((W : Int) + 1)) = (q : Nat) ∧ (q : Int) + x = z ∧ z < s.size ∧ pos W H k = z ∧ q ≤ 9312 := by
  have hy : k / W < H := Nat.div_lt_of_lt_mul (by rw [← hn]; exact hk)
  have hx : k % W < W := Nat.mod_lt _ (by omega)
  have i1 : (k : Int).tmod W = (k % W : Nat) := by rw [Int.tmod_eq_emod_of_nonneg (by omega), Int.natCast_emod]
  have i2 : (k : Int).tdiv W = (k / W : Nat) := by rw [Int.tdiv_eq_ediv_of_nonneg (by omega), Int.natCast_ediv]
  have i3 : (k : Int) % W = (k % W : Nat) := by rw [Int.natCast_emod]
  have i4 : (k : Int) / W = (k / W : Nat) := by rw [Int.natCast_ediv]
  unfold pos
  generalize k / W = y at *
  generalize k % W = x at *
  have h1 : (H - 1 - y + 1) * (W + 1) ≤ H * (W + 1) := Nat.mul_le_mul_right _ (by omega)
  have h2 : H * (W + 1) ≤ s.size := by rw [hs]; exact Nat.div_mul_le_self _ _
  have h3 : (H - 1 - y) * (W + 1) ≤ 96 * 97 := Nat.mul_le_mul (by omega) (by omega)
  rw [Nat.succ_mul] at h1
  refine ⟨x, y, (H - 1 - y) * (W + 1), (H - 1 - y) * (W + 1) + x, i1, i2, i3, i4, by omega, hy, ?_, by omega, by omega, rfl, by omega⟩
  have e0 : ((H : Int) - 1 - (y : Nat)) * ((W : Int) + 1) = ((H - 1 - y) * (W + 1) : Nat) := by
    rw [Int.natCast_mul, show ((H - 1 - y : Nat) : Int) = (H : Int) - 1 - (y : Nat) by omega]
    rfl
  rw [e0]; exact wrap_id ⟨by omega, by omega⟩
theorem str_ne {x y : ByteArray} (h : ¬ x = y) : (x.toList == y.toList) = false := by
  rw [ByteArray.toList_eq, ByteArray.toList_eq, beq_eq_false_iff_ne]
  intro e
  exact h (ByteArray.ext (Array.toList_inj.1 e))
theorem str_eq {x y : ByteArray} (h : x = y) : (x.toList == y.toList) = true := by subst h; exact beq_self_eq_true _
theorem str_dec (x y : ByteArray) : (x.toList == y.toList) = decide (x = y) := by
  by_cases h : x = y
  · rw [decide_eq_true h, str_eq h]
  · rw [decide_eq_false h, str_ne h]
theorem byte_is (s : ByteArray) (z : Nat) (h : z < s.size) : ((((s[z]'h).toNat : Nat) : Int) == 35) = (s.data.toList.getD z 0 == 35) := by
  have e : s.data.toList.getD z 0 = s[z]'h := by
    rw [List.getD_eq_getElem?_getD, Array.getElem?_toList, Array.getElem?_eq_getElem h]
    rfl
  rw [e]
  generalize s[z]'h = v
  rw [Bool.eq_iff_iff, beq_iff_eq, beq_iff_eq]
  constructor
  · intro h
    exact UInt8.toNat_inj.1 (by have : v.toNat = 35 := by omega
                                rw [this]; rfl)
  · rintro rfl; rfl
theorem prel_next {w2 wr : World} {W H n b k z r m : Nat} {s : ByteArray} (hz : z < s.size) (hpos : pos W H k = z) (hkn : k < n) (hfr : FR w2 wr (some ⟨b, 0, none⟩)) (hob : OB wr b n (mix (pf s W H) k)) (hbx : BoxAt wr w2.heap.size W H (some ⟨b, 0, none⟩) n n) (hb : b < w2.heap.size) :
    PRel w2 W H n b (pf s W H) r (.int .i64 ((k : Int) + 1)) ((wr.drewN m).setCell ⟨b, k, none⟩ (.bool ((((s[z]'hz).toNat : Nat) : Int) == 35))) ∧ n - (intOf (Value.int IntKind.i64 ((k : Int) + 1))).toNat < n - (intOf (Value.int IntKind.i64 (k : Int))).toNat := by
  have hB := bd (Below.refl wr.heap.size wr) m
  obtain ⟨h0, h1, h2⟩ := boxat_below hbx hB
  have hne : ¬ b = w2.heap.size := by omega
  refine ⟨⟨k + 1, by omega, by congr 1, ?_, ⟨by go_cell, by go_cell, by go_cell⟩, (hfr.below hB).set _⟩, by simp [intOf]; omega⟩
  refine ob_set (ob_below hob hB) hkn (fun i => ?_)
  rw [byte_is]
  unfold mix
  by_cases hik : i = k
  · subst hik
    rw [if_pos (by omega), if_pos rfl]
    unfold pf
    rw [hpos]
  · rw [if_neg hik]
    by_cases h : i < k
    · rw [if_pos h, if_pos (by omega)]
    · rw [if_neg h, if_neg (by omega)]
set_option maxRecDepth 100000 in
set_option maxHeartbeats 4000000 in
theorem Parse_main (s : ByteArray) (W H n : Nat) (hi : Lib.indexByte s.data.toList 10 = W) (hW : 1 ≤ W ∧ W ≤ 96) (hH : H ≤ 96) (hn : n = W * H) (hs : H = s.size / (W + 1)) (hsz : s.size ≤ 1000000) (w : World) :
    Calls Try.prog 24 #[.string s] w fun e w' =>
      (if tx W H (pf s W H) H = s.data.toList then ∃ b, e = .returned (.tuple #[bv W H (some ⟨b, 0, none⟩) n n, .bool true]) ∧ OB w' b n (pf s W H) ∧ (w.heap.size ≤ b ∧ b < w'.heap.size) else e = .returned (.tuple #[bv 0 0 none 0 0, .bool false])) ∧ Below w.heap.size w w' := by
  have I := Lib.hid (fun w => Try.strings_IndexByte s 10 w)
  have hi2 : Lib.indexByte s.data.toList (Int.toNat 10).toUInt8 = W := hi
  rw [hi2] at I
  have N := Lib.hid (New_yes W H n (by rw [Bool.and_eq_true, sd_iff, sd_iff]; omega) (by rw [hn]; simp))
  have PF := Lib.hid (fun k hk => pos_facts (k := k) (s := s) hW hH hn hk hs)
  have T := Lib.hid (fun a f w hD => Text_yes W H a n n f (by omega) hH hn (Nat.le_refl _) w hD)
  have hd1 : (s.size : Int).tdiv ((W : Int) + 1) = H := by rw [Int.tdiv_eq_ediv_of_nonneg (by omega), hs]; simp
  have hd2 : (s.size : Int) / ((W : Int) + 1) = H := by rw [hs]; simp
  have hw1 : ¬ (W : Int) + 1 = 0 := by omega
  have hw2 : ¬ (W : Int) < 1 := by omega
  have hiw : IntKind.i64.wrap (H : Int) = H := iwrap_id ⟨by omega, by omega⟩
  have hn9 : n ≤ 9216 := by rw [hn]; exact Nat.mul_le_mul hW.2 hH
  clear hi hi2
  have HN := Lib.hid hn
  have HS := Lib.hid hs
  clear hn hs
  unfold bv at *
  go_enter Try.func24, Try.ntmps24
  go_wp2_with fail
  refine (I.out _).mono ?_
  rintro e w1 ⟨rfl, rfl⟩
  go_wp2_with fail
  refine (N.out _).mono ?_
  rintro e w2 ⟨b, rfl, hob, ⟨hb0, hblt⟩, hb2⟩
  have r0 := kc hb2 (b := w.heap.size) (o := 0) (v := .int .i64 0) (by simp) (by go_cell)
  have r1 := kc hb2 (b := w.heap.size) (o := 1) (v := .int .i64 0) (by simp) (by go_cell)
  have r2 := kc hb2 (b := w.heap.size) (o := 2) (v := .slice none 0 0) (by simp) (by go_cell)
  have f0 := kf hb2 (b := w.heap.size) (o := 0) (v := false) (by simp) (by go_cell)
  have f1 := kf hb2 (b := w.heap.size) (o := 1) (v := false) (by simp) (by go_cell)
  have f2 := kf hb2 (b := w.heap.size) (o := 2) (v := false) (by simp) (by go_cell)
  have hB : Below w.heap.size w w2 := bt (ba (Below.refl _ _) _) hb2
  simp only [World.size_alloc] at hb0
  clear hb2
  have hBb := ba (Below.refl _ w2) (.cells #[.int .i64 W, .int .i64 H, .slice (some ⟨b, 0, none⟩) n n] 28)
  replace hob := ob_below hob hBb
  have hlt := block_lt_of_cell r0
  go_wp2_with fail
  go_loopw [28] (fun s28 wr => PRel w2 W H n b (pf s W H) w.heap.size s28 wr) (fun s28 _ => n - (intOf s28).toNat)
  case atStart =>
    exact ⟨0, by omega, rfl, ob_congr hob (fun i hi => by simp [mix]), ⟨by go_cell, by go_cell, by go_cell⟩, (FR.refl w2 _).below hBb⟩
  case round =>
    clear hob hBb
    obtain ⟨k, hk, rfl, hob, ⟨c0, c1, c2⟩, hfr⟩ := hrel
    rcases Nat.lt_or_ge k n with hkn | hkn
    · obtain ⟨x, y, q, z, i1, i2, i3, i4, hx, hy, hq, hqz, hqs, hpos, hq9⟩ := PF.out k hkn
      obtain ⟨hck, hfk⟩ := hob k hkn
      have hyw : IntKind.i64.wrap (y : Int) = y := iwrap_id ⟨by omega, by omega⟩
      have hW0 : ¬ (W : Int) = 0 := by omega
      have NX : Hid (∀ (hz : z < s.size) (_ : FR w2 wr (some ⟨b, 0, none⟩)) (_ : OB wr b n (mix (pf s W H) k)) {m : Nat}, PRel w2 W H n b (pf s W H) w.heap.size (.int .i64 ((k : Int) + 1)) ((wr.drewN m).setCell ⟨b, k, none⟩ (.bool ((((s[z]'hz).toNat : Nat) : Int) == 35))) ∧ n - (intOf (Value.int IntKind.i64 ((k : Int) + 1))).toNat < n - (intOf (Value.int IntKind.i64 (k : Int))).toNat) :=
        Lib.hid (fun hz hfr hob {m} => prel_next hz hpos hkn hfr hob ⟨c0, c1, c2⟩ (by omega))
      clear hpos hd1 hd2 hiw hw2
      go_wp2_with fail
      go_quiet (fail)
      go_wp2_with fail
      go_region
      go_wp2_with fail
      exact NX.out hqs hfr hob
    · have hkk : k = n := by omega
      subst hkk
      have hob2 : OB wr b k (pf s W H) := ob_congr hob (fun i hi => by unfold mix; rw [if_pos hi])
      have hlt2 : b < wr.heap.size := by have := hfr.size; omega
      have q0 := hfr.cell (b := w.heap.size) (o := 0) r0 (fun q e => by cases e; simp only; omega)
      have q1 := hfr.cell (b := w.heap.size) (o := 1) r1 (fun q e => by cases e; simp only; omega)
      have q2 := hfr.cell (b := w.heap.size) (o := 2) r2 (fun q e => by cases e; simp only; omega)
      have g0 := q0.2.trans f0
      have g1 := q1.2.trans f1
      have g2 := q2.2.trans f2
      replace q0 := q0.1
      replace q1 := q1.1
      replace q2 := q2.1
      have hB3 : Below w.heap.size w wr := hB.trans (hfr.to_below hB.size (fun q e => by cases e; simp only; omega))
      have TT := Lib.hid (T.out (some ⟨b, 0, none⟩) (pf s W H) wr (ob_da hob2))
      clear hfr hob f0 f1 f2 r0 r1 r2 hB hd1 hd2 hiw hw1 hw2
      have hbl : w.heap.size < b := by omega
      by_cases he : tx W H (pf s W H) H = s.data.toList
      · have hes : (⟨(tx W H (pf s W H) H).toArray⟩ : ByteArray) = s := by rw [he]
        rw [hes] at TT
        go_wp2_with fail
        refine (TT.out).mono ?_
        rintro e w4 ⟨rfl, hB4⟩
        have v0 := kc hB4 (block_lt_of_cell c0) c0
        have v1 := kc hB4 (block_lt_of_cell c1) c1
        have v2 := kc hB4 (block_lt_of_cell c2) c2
        replace g0 := kf hB4 (block_lt_of_cell q0) g0
        replace g1 := kf hB4 (block_lt_of_cell q1) g1
        replace g2 := kf hB4 (block_lt_of_cell q2) g2
        replace q0 := kc hB4 (block_lt_of_cell q0) q0
        replace q1 := kc hB4 (block_lt_of_cell q1) q1
        replace q2 := kc hB4 (block_lt_of_cell q2) q2
        replace hob2 := ob_below hob2 hB4
        have hlt4 := hB4.size
        replace hB3 := bt hB3 hB4
        go_wp2
        refine bodyPost_ret (v := .tuple #[.agg #[.int .i64 W, .int .i64 H, .slice (some ⟨b, 0, none⟩) k k], .bool true]) (by simp [results, Try.results24, go_sem, q0, q1, q2]) rfl ⟨?_, ?_⟩
        · exact ⟨b, rfl, ob_other (ob_other (ob_other hob2 (by omega)) (by omega)) (by omega), by omega, by simp; omega⟩
        · exact bs (bs (bs hB3 (by simp) _) (by simp) _) (by simp) _
      · have hes : ¬ (⟨(tx W H (pf s W H) H).toArray⟩ : ByteArray) = s := fun h => he (by
          have := congrArg (fun x : ByteArray => x.data.toList) h
          simpa using this)
        generalize ht : (⟨(tx W H (pf s W H) H).toArray⟩ : ByteArray) = t at *
        go_wp2_with fail
        refine (TT.out).mono ?_
        rintro e w4 ⟨rfl, hB4⟩
        replace g0 := kf hB4 (block_lt_of_cell q0) g0
        replace g1 := kf hB4 (block_lt_of_cell q1) g1
        replace g2 := kf hB4 (block_lt_of_cell q2) g2
        replace q0 := kc hB4 (block_lt_of_cell q0) q0
        replace q1 := kc hB4 (block_lt_of_cell q1) q1
        replace q2 := kc hB4 (block_lt_of_cell q2) q2
        replace hB3 := bt hB3 hB4
        have es1 := str_ne hes
        go_wp2
        refine bodyPost_ret (v := .tuple #[.agg #[.int .i64 0, .int .i64 0, .slice none 0 0], .bool false]) (by simp [results, Try.results24, go_sem, q0, q1, q2]) rfl ⟨?_, ?_⟩
        · rfl
        · exact bs (bs (bs hB3 (by simp) _) (by simp) _) (by simp) _
end Go.Proofs.Ytfkpodhkbcocmaa.Bm
