/-
  Layer 4 (bitmap): the document's Parse.
-/
import Derived.Test.YtfkpodhkbcocmaaBmFa
import Derived.Test.YtfkpodhkbcocmaaBmE1
namespace Go.Proofs.Ytfkpodhkbcocmaa.Bm
open Go.RowKit
/-- What the document's Parse answers. -/
def RP (s : ByteArray) (W : Nat) (w : World) (e : Ending) (w' : World) : Prop :=
  (∃ H b, PT s W H ∧ e = .returned (.tuple #[bv W H (some ⟨b, 0, none⟩) (W * H) (W * H), .bool true]) ∧ OB w' b (W * H) (pf s W H) ∧ Below w.heap.size w w') ∨
  ((∀ W' H', ¬ PT s W' H') ∧ e = .returned (.tuple #[bv 0 0 none 0 0, .bool false]) ∧ Below w.heap.size w w')
theorem zbox_new (w : World) : RZ (w.alloc (.cells #[.int .i64 0, .int .i64 0, .slice none 0 0] 28)) w.heap.size := ⟨⟨by go_cell, by go_cell, by go_cell⟩, by go_cell, by go_cell, by go_cell⟩
theorem rp_no {s : ByteArray} {W : Nat} {w w' : World} (h : ∀ W' H', ¬ PT s W' H') (hB : Below w.heap.size w w') : RP s W w (.returned (.tuple #[.agg #[.int .i64 0, .int .i64 0, .slice none 0 0], .bool false])) w' := .inr ⟨h, rfl, hB⟩
set_option maxRecDepth 100000 in
set_option maxHeartbeats 4000000 in
theorem rParse_short (s : ByteArray) (W : Nat) (hsz : s.size ≤ 1000000) (hW : W = s.size) (h2 : ∀ i, i < W → bb s i ≠ 10) (w : World) :
    Calls Try.prog 25 #[.string s] w (RP s W w) := by
  have NON : ∀ W' H', ¬ PT s W' H' := no_pt h2 (.inl hW) (by
    rcases Nat.eq_zero_or_pos W with h | h
    · exact .inl h
    · right; right; left
      rw [← hW, Nat.mod_eq_of_lt (by omega)]
      omega)
  have H2 := Lib.hid h2
  have HW := Lib.hid hW
  have NON := Lib.hid NON
  clear hW
  have hB0 : Below w.heap.size w (w.alloc (.cells #[.int .i64 0, .int .i64 0, .slice none 0 0] 28)) := ba (Below.refl _ _) _
  have rz := zbox_new w
  clear h2
  go_enter Try.func25, Try.ntmps25
  go_wp2_with fail
  generalize (w.alloc (.cells #[.int .i64 0, .int .i64 0, .slice none 0 0] 28)) = V0 at *
  go_loopw [4] (fun s4 V => ∃ k : Nat, k ≤ W ∧ s4 = .int .i64 k ∧ V = V0) (fun s4 _ => W - (intOf s4).toNat)
  case atStart => exact ⟨0, by omega, rfl, rfl⟩
  case round =>
    obtain ⟨k, hk, rfl, hV⟩ := hrel
    replace hV := hV.symm
    subst hV
    rcases Nat.lt_or_ge k W with hkW | hkW
    · have hks : k < s.size := by have := HW.out; omega
      have k1 : (0 : Int) ≤ (k : Int) := by omega
      have k2 : (k : Int) < (s.size : Int) := by omega
      have k3 : (k : Int) ≤ 1000000 := by omega
      have hch := bb_at s k hks
      have hne := H2.out k hkW
      generalize bb s k = z at *
      have hn2 : (z == 10) = false := beq_eq_false_iff_ne.2 hne
      go_wp2_with fail
      exact ⟨⟨k + 1, by omega, by congr 1, trivial⟩, by simp [intOf]; omega⟩
    · obtain rfl : k = W := by omega
      have k2 : ¬ (k : Int) < (s.size : Int) := by have := HW.out; omega
      have k3 : (k : Int) ≤ 1000000 := by have := HW.out; omega
      have hz : (s.size : Int).tmod ((k : Int) + 1) = k := by rw [← HW.out]; rw [Int.tmod_eq_emod_of_nonneg (by omega), Int.emod_eq_of_lt (by omega) (by omega)]
      have hz2 : (s.size : Int) % ((k : Int) + 1) = k := by rw [← HW.out]; rw [Int.emod_eq_of_lt (by omega) (by omega)]
      have hz3 : ¬ (k : Int) + 1 = 0 := by omega
      obtain ⟨⟨r0, r1, r2⟩, r3, r4, r5⟩ := rz
      clear hk hkW
      by_cases h0 : k = 0
      · subst h0
        have k2 : ¬ (0 : Int) < (s.size : Int) := by have := HW.out; omega
        clear k3 hz hz2 hz3
        go_wp2
        refine bodyPost_ret (v := .tuple #[.agg #[.int .i64 0, .int .i64 0, .slice none 0 0], .bool false]) (by simp [results, Try.results25, go_sem, r0, r1, r2]) rfl ?_
        exact rp_no NON.out (bs (bs (bs hB0 (Nat.le_refl _) _) (Nat.le_refl _) _) (Nat.le_refl _) _)
      · have h0' : ¬ (k : Int) = 0 := by omega
        have h0b : ((k : Int) == 0) = false := beq_eq_false_iff_ne.2 h0'
        by_cases h1 : (96 : Int) < (k : Int)
        · go_wp2
          refine bodyPost_ret (v := .tuple #[.agg #[.int .i64 0, .int .i64 0, .slice none 0 0], .bool false]) (by simp [results, Try.results25, go_sem, r0, r1, r2]) rfl ?_
          exact rp_no NON.out (bs (bs (bs hB0 (Nat.le_refl _) _) (Nat.le_refl _) _) (Nat.le_refl _) _)
        · go_wp2
          refine bodyPost_ret (v := .tuple #[.agg #[.int .i64 0, .int .i64 0, .slice none 0 0], .bool false]) (by simp [results, Try.results25, go_sem, r0, r1, r2]) rfl ?_
          exact rp_no NON.out (bs (bs (bs hB0 (Nat.le_refl _) _) (Nat.le_refl _) _) (Nat.le_refl _) _)
theorem rp_yes {s : ByteArray} {W H n b : Nat} {w w' : World} (h : PT s W H) (hn : n = W * H) (ho : OB w' b n (pf s W H)) (hB : Below w.heap.size w w') : RP s W w (.returned (.tuple #[.agg #[.int .i64 W, .int .i64 H, .slice (some ⟨b, 0, none⟩) n n], .bool true])) w' := by
  subst hn
  exact .inl ⟨H, b, h, rfl, ho, hB⟩
/-- What the rounds over all bytes leave. -/
structure FQ (s : ByteArray) (W H n : Nat) (w : World) (b Bo : Nat) (k : Nat) (V : World) : Prop where
  good : ∀ i, i < k → goodP s W i
  ob : OB V b n (fmix s W H k)
  bx : BoxAt V Bo W H (some ⟨b, 0, none⟩) n n
  rz : RZ V w.heap.size
  be : Below w.heap.size w V
  l1 : w.heap.size < b
  l2 : b < Bo
def FQR (s : ByteArray) (W H n : Nat) (w : World) (b Bo : Nat) (v : Value) (V : World) : Prop := ∃ k : Nat, k ≤ s.size ∧ v = .int .i64 k ∧ FQ s W H n w b Bo k V
theorem fq_below {s : ByteArray} {W H n : Nat} {w : World} {b Bo j : Nat} {V V' : World} (h : FQ s W H n w b Bo j V) (hB : Below V.heap.size V V') : FQ s W H n w b Bo j V' :=
  ⟨h.good, ob_below h.ob hB, boxat_below h.bx hB, rz_below h.rz hB, bt h.be hB, h.l1, h.l2⟩
theorem fqr_drew {s : ByteArray} {W H n : Nat} {w : World} {b Bo : Nat} {v : Value} {V : World} (h : FQR s W H n w b Bo v V) : FQR s W H n w b Bo v V.drew := by
  obtain ⟨k, h1, h2, h3⟩ := h
  exact ⟨k, h1, h2, fq_below h3 (bd1 (Below.refl _ _))⟩
theorem dot_in {k H n q0 x y : Nat} (hk : k ≤ 96) (hH : H ≤ 96) (hq : H - 1 - y = q0) (hy : y < H) (hx : x < k) (hn : n = k * H) : q0 * k ≤ 9216 ∧ q0 * k + x < n := by
  have h9 : q0 * k ≤ 96 * 96 := Nat.mul_le_mul (by omega) (by omega)
  have h8 : (q0 + 1) * k ≤ H * k := Nat.mul_le_mul_right _ (by omega)
  rw [Nat.succ_mul] at h8
  rw [Nat.mul_comm k H] at hn
  omega
theorem wr_at {z : Int} {m : Nat} (h : z = (m : Int)) (hm : m ≤ 10000) : RowKit.wrap64 z = (m : Int) ∧ IntKind.i64.wrap z = (m : Int) := by
  have e : RowKit.wrap64 z = (m : Int) := (congrArg RowKit.wrap64 h).trans (wrap_id ⟨by omega, by omega⟩)
  exact ⟨e, (IntWalk.i64_left _).trans e⟩
theorem dot_at {k H n q0 x y : Nat} (hk : k ≤ 96) (hH : H ≤ 96) (hq : H - 1 - y = q0) (hy : y < H) (hx : x < k) (hn : n = k * H) : ∃ q m0 : Nat, q0 * k + x = q ∧ (RowKit.wrap64 ((q0 : Int) * (k : Int)) = (m0 : Int) ∧ IntKind.i64.wrap ((q0 : Int) * (k : Int)) = (m0 : Int)) ∧ (RowKit.wrap64 ((m0 : Int) + (x : Int)) = (q : Int) ∧ IntKind.i64.wrap ((m0 : Int) + (x : Int)) = (q : Int)) ∧ q < n := by
  obtain ⟨a1, a2⟩ := dot_in hk hH hq hy hx hn
  exact ⟨q0 * k + x, q0 * k, rfl, wr_at (by rw [Int.natCast_mul]) (Nat.le_trans a1 (by decide)), wr_at (by rw [Int.natCast_add]) (by omega), a2⟩
theorem fqr_dot {s : ByteArray} {W H n : Nat} {w : World} {b Bo j q : Nat} {V : World} {v : Bool} (h : FQ s W H n w b Bo j V) (hn : n = W * H) (hj : j < s.size) (hW : 0 < W) (hx : j % (W + 1) < W) (hr : j / (W + 1) < H) (hq : q = (H - 1 - j / (W + 1)) * W + j % (W + 1)) (hv : (bb s j == 35) = v) (g : bb s j = 35 ∨ bb s j = 46) (hWH : W ≤ 96 ∧ H ≤ 96) :
    FQR s W H n w b Bo (.int .i64 ((j : Int) + 1)) (V.setCell ⟨b, q, none⟩ (.bool v)) := by
  have l1 := h.l1
  have l2 := h.l2
  have hqn : q < n := by
    obtain ⟨q', _, h1, _, _, h4⟩ := dot_at (k := W) (H := H) (q0 := H - 1 - j / (W + 1)) (x := j % (W + 1)) hWH.1 hWH.2 rfl hr hx hn
    exact (hq.trans h1).symm ▸ h4
  refine ⟨j + 1, by omega, by congr 1, fun i hi => ?_, ?_, ?_, ?_, bs h.be (by simp only; omega) _, l1, l2⟩
  · rcases Nat.lt_or_ge i j with h9 | h9
    · exact h.good i h9
    · obtain rfl : i = j := by omega
      unfold goodP
      rw [if_neg (Nat.ne_of_lt hx)]
      exact g
  · exact ob_congr (ob_set h.ob hqn (fun t => rfl)) (fun t ht => (fmix_dot hW hx hr hq hv (by rw [← hn]; exact ht)).symm)
  · obtain ⟨x0, x1, x2⟩ := h.bx
    have nb : ¬ b = Bo := by omega
    exact ⟨by go_cell, by go_cell, by go_cell⟩
  · obtain ⟨⟨r0, r1, r2⟩, r3, r4, r5⟩ := h.rz
    have nb : ¬ b = w.heap.size := by omega
    exact ⟨⟨by go_cell, by go_cell, by go_cell⟩, by go_cell, by go_cell, by go_cell⟩
theorem fqr_end {s : ByteArray} {W H n : Nat} {w : World} {b Bo j : Nat} {V : World} (h : FQ s W H n w b Bo j V) (hj : j < s.size) (hW : 0 < W) (hx : j % (W + 1) = W) (h10 : bb s j = 10) : FQR s W H n w b Bo (.int .i64 ((j : Int) + 1)) V :=
  ⟨j + 1, by omega, by congr 1, fun i hi => by
    rcases Nat.lt_or_ge i j with h9 | h9
    · exact h.good i h9
    · obtain rfl : i = j := by omega
      unfold goodP
      rw [if_pos hx]
      exact h10, ob_congr h.ob (fun i _ => (fmix_end hW hx).symm), h.bx, h.rz, h.be, h.l1, h.l2⟩
set_option maxRecDepth 100000 in
set_option maxHeartbeats 4000000 in
theorem rParse_core (s : ByteArray) (W : Nat) (hsz : s.size ≤ 1000000) (hW : W < s.size) (h2 : ∀ i, i < W → bb s i ≠ 10) (h3 : bb s W = 10) (w : World) :
    Calls Try.prog 25 #[.string s] w (RP s W w) := by
  have NO := Lib.hid (fun h => no_pt h2 (.inr h3) h)
  have H2 := Lib.hid h2
  have HW := Lib.hid hW
  have H3 := Lib.hid h3
  clear h3
  have hB0 : Below w.heap.size w (w.alloc (.cells #[.int .i64 0, .int .i64 0, .slice none 0 0] 28)) := ba (Below.refl _ _) _
  have rz := zbox_new w
  clear h2
  go_enter Try.func25, Try.ntmps25
  go_wp2_with fail
  generalize (w.alloc (.cells #[.int .i64 0, .int .i64 0, .slice none 0 0] 28)) = V0 at *
  go_loopw [4] (fun s4 V => ∃ k : Nat, k ≤ W ∧ s4 = .int .i64 k ∧ V = V0) (fun s4 _ => W - (intOf s4).toNat)
  case atStart => exact ⟨0, by omega, rfl, rfl⟩
  case round =>
    obtain ⟨k, hk, rfl, hV⟩ := hrel
    replace hV := hV.symm
    subst hV
    rcases Nat.lt_or_ge k W with hkW | hkW
    · have hks : k < s.size := by have := HW.out; omega
      have k1 : (0 : Int) ≤ (k : Int) := by omega
      have k2 : (k : Int) < (s.size : Int) := by omega
      have k3 : (k : Int) ≤ 1000000 := by omega
      have hch := bb_at s k hks
      have hne := H2.out k hkW
      generalize bb s k = z at *
      have hn2 : (z == 10) = false := beq_eq_false_iff_ne.2 hne
      go_wp2_with fail
      exact ⟨⟨k + 1, by omega, by congr 1, trivial⟩, by simp [intOf]; omega⟩
    · obtain rfl : k = W := by omega
      have k1 : (0 : Int) ≤ (k : Int) := by omega
      have k2 : (k : Int) < (s.size : Int) := by have := HW.out; omega
      have k3 : (k : Int) ≤ 1000000 := by omega
      have hch := bb_at s k HW.out
      rw [H3.out] at hch
      obtain ⟨m, hm⟩ : ∃ m, s.size % (k + 1) = m := ⟨_, rfl⟩
      obtain ⟨H, hH⟩ : ∃ H, s.size / (k + 1) = H := ⟨_, rfl⟩
      have hz : (s.size : Int).tmod ((k : Int) + 1) = m := by rw [← hm, Int.tmod_eq_emod_of_nonneg (by omega), Int.natCast_emod]; rfl
      have hz2 : (s.size : Int) % ((k : Int) + 1) = m := by rw [← hm, Int.natCast_emod]; rfl
      have hy : (s.size : Int).tdiv ((k : Int) + 1) = H := by rw [← hH, Int.tdiv_eq_ediv_of_nonneg (by omega), Int.natCast_ediv]; rfl
      have hy2 : (s.size : Int) / ((k : Int) + 1) = H := by rw [← hH, Int.natCast_ediv]; rfl
      have hz3 : ¬ (k : Int) + 1 = 0 := by omega
      have HM := Lib.hid hm
      have HH := Lib.hid hH
      have hHb : (H : Int) ≤ 1000000 := by have := Nat.div_le_self s.size (k + 1); omega
      clear hk hkW hW hm hH
      by_cases h0 : k = 0
      · have NON := Lib.hid (NO.out (.inl h0))
        clear NO H2 H3 HM HH
        subst h0
        obtain ⟨⟨r0, r1, r2⟩, r3, r4, r5⟩ := rz
        go_wp2
        refine bodyPost_ret (v := .tuple #[.agg #[.int .i64 0, .int .i64 0, .slice none 0 0], .bool false]) (by simp [results, Try.results25, go_sem, r0, r1, r2]) rfl ?_
        exact rp_no NON.out (bs (bs (bs hB0 (Nat.le_refl _) _) (Nat.le_refl _) _) (Nat.le_refl _) _)
      · have h0' : ¬ (k : Int) = 0 := by omega
        have h0b : ((k : Int) == 0) = false := beq_eq_false_iff_ne.2 h0'
        by_cases h1 : (96 : Int) < (k : Int)
        · have NON := Lib.hid (NO.out (.inr (.inl (by omega))))
          clear NO H2 H3 HM HH
          obtain ⟨⟨r0, r1, r2⟩, r3, r4, r5⟩ := rz
          go_wp2
          refine bodyPost_ret (v := .tuple #[.agg #[.int .i64 0, .int .i64 0, .slice none 0 0], .bool false]) (by simp [results, Try.results25, go_sem, r0, r1, r2]) rfl ?_
          exact rp_no NON.out (bs (bs (bs hB0 (Nat.le_refl _) _) (Nat.le_refl _) _) (Nat.le_refl _) _)
        · by_cases h2 : m = 0
          rotate_left
          · have NON := Lib.hid (NO.out (.inr (.inr (.inl (by rw [HM.out]; exact h2)))))
            have h2' : ¬ (m : Int) = 0 := by omega
            have h2b : ((m : Int) == 0) = false := beq_eq_false_iff_ne.2 h2'
            clear NO H2 H3 HM HH
            obtain ⟨⟨r0, r1, r2⟩, r3, r4, r5⟩ := rz
            go_wp2
            refine bodyPost_ret (v := .tuple #[.agg #[.int .i64 0, .int .i64 0, .slice none 0 0], .bool false]) (by simp [results, Try.results25, go_sem, r0, r1, r2]) rfl ?_
            exact rp_no NON.out (bs (bs (bs hB0 (Nat.le_refl _) _) (Nat.le_refl _) _) (Nat.le_refl _) _)
          · subst h2
            by_cases h3 : (96 : Int) < (H : Int)
            · have NON := Lib.hid (NO.out (.inr (.inr (.inr (.inl (by rw [HH.out]; omega))))))
              clear NO H2 H3 HM HH
              obtain ⟨⟨r0, r1, r2⟩, r3, r4, r5⟩ := rz
              go_wp2
              refine bodyPost_ret (v := .tuple #[.agg #[.int .i64 0, .int .i64 0, .slice none 0 0], .bool false]) (by simp [results, Try.results25, go_sem, r0, r1, r2]) rfl ?_
              exact rp_no NON.out (bs (bs (bs hB0 (Nat.le_refl _) _) (Nat.le_refl _) _) (Nat.le_refl _) _)
            · have HNF := Lib.hid (And.intro h1 h3)
              have HK0 := Lib.hid h0
              have hk6 : (1 ≤ k ∧ k ≤ 96) ∧ H ≤ 96 := by omega
              have hsz2 : s.size = H * (k + 1) := by
                have h9 := Nat.div_add_mod s.size (k + 1)
                rw [HM.out, HH.out, Nat.mul_comm, Nat.add_zero] at h9
                exact h9.symm
              have hH1 : 1 ≤ H := by
                rcases Nat.eq_zero_or_pos H with h | h
                · rw [h, Nat.zero_mul] at hsz2
                  have := HW.out
                  omega
                · exact h
              have HS := Lib.hid (And.intro hk6 (And.intro hsz2 hH1))
              obtain ⟨n, hn⟩ : ∃ n, n = k * H := ⟨_, rfl⟩
              have HN := Lib.hid hn
              have NW := Lib.hid (rNew_yes k H n (by rw [Bool.and_eq_true, sd_iff, sd_iff]; omega) (by rw [hn]; simp))
              have NO2 := Lib.hid (fun h => NO.out (.inr (.inr (.inr (.inr h)))))
              unfold bv at NW
              clear hsz2 hH1 hn NO H2 H3 HM HH hk6
              go_upto_region 6 with (fail)
              clear hch hz hz2 k2
              go_wp2_with fail
              with_reducible refine (NW.out _).mono ?_
              rintro e V2 ⟨b, rfl, ho, ⟨hb0, hb1⟩, hB2⟩
              have hBo := ba (Below.refl _ V2) (.cells #[.int .i64 k, .int .i64 H, .slice (some ⟨b, 0, none⟩) n n] 28)
              have hlt : w.heap.size < V0.heap.size := block_lt_of_cell rz.1.1
              have F0 : FQ s k H n w b V2.heap.size 0 (V2.alloc (.cells #[.int .i64 k, .int .i64 H, .slice (some ⟨b, 0, none⟩) n n] 28)) :=
                ⟨fun i hi => absurd hi (by omega), ob_congr (ob_below ho hBo) (fun i hi => by unfold fmix; rw [if_neg (by omega)]), ⟨by go_cell, by go_cell, by go_cell⟩, rz_below rz (bt hB2 hBo), bt hB0 (bt hB2 hBo), by omega, by omega⟩
              clear hBo ho rz hB0 NW hb0 hb1 hB2
              go_upto_region 7 with (fail)
              generalize (V2.alloc (.cells #[.int .i64 k, .int .i64 H, .slice (some ⟨b, 0, none⟩) n n] 28)) = V3 at *
              generalize V2.heap.size = Bo at *
              clear hlt
              go_wp2_with fail
              go_loopw [7] (fun s7 V => FQR s k H n w b Bo s7 V) (fun s7 _ => s.size - (intOf s7).toNat)
              case atStart => exact ⟨0, by omega, rfl, F0⟩
              case round =>
                clear F0
                obtain ⟨j, hj, rfl, F⟩ := hrel
                rename World => Vj
                rcases Nat.lt_or_ge j s.size with hjs | hjs
                · have hB := F.be
                  obtain ⟨⟨r0, r1, r2⟩, r3, r4, r5⟩ := F.rz
                  obtain ⟨x0, x1, x2⟩ := F.bx
                  have hch := bb_at s j hjs
                  have j1 : (0 : Int) ≤ (j : Int) := by omega
                  have j2 : (j : Int) < (s.size : Int) := by omega
                  have j3 : (j : Int) ≤ 1000000 := by omega
                  obtain ⟨⟨⟨s1, s2⟩, s3⟩, s4, s5⟩ := HS.out
                  have hyH := lt_div (W := k) (H := H) (i := j) (by omega)
                  have hxl := (div_parts (W := k) (i := j)).2
                  obtain ⟨x, hx⟩ : ∃ x, j % (k + 1) = x := ⟨_, rfl⟩
                  obtain ⟨y, hy⟩ : ∃ y, j / (k + 1) = y := ⟨_, rfl⟩
                  rw [hy] at hyH
                  rw [hx] at hxl
                  have hz : (j : Int).tmod ((k : Int) + 1) = x := by rw [← hx, Int.tmod_eq_emod_of_nonneg (by omega), Int.natCast_emod]; rfl
                  have hz2 : (j : Int) % ((k : Int) + 1) = x := by rw [← hx, Int.natCast_emod]; rfl
                  have hy1 : (j : Int).tdiv ((k : Int) + 1) = y := by rw [← hy, Int.tdiv_eq_ediv_of_nonneg (by omega), Int.natCast_ediv]; rfl
                  have hy2 : (j : Int) / ((k : Int) + 1) = y := by rw [← hy, Int.natCast_ediv]; rfl
                  have HX := Lib.hid hx
                  have HY := Lib.hid hy
                  have HF := Lib.hid F
                  clear hj hx hy F s4
                  have y96 : (y : Int) ≤ 96 := by omega
                  have x96 : (x : Int) ≤ 96 := by omega
                  obtain ⟨q0, hq0⟩ : ∃ q0 : Nat, H - 1 - y = q0 := ⟨_, rfl⟩
                  have hq1 : (H : Int) - 1 - (y : Int) = q0 := by omega
                  have hq2 : (q0 : Int) ≤ 96 := by omega
                  have HQ := Lib.hid hq0
                  clear hq0
                  go_upto_region 11 with (fail)
                  go_quiet (fail)
                  go_upto_region 12 with (fail)
                  have hbd : Below Vj.heap.size Vj (Vj.drewN nq) := bd (Below.refl _ _) nq
                  replace HF := Lib.hid (fq_below HF.out hbd)
                  clear r0 r1 r2 r3 r4 r5 x0 x1 x2 hbd hB
                  generalize Vj.drewN nq = Vk at *
                  obtain ⟨⟨r0, r1, r2⟩, r3, r4, r5⟩ := HF.out.rz
                  obtain ⟨x0, x1, x2⟩ := HF.out.bx
                  by_cases hxk : x = k
                  · subst hxk
                    obtain ⟨z, hz9⟩ : ∃ z, bb s j = z := ⟨_, rfl⟩
                    rw [hz9] at hch
                    by_cases h10 : z = 10
                    · subst h10
                      have R : Hid (FQR s x H n w b Bo (.int .i64 ((j : Int) + 1)) Vk) := Lib.hid (fqr_end HF.out hjs (by omega) HX.out hz9)
                      clear HF hz9 r0 r1 r2 r3 r4 r5
                      go_wp2_with fail
                      exact ⟨R.out, by simp [intOf]; omega⟩
                    · have h10' : (z == 10) = false := beq_eq_false_iff_ne.2 h10
                      have NON := Lib.hid (NO2.out (fun hg => h10 (by have h9 := hg j hjs; unfold goodP at h9; rw [HX.out, if_pos rfl, hz9] at h9; exact h9)))
                      have hBk := HF.out.be
                      clear hz9 HF
                      go_wp2
                      refine bodyPost_ret (v := .tuple #[.agg #[.int .i64 0, .int .i64 0, .slice none 0 0], .bool false]) (by simp [results, Try.results25, go_sem, r0, r1, r2]) rfl ?_
                      exact rp_no NON.out (bs (bs (bs hBk (Nat.le_refl _) _) (Nat.le_refl _) _) (Nat.le_refl _) _)
                  · have hxk2 : ¬ (x : Int) = (k : Int) := by omega
                    have hxk3 : ((x : Int) == (k : Int)) = false := beq_eq_false_iff_ne.2 hxk2
                    obtain ⟨z, hz9⟩ : ∃ z, bb s j = z := ⟨_, rfl⟩
                    rw [hz9] at hch
                    obtain ⟨q, m0, hq, ⟨e1, e1'⟩, ⟨e2, e2'⟩, hqn⟩ := dot_at s2 s3 HQ.out hyH (Nat.lt_of_le_of_ne (Nat.le_of_lt_succ hxl) hxk) HN.out
                    have u3 : (0 : Int) ≤ q := Int.natCast_nonneg q
                    have u4 : (q : Int) < n := Int.ofNat_lt.2 hqn
                    have hq9 : q = (H - 1 - j / (k + 1)) * k + j % (k + 1) := by rw [HX.out, HY.out, HQ.out, hq]
                    have NXT := Lib.hid (fun v hv g => fqr_dot (v := v) HF.out HN.out hjs s1 (by rw [HX.out]; exact Nat.lt_of_le_of_ne (Nat.le_of_lt_succ hxl) hxk) (by rw [HY.out]; exact hyH) hq9 hv g ⟨s2, s3⟩)
                    obtain ⟨ob1, ob2⟩ := HF.out.ob q hqn
                    have nb : ¬ b = Bo := by have := HF.out.l2; omega
                    have nb2 : ¬ b = w.heap.size := by have := HF.out.l1; omega
                    clear hq9 hq
                    by_cases h35 : z = 35
                    · subst h35
                      have R := Lib.hid (NXT.out true (by rw [hz9]; rfl) (.inl hz9))
                      clear NXT HF hz9 r0 r1 r2 r3 r4 r5
                      go_upto_region 17 with (fail)
                      go_region_with (fail)
                      all_goals
                        go_wp2_with fail
                        exact ⟨fqr_drew R.out, by simp [intOf]; omega⟩
                    · by_cases h46 : z = 46
                      · subst h46
                        have R := Lib.hid (NXT.out false (by rw [hz9]; rfl) (.inr hz9))
                        clear NXT HF hz9 r0 r1 r2 r3 r4 r5
                        go_upto_region 17 with (fail)
                        go_region_with (fail)
                        all_goals
                          go_wp2_with fail
                          exact ⟨fqr_drew R.out, by simp [intOf]; omega⟩
                      · have h35' : (z == 35) = false := beq_eq_false_iff_ne.2 h35
                        have h46' : (z == 46) = false := beq_eq_false_iff_ne.2 h46
                        have h35n : (z != 35) = true := by simp [bne, h35']
                        have h46n : (z != 46) = true := by simp [bne, h46']
                        have NON := Lib.hid (NO2.out (fun hg => by
                          have h9 := hg j hjs
                          unfold goodP at h9
                          rw [HX.out, if_neg hxk, hz9] at h9
                          omega))
                        have hBk := HF.out.be
                        clear hz9 HF NXT ob1 ob2
                        go_wp2
                        refine bodyPost_ret (v := .tuple #[.agg #[.int .i64 0, .int .i64 0, .slice none 0 0], .bool false]) (by simp [results, Try.results25, go_sem, r0, r1, r2]) rfl ?_
                        exact rp_no NON.out (bs (bs (bs hBk (Nat.le_refl _) _) (Nat.le_refl _) _) (Nat.le_refl _) _)
                · obtain rfl : j = s.size := by omega
                  obtain ⟨⟨⟨s1, s2⟩, s3⟩, s4, s5⟩ := HS.out
                  have hpt := pt_of ⟨s1, s2⟩ ⟨s5, s3⟩ s4 F.good
                  have hob : OB Vj b n (pf s k H) := ob_congr F.ob (fun i hi => fmix_all s4 (by rw [← HN.out]; exact hi))
                  obtain ⟨⟨r0, r1, r2⟩, r3, r4, r5⟩ := F.rz
                  obtain ⟨x0, x1, x2⟩ := F.bx
                  have nb := F.l1
                  have HE := Lib.hid F.be
                  have HP := Lib.hid hpt
                  have hpos : (0 : Int) < (s.size : Int) := by have := HW.out; omega
                  have hpn : 0 < s.size := by omega
                  clear s4 hpt F hj hjs NO2
                  go_wp2
                  refine bodyPost_ret (v := .tuple #[.agg #[.int .i64 k, .int .i64 H, .slice (some ⟨b, 0, none⟩) n n], .bool true]) (by simp [results, Try.results25, go_sem, r0, r1, r2, hpn]) rfl ?_
                  have nb2 : b ≠ w.heap.size := by omega
                  exact rp_yes HP.out HN.out (ob_other (ob_other (ob_other hob nb2) nb2) nb2) (bs (bs (bs HE.out (Nat.le_refl _) _) (Nat.le_refl _) _) (Nat.le_refl _) _)
end Go.Proofs.Ytfkpodhkbcocmaa.Bm
