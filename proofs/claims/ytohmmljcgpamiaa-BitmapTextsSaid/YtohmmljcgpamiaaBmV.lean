/-
  Layer 4 (bitmap): BitmapTexts walked.
-/
import Derived.Test.YtohmmljcgpamiaaBmU
import Derived.Deep.RegionHeld3
namespace Go.Proofs.Ytohmmljcgpamiaa.Bm
open Go.RowKit
/-- An element of a list of bitmaps. -/
def LitB (V : World) (Bl k : Nat) : Prop := ∃ (W H b n : Nat) (f : Nat → Bool), W ≤ 16 ∧ H ≤ 12 ∧ n = W * H ∧ n ≤ 192 ∧ V.cell? ⟨Bl, k * 3, none⟩ = some (.int .i64 W) ∧ V.cell? ⟨Bl, k * 3 + 1, none⟩ = some (.int .i64 H) ∧ V.cell? ⟨Bl, k * 3 + 2, none⟩ = some (.slice (some ⟨b, 0, none⟩) n n) ∧ OB V b n f
theorem litb_below {V V' : World} {Bl k : Nat} (h : LitB V Bl k) (hB : Below V.heap.size V V') : LitB V' Bl k := by
  obtain ⟨W, H, b, n, f, h1, h2, hn, hn2, h3, h4, h5, h6⟩ := h
  exact ⟨W, H, b, n, f, h1, h2, hn, hn2, kc hB (block_lt_of_cell h3) h3, kc hB (block_lt_of_cell h4) h4, kc hB (block_lt_of_cell h5) h5, ob_below h6 hB⟩
/-- What the rounds over a first row leave. -/
def TopRel (W : Nat) (V5 : World) (s14 : Value) (V : World) : Prop := ∃ i : Nat, i ≤ W ∧ s14 = .int .i64 i ∧ Below V5.heap.size V5 V
def TxRel (w : World) (Bl : Nat) (s33 : Value) (V : World) : Prop := ∃ k : Nat, k ≤ 2 ∧ s33 = .int .i64 k ∧ LitB V Bl 0 ∧ LitB V Bl 1 ∧ Below w.heap.size w V
theorem txrel_next {w V V' : World} {Bl k : Nat} (hk : k < 2) (h0 : LitB V Bl 0) (h1 : LitB V Bl 1) (hB : Below w.heap.size w V) (hB' : Below V.heap.size V V') : TxRel w Bl (.int .i64 ((k : Int) + 1)) V' :=
  ⟨k + 1, by omega, by congr 1, litb_below h0 hB', litb_below h1 hB', bt hB hB'⟩
theorem toprel_next {W : Nat} {V5 V' : World} {i : Nat} (hi : i < W) (hB : Below V5.heap.size V5 V') : TopRel W V5 (.int .i64 ((i : Int) + 1)) V' := ⟨i + 1, by omega, by congr 1, hB⟩
theorem sm_yes {W H : Int} {n : Nat} {f g : Nat → Bool} (h : ∀ i, i < n → f i = g i) : sm W H n f W H n g = true := by
  unfold sm eqd
  rw [decide_eq_true rfl, decide_eq_true rfl, decide_eq_true ⟨rfl, h⟩]; rfl
theorem len_wrap {W H : Nat} (hW : W ≤ 16) (hH : H ≤ 12) : RowKit.wrap64 (((W : Int) + 1) * H) = (H * (W + 1) : Nat) := by
  have e : ((W : Int) + 1) * H = (H * (W + 1) : Nat) := by rw [Int.natCast_mul, Int.mul_comm]; rfl
  have h : H * (W + 1) ≤ 12 * 17 := Nat.mul_le_mul hH (by omega)
  rw [e]; exact wrap_id ⟨by omega, by omega⟩
set_option maxRecDepth 100000 in
set_option maxHeartbeats 4000000 in
theorem Texts_any (aA : Option Addr) (nA cA : Nat) (la : Nat → Int) (aB : Option Addr) (nB cB : Nat) (lb : Nat → Int) (q l0 l1 l2 l3 : Int) (hA : nA ≤ 9223372036854775807) (hB : nB ≤ 9223372036854775807) (hq : R64 q) (s : ByteArray) (hs : s.size ≤ 9223372036854775807) (w : World)
    (hDA : LA w aA nA la) (hla : ∀ i, i < nA → R64 (la i)) (hDB : LA w aB nB lb) (hlb : ∀ i, i < nB → R64 (lb i)) :
    Calls Try.prog 6 #[caseV aA nA cA aB nB cB q l0 l1 l2 l3, .string s] w fun e w' => e = .returned (.bool true) ∧ Below w.heap.size w w' := by
  have BM := Lib.hid (fun w h1 h2 => bitmaps_any aA nA cA la aB nB cB lb q l0 l1 l2 l3 hA hB hq w h1 hla h2 hlb)
  have HA := Lib.hid hDA
  have HB := Lib.hid hDB
  have SA := Lib.hid sanity_any
  have i1 := md_in nA la
  have i2 := md_in nB lb
  have I1 := Lib.hid i1
  have I2 := Lib.hid i2
  clear hDA hDB hla hlb i1 i2
  have m0 : (0 : Int) ≤ min (s.size : Int) 300 := by omega
  have m1 : min (s.size : Int) 300 ≤ (s.size : Int) := by omega
  unfold caseV at *
  go_enter Try.func6, Try.ntmps6
  go_wp2_with fail
  refine (SA.out _).mono ?_
  rintro e V1 ⟨rfl, hB1⟩
  have h0 : Below w.heap.size w V1 := bt (ba (Below.refl _ _) _) hB1
  have c0 : V1.cell? ⟨w.heap.size, 0, none⟩ = some (.slice aA nA cA) := kc hB1 (by simp) (by go_cell)
  have c1 : V1.cell? ⟨w.heap.size, 1, none⟩ = some (.slice aB nB cB) := kc hB1 (by simp) (by go_cell)
  have c2 : V1.cell? ⟨w.heap.size, 2, none⟩ = some (.int .i64 q) := kc hB1 (by simp) (by go_cell)
  have c3 : V1.cell? ⟨w.heap.size, 3, none⟩ = some (.int .i64 l0) := kc hB1 (by simp) (by go_cell)
  have c4 : V1.cell? ⟨w.heap.size, 4, none⟩ = some (.int .i64 l1) := kc hB1 (by simp) (by go_cell)
  have c5 : V1.cell? ⟨w.heap.size, 5, none⟩ = some (.int .i64 l2) := kc hB1 (by simp) (by go_cell)
  have c6 : V1.cell? ⟨w.heap.size, 6, none⟩ = some (.int .i64 l3) := kc hB1 (by simp) (by go_cell)
  clear hB1
  go_wp2_with fail
  refine (BM.out _ (la_below HA.out h0) (la_below HB.out h0)).mono ?_
  rintro e V2 ⟨ba', bb, W', H', g, n, c, f, rfl, hoa, hob, hDO, hRW, hRH, hn, hc, hB2⟩
  replace h0 := bt h0 hB2
  clear hB2 c0 c1 c2 c3 c4 c5 c6 hDO hRW hRH hn hc
  unfold bv
  go_wp2_with fail
  obtain ⟨t, ht⟩ : ∃ t, s.extract 0 (min (s.size : Int) 300).toNat = t := ⟨_, rfl⟩
  have ht3 : t.size ≤ 300 := by rw [← ht, ByteArray.size_extract]; omega
  rw [ht]
  clear ht m0 m1
  have ha0 : V2.cell? ⟨0, 0, none⟩ = V2.cell? ⟨0, 0, none⟩ := rfl
  clear ha0
  go_loopw [33] (fun s33 V => TxRel w (V2.heap.size + 1 + 1 + 1) s33 V) (fun s33 _ => 2 - (intOf s33).toNat)
  case atStart =>
    refine ⟨0, by omega, rfl, ?_, ?_, ba (ba (ba (ba h0 _) _) _) _⟩
    · exact ⟨mdW nA la, mdH nA la, ba', mdN nA la, mdF nA la, I1.out.1, I1.out.2.1, rfl, I1.out.2.2, by go_cell, by go_cell, by go_cell, ob_below hoa (ba (ba (ba (ba (Below.refl _ _) _) _) _) _)⟩
    · exact ⟨mdW nB lb, mdH nB lb, bb, mdN nB lb, mdF nB lb, I2.out.1, I2.out.2.1, rfl, I2.out.2.2, by go_cell, by go_cell, by go_cell, ob_below hob (ba (ba (ba (ba (Below.refl _ _) _) _) _) _)⟩
  case round =>
    clear hoa hob h0
    obtain ⟨k, hk, rfl, L0, L1, hBV⟩ := hrel
    rename World => V
    rcases Nat.lt_or_ge k 2 with hk2 | hk2
    · have hL : LitB V (V2.heap.size + 1 + 1 + 1) k := by
        obtain rfl | rfl : k = 0 ∨ k = 1 := by omega
        · exact L0
        · exact L1
      obtain ⟨W, H, b, n, f, hW, hH, hn, hn2, e0, e1, e2, ho⟩ := hL
      have HN := Lib.hid hn
      clear hn
      have TX := Lib.hid (fun w hD => Text_yes W H (some ⟨b, 0, none⟩) n n f (by omega) (by omega) HN.out (Nat.le_refl _) w hD)
      have hsz := tx_size W H f
      have TW := Lib.hid (len_wrap hW hH)
      have htb : H * (W + 1) ≤ 12 * 17 := Nat.mul_le_mul hH (by omega)
      have PTY := Lib.hid (fun h1 h2 => pt_tx (W := W) (H := H) f ⟨h1, by omega⟩ ⟨h2, by omega⟩)
      have PTN := Lib.hid (no_tx (W := W) (H := H) f)
      have TOP := Lib.hid (fun i hi hH h => tx_top (W := W) (H := H) (i := i) f hi hH h)
      have PF := Lib.hid (fun k hk => pf_tx (W := W) (H := H) (k := k) (s := ⟨(tx W H f H).toArray⟩) (f := f) (by simp) hk)
      generalize (⟨(tx W H f H).toArray⟩ : ByteArray) = tt at *
      rw [← hsz] at TW htb
      have ht6 : tt.size ≤ 1000000 := by omega
      have SZ0 := Lib.hid (fun (h : 1 ≤ H) => show W ≤ tt.size by rw [hsz]; exact Nat.le_trans (Nat.le_succ W) (Nat.le_mul_of_pos_left _ h))
      clear hsz htb
      unfold bv at TX
      have hBx := ba (Below.refl _ V) (.cells #[.int .i64 W, .int .i64 H, .slice (some ⟨b, 0, none⟩) n n] 28)
      have y0 : (V.alloc (.cells #[.int .i64 W, .int .i64 H, .slice (some ⟨b, 0, none⟩) n n] 28)).cell? ⟨V.heap.size, 0, none⟩ = some (.int .i64 W) := by go_cell
      have y1 : (V.alloc (.cells #[.int .i64 W, .int .i64 H, .slice (some ⟨b, 0, none⟩) n n] 28)).cell? ⟨V.heap.size, 1, none⟩ = some (.int .i64 H) := by go_cell
      have y2 : (V.alloc (.cells #[.int .i64 W, .int .i64 H, .slice (some ⟨b, 0, none⟩) n n] 28)).cell? ⟨V.heap.size, 2, none⟩ = some (.slice (some ⟨b, 0, none⟩) n n) := by go_cell
      replace ho := ob_below ho hBx
      go_wp2_with fail
      clear e0 e1 e2
      refine (TX.out _ (ob_da ho)).mono ?_
      rintro e V3 ⟨rfl, hB3⟩
      obtain ⟨y0, y1, y2⟩ := k3 hB3 ⟨y0, y1, y2⟩
      replace ho := ob_below ho hB3
      replace hBx := bt hBx hB3
      clear hB3 TX
      by_cases hc : 1 ≤ W ∧ 1 ≤ H
      · obtain ⟨hW1, hH1⟩ := hc
        have PY := Lib.hid (Parse_yes tt W H n (PTY.out hW1 hH1) HN.out ht6)
        clear PTY PTN
        unfold bv at PY
        go_wp2_with fail
        refine (PY.out _).mono ?_
        rintro e V4 ⟨b', rfl, ho', _, hB4⟩
        obtain ⟨y0, y1, y2⟩ := k3 hB4 ⟨y0, y1, y2⟩
        replace ho := ob_below ho hB4
        replace hBx := bt hBx hB4
        clear hB4 PY
        have hBy := ba (Below.refl _ V4) (.cells #[.int .i64 W, .int .i64 H, .slice (some ⟨b', 0, none⟩) n n] 28)
        have hlt4 := block_lt_of_cell y0
        have SM := Lib.hid (fun w h1 h2 => Same_any W H (some ⟨b, 0, none⟩) n n f W H (some ⟨b', 0, none⟩) n n (pf tt W H) (by omega) w h1 h2)
        rw [sm_yes (fun i hi => (PF.out i (by rw [← HN.out]; exact hi)).symm)] at SM
        unfold bv at SM
        have tw := TW.out
        clear PF TW
        have SZ := Lib.hid (SZ0.out hH1)
        clear SZ0
        go_wp2_with fail
        refine (SM.out _ (da_below (ob_da ho) hBy) (da_below (ob_da ho') hBy)).mono ?_
        rintro e V5 ⟨rfl, hB5⟩
        replace hB5 := bt hBy hB5
        obtain ⟨y0, y1, y2⟩ := k3 hB5 ⟨y0, y1, y2⟩
        replace ho := ob_below ho hB5
        replace hBx := bt hBx hB5
        have hlt5 := block_lt_of_cell y0
        clear hBy hlt4 hB5 SM ho' tw
        have DA5 := Lib.hid (ob_da ho)
        clear ho
        go_wp2_with fail
        go_loopw [14] (fun s14 Vx => TopRel W V5 s14 Vx) (fun s14 _ => W - (intOf s14).toNat)
        case atStart => exact ⟨0, by omega, rfl, Below.refl _ _⟩
        case round =>
          obtain ⟨i, hi, rfl, hBi⟩ := hrel
          rename World => Vx
          obtain ⟨y0, y1, y2⟩ := k3 hBi ⟨y0, y1, y2⟩
          rcases Nat.lt_or_ge i W with hiW | hiW
          · have GT := Lib.hid (fun w hD => Get_any W H (some ⟨b, 0, none⟩) n n f i ((H : Int) - 1) w hD)
            rw [HN.out, has_top f (by omega) (by omega) hiW hH1, ← HN.out] at GT
            have hi9 : i < tt.size := Nat.lt_of_lt_of_le hiW SZ.out
            have TB := Lib.hid (TOP.out i hiW hH1 hi9)
            have DX := Lib.hid (da_below DA5.out hBi)
            generalize f ((H - 1) * W + i) = fv at *
            have hch : (((tt[i]'hi9).toNat : Int) == 35) = fv := by rw [TB.out]; cases fv <;> rfl
            unfold bv at GT
            have R : Hid (∀ V', Below Vx.heap.size Vx V' → TopRel W V5 (.int .i64 ((i : Int) + 1)) V') := Lib.hid (fun V' h => toprel_next hiW (bt hBi h))
            have y0' : ∀ w', Below Vx.heap.size Vx w' → w'.cell? ⟨V.heap.size, 0, none⟩ = some (.int .i64 W) := fun _ h => kc h (block_lt_of_cell y0) y0
            have y1' : ∀ w', Below Vx.heap.size Vx w' → w'.cell? ⟨V.heap.size, 1, none⟩ = some (.int .i64 H) := fun _ h => kc h (block_lt_of_cell y1) y1
            have y2' : ∀ w', Below Vx.heap.size Vx w' → w'.cell? ⟨V.heap.size, 2, none⟩ = some (.slice (some ⟨b, 0, none⟩) n n) := fun _ h => kc h (block_lt_of_cell y2) y2
            have j0 : (0 : Int) ≤ i := by omega
            have j1 : (i : Int) < tt.size := by omega
            have j2 : IntKind.i64.wrap ((H : Int) - 1) = (H : Int) - 1 := iwrap_id ⟨by omega, by omega⟩
            go_wp2_with fail
            clear y0 y1 y2
            go_region_held3 (fun w' => Below Vx.heap.size Vx w') (first
              | (with_reducible exact bd1 (Below.refl _ _))
              | (with_reducible exact bt (by assumption) hba)
              | (with_reducible assumption))
              (((with_reducible refine (GT.out _ (da_below DX.out (by with_reducible assumption))).mono ?_); rintro en wa ⟨rfl, hba⟩; have hbw : Below Vx.heap.size Vx wa := bt (by with_reducible assumption) hba))
            all_goals
              have R2 := Lib.hid (R.out wa hbw)
              clear R y0' y1' y2' hba
              go_wp2_with fail
              refine ⟨?_, ?_⟩
              · first
                  | exact R2.out
                  | ((repeat apply Exists.intro)
                     exact ⟨R2.out, rfl⟩)
              · first
                  | (simp [intOf]; done)
                  | (simp [intOf]; omega)
          · obtain rfl : i = W := by omega
            have R : Hid (TxRel w (V2.heap.size + 1 + 1 + 1) (.int .i64 ((k : Int) + 1)) Vx) := Lib.hid (txrel_next hk2 L0 L1 hBV (bt hBx hBi))
            clear L0 L1 hBx hBi
            go_wp2_with fail
            refine ⟨?_, ?_⟩
            · first
                | exact R.out
                | ((repeat apply Exists.intro)
                   exact ⟨R.out, rfl⟩)
            · first
                | (simp [intOf]; done)
                | (simp [intOf]; omega)
      · have PN := Lib.hid (Parse_no tt (PTN.out (by omega)) ht6)
        have cs : ¬ 0 < W ∨ (0 < W ∧ ¬ 0 < H) := by omega
        clear PTY PTN PF TOP SZ0 hc
        unfold bv at PN
        have SM := Lib.hid (fun w => Same_any 0 0 none 0 0 (fun _ => false) 0 0 none 0 0 (fun _ => false) (by omega) w (fun i hi => absurd hi (by omega)) (fun i hi => absurd hi (by omega)))
        rw [sm_yes (fun i hi => absurd hi (by omega))] at SM
        unfold bv at SM
        have tw := TW.out
        clear TW
        go_wp2_with fail
        refine (PN.out _).mono ?_
        rintro e V4 ⟨rfl, hB4⟩
        obtain ⟨y0, y1, y2⟩ := k3 hB4 ⟨y0, y1, y2⟩
        replace hBx := bt hBx hB4
        clear hB4 PN ho
        have hBy := ba (Below.refl _ V4) (.cells #[.int .i64 0, .int .i64 0, .slice none 0 0] 28)
        have hlt4 := block_lt_of_cell y0
        rcases cs with hW0 | ⟨hW0, hH0⟩
        · go_wp2_with fail
          refine (SM.out _).mono ?_
          rintro e V5 ⟨rfl, hB5⟩
          replace hB5 := bt hBy hB5
          obtain ⟨y0, y1, y2⟩ := k3 hB5 ⟨y0, y1, y2⟩
          replace hBx := bt hBx hB5
          clear hBy hlt4 hB5 SM tw
          have R : Hid (TxRel w (V2.heap.size + 1 + 1 + 1) (.int .i64 ((k : Int) + 1)) V5) := Lib.hid (txrel_next hk2 L0 L1 hBV hBx)
          clear L0 L1 hBx
          go_wp2_with fail
          go_loopw [14] (fun s14 Vx => s14 = .int .i64 0 ∧ Vx = V5) (fun s14 _ => 1 - (intOf s14).toNat)
          case atStart => exact ⟨rfl, rfl⟩
          case round =>
            obtain ⟨rfl, rfl⟩ := hrel
            go_wp2_with fail
            refine ⟨?_, ?_⟩
            · first
                | exact R.out
                | ((repeat apply Exists.intro)
                   exact ⟨R.out, rfl⟩)
            · first
                | (simp [intOf]; done)
                | (simp [intOf]; omega)
        · go_wp2_with fail
          refine (SM.out _).mono ?_
          rintro e V5 ⟨rfl, hB5⟩
          replace hB5 := bt hBy hB5
          obtain ⟨y0, y1, y2⟩ := k3 hB5 ⟨y0, y1, y2⟩
          replace hBx := bt hBx hB5
          clear hBy hlt4 hB5 SM tw
          have R : Hid (TxRel w (V2.heap.size + 1 + 1 + 1) (.int .i64 ((k : Int) + 1)) V5) := Lib.hid (txrel_next hk2 L0 L1 hBV hBx)
          clear L0 L1 hBx
          go_wp2_with fail
          go_loopw [14] (fun s14 Vx => s14 = .int .i64 0 ∧ Vx = V5) (fun s14 _ => 1 - (intOf s14).toNat)
          case atStart => exact ⟨rfl, rfl⟩
          case round =>
            obtain ⟨rfl, rfl⟩ := hrel
            go_wp2_with fail
            refine ⟨?_, ?_⟩
            · first
                | exact R.out
                | ((repeat apply Exists.intro)
                   exact ⟨R.out, rfl⟩)
            · first
                | (simp [intOf]; done)
                | (simp [intOf]; omega)
    · obtain rfl : k = 2 := by omega
      clear L0 L1
      rcases Classical.em (∃ W H, PT t W H) with ⟨W, H, hp⟩ | hno
      · obtain ⟨p1, p2, p3, p4, p5⟩ := id hp
        have PY := Lib.hid (Parse_yes t W H (W * H) hp rfl (by omega))
        have TX := Lib.hid (fun b w hD => Text_yes W H (some ⟨b, 0, none⟩) (W * H) (W * H) (pf t W H) p2 p4 rfl (Nat.le_refl _) w hD)
        have te : (⟨(tx W H (pf t W H) H).toArray⟩ : ByteArray) = t := by rw [p5]
        rw [te] at TX
        have CK := Lib.hid (fun b => Check_any W H (some ⟨b, 0, none⟩) (W * H) (W * H))
        have hck : ck W H (W * H) = 0 := by
          have := ck_zero W H (W * H)
          rw [(gd_iff _ _ _).2 ⟨by omega, by omega, by simp⟩] at this
          exact eq_of_beq this
        rw [hck] at CK
        clear hp p1 p2 p3 p4 p5 te hck
        unfold bv at *
        have ht4 : (t.toList == t.toList) = true := beq_self_eq_true _
        go_wp2_with fail
        refine (PY.out _).mono ?_
        rintro e V3 ⟨b, rfl, ho, _, hB3⟩
        have h3 := bt hBV hB3
        have hBy := ba (Below.refl _ V3) (.cells #[.int .i64 W, .int .i64 H, .slice (some ⟨b, 0, none⟩) (W * H) (W * H)] 28)
        have y0 : (V3.alloc (.cells #[.int .i64 W, .int .i64 H, .slice (some ⟨b, 0, none⟩) (W * H) (W * H)] 28)).cell? ⟨V3.heap.size, 0, none⟩ = some (.int .i64 W) := by go_cell
        have y1 : (V3.alloc (.cells #[.int .i64 W, .int .i64 H, .slice (some ⟨b, 0, none⟩) (W * H) (W * H)] 28)).cell? ⟨V3.heap.size, 1, none⟩ = some (.int .i64 H) := by go_cell
        have y2 : (V3.alloc (.cells #[.int .i64 W, .int .i64 H, .slice (some ⟨b, 0, none⟩) (W * H) (W * H)] 28)).cell? ⟨V3.heap.size, 2, none⟩ = some (.slice (some ⟨b, 0, none⟩) (W * H) (W * H)) := by go_cell
        have hDA9 := Lib.hid (da_below (ob_da ho) hBy)
        replace h3 := bt h3 hBy
        clear ho hB3 hBy hBV
        go_wp2_with fail
        refine (TX.out b _ hDA9.out).mono ?_
        rintro e V4 ⟨rfl, hB4⟩
        obtain ⟨y0, y1, y2⟩ := k3 hB4 ⟨y0, y1, y2⟩
        replace h3 := bt h3 hB4
        go_wp2_with fail
        refine (CK.out b _).mono ?_
        rintro e V5 ⟨rfl, hB5⟩
        go_wp2
        go_ret
        exact ⟨rfl, bt h3 hB5⟩
      · have PN := Lib.hid (Parse_no t (fun W H h => hno ⟨W, H, h⟩) (by omega))
        have SM := Lib.hid (fun w => Same_any 0 0 none 0 0 (fun _ => false) 0 0 none 0 0 (fun _ => false) (by omega) w (fun i hi => absurd hi (by omega)) (fun i hi => absurd hi (by omega)))
        rw [sm_yes (fun i hi => absurd hi (by omega))] at SM
        clear hno
        unfold bv at *
        go_wp2_with fail
        refine (PN.out _).mono ?_
        rintro e V3 ⟨rfl, hB3⟩
        have h3 := bt hBV hB3
        clear hB3 hBV
        go_wp2_with fail
        refine (SM.out _).mono ?_
        rintro e V4 ⟨rfl, hB4⟩
        go_wp2
        go_ret
        exact ⟨rfl, bt (ba h3 _) hB4⟩
end Go.Proofs.Ytohmmljcgpamiaa.Bm
