/-
  Layer 4 (bitmap): Count and Only of the document's own.
-/
import Derived.Test.YtfkpodhkbcocmaaBmD1
namespace Go.Proofs.Ytfkpodhkbcocmaa.Bm
open Go.RowKit
def RcRel (w : World) (W H : Int) (a : Option Addr) (n c : Nat) (f : Nat → Bool) (s3 s4 : Value) (V : World) : Prop :=
  ∃ k : Nat, k ≤ n ∧ s4 = .int .i64 k ∧ s3 = .int .i64 (cn f k : Nat) ∧ BoxAt V w.heap.size W H a n c ∧ Below w.heap.size w V
set_option maxRecDepth 100000 in
set_option maxHeartbeats 4000000 in
theorem rCount_any (W H : Int) (a : Option Addr) (n c : Nat) (f : Nat → Bool) (hn : n ≤ 100000) (w : World) (hD : DA w a n f) :
    Calls Try.prog 13 #[bv W H a n c] w fun e w' => e = .returned (.int .i64 (count W H n f : Nat)) ∧ Below w.heap.size w w' := by
  have CK := Lib.hid (rCheck_any W H a n c)
  have hz := ck_zero W H n
  have HD := Lib.hid hD
  clear hD
  unfold bv at *
  rcases hg : gd W H n with _ | _
  · rw [hg] at hz
    have hc : count W H n f = 0 := by unfold count nd; rw [hg]; rfl
    rw [hc]
    generalize ck W H n = z at *
    have hz2 : ¬ z = 0 := fun h => by rw [h] at hz; cases hz
    clear hg hc
    go_enter Try.func13, Try.ntmps13
    go_wp2_with fail
    go_loopw [3, 4] (fun s3 s4 V => s3 = .int .i64 0 ∧ s4 = .int .i64 0 ∧ BoxAt V w.heap.size W H a n c ∧ Below w.heap.size w V) (fun _ s4 _ => 1 - (intOf s4).toNat)
    case atStart => exact ⟨rfl, rfl, ⟨by go_cell, by go_cell, by go_cell⟩, ba (Below.refl _ _) _⟩
    case round =>
      obtain ⟨rfl, rfl, ⟨b0, b1, b2⟩, hB⟩ := hrel
      go_wp2_with fail
      refine (CK.out _).mono ?_
      rintro e w1 ⟨rfl, hB1⟩
      go_wp2
      go_ret
      exact ⟨rfl, bt hB hB1⟩
  · have hz3 : ck W H n = 0 := by rw [hg] at hz; exact eq_of_beq hz
    rw [hz3] at CK
    have hc : count W H n f = cn f n := by unfold count nd; rw [hg]; rfl
    rw [hc]
    clear hz hz3 hg hc
    go_enter Try.func13, Try.ntmps13
    go_wp2_with fail
    go_loopw [3, 4] (fun s3 s4 V => RcRel w W H a n c f s3 s4 V) (fun _ s4 _ => n - (intOf s4).toNat)
    case atStart => exact ⟨0, by omega, rfl, rfl, ⟨by go_cell, by go_cell, by go_cell⟩, ba (Below.refl _ _) _⟩
    case round =>
      obtain ⟨k, hk, rfl, rfl, ⟨b0, b1, b2⟩, hB⟩ := hrel
      have hk9 := cn_le f k
      go_wp2_with fail
      refine (CK.out _).mono ?_
      rintro e w1 ⟨rfl, hB1⟩
      have kk := k3 hB1 ⟨b0, b1, b2⟩
      clear b0 b1 b2
      obtain ⟨b0, b1, b2⟩ := kk
      replace hB := bt hB hB1
      clear hB1
      rcases Nat.lt_or_ge k n with hlt | hge
      · obtain ⟨b, o, rfl, hc⟩ := da_below HD.out hB k hlt
        rcases hf : f k with _ | _
        · have R : Hid (RcRel w W H (some ⟨b, o, none⟩) n c f (.int .i64 (cn f k : Nat)) (.int .i64 ((k : Int) + 1)) w1) := Lib.hid ⟨k + 1, by omega, by congr 1, by rw [cn_no hf], ⟨b0, b1, b2⟩, hB⟩
          rw [hf] at hc
          clear hf
          generalize cn f k = m at *
          go_wp2_with fail
          exact ⟨R.out, by simp [intOf]; omega⟩
        · have R : Hid (RcRel w W H (some ⟨b, o, none⟩) n c f (.int .i64 ((cn f k : Nat) + 1 : Int)) (.int .i64 ((k : Int) + 1)) w1) := Lib.hid ⟨k + 1, by omega, by congr 1, by rw [cn_yes hf]; rfl, ⟨b0, b1, b2⟩, hB⟩
          rw [hf] at hc
          clear hf
          generalize cn f k = m at *
          go_wp2_with fail
          exact ⟨R.out, by simp [intOf]; omega⟩
      · obtain rfl : k = n := by omega
        go_wp2
        go_ret
        exact ⟨rfl, hB⟩
/-- The dots that the document's Only has seen. -/
def JO (w : World) (W H : Nat) (a : Option Addr) (n c : Nat) (W2 H2 : Int) (a2 : Option Addr) (n2 c2 : Nat) (P : Nat → Bool) (s13 s14 : Value) (V : World) : Prop :=
  ∃ j : Nat, j ≤ H ∧ s14 = .int .i64 j ∧ s13 = .int .i64 (cn P (j * W) : Nat) ∧ BoxAt V w.heap.size W H a n c ∧ BoxAt V (w.heap.size + 1) W2 H2 a2 n2 c2 ∧ Below w.heap.size w V
def IO (w : World) (W H : Nat) (a : Option Addr) (n c : Nat) (W2 H2 : Int) (a2 : Option Addr) (n2 c2 : Nat) (P : Nat → Bool) (j : Nat) (s13 s15 : Value) (V : World) : Prop :=
  ∃ i : Nat, i ≤ W ∧ s15 = .int .i64 i ∧ s13 = .int .i64 (cn P (j * W + i) : Nat) ∧ BoxAt V w.heap.size W H a n c ∧ BoxAt V (w.heap.size + 1) W2 H2 a2 n2 c2 ∧ Below w.heap.size w V
theorem io_next {w V : World} {W H : Nat} {a : Option Addr} {n c : Nat} {W2 H2 : Int} {a2 : Option Addr} {n2 c2 : Nat} {P : Nat → Bool} {j i m : Nat} (hi : i < W) (hm : m = cn P (j * W + i) + (if P (j * W + i) then 1 else 0)) (h1 : BoxAt V w.heap.size W H a n c) (h2 : BoxAt V (w.heap.size + 1) W2 H2 a2 n2 c2) (hB : Below w.heap.size w V) :
    IO w W H a n c W2 H2 a2 n2 c2 P j (.int .i64 (m : Nat)) (.int .i64 ((i : Int) + 1)) V :=
  ⟨i + 1, by omega, by congr 1, by rw [hm]; rfl, h1, h2, hB⟩
theorem jo_next {w V : World} {W H : Nat} {a : Option Addr} {n c : Nat} {W2 H2 : Int} {a2 : Option Addr} {n2 c2 : Nat} {P : Nat → Bool} {j i m : Nat} (hj : j < H) (hi : i = W) (hm : cn P (j * W + i) = m) (h1 : BoxAt V w.heap.size W H a n c) (h2 : BoxAt V (w.heap.size + 1) W2 H2 a2 n2 c2) (hB : Below w.heap.size w V) :
    JO w W H a n c W2 H2 a2 n2 c2 P (.int .i64 (m : Nat)) (.int .i64 ((j : Int) + 1)) V :=
  ⟨j + 1, by omega, by congr 1, by rw [Nat.succ_mul, ← hi, ← hm, hi], h1, h2, hB⟩
theorem onlyQ_at {W H : Nat} {f : Nat → Bool} {W2 H2 : Int} {n2 : Nat} {f2 : Nat → Bool} {dx dy fr ti : Int} (hW : W ≤ 96) (hH : H ≤ 96) {i j : Nat} (hi : i < W) (hj : j < H) :
    onlyQ W H f W2 H2 n2 f2 dx dy fr ti (j * W + i) = (has W H (W * H) f i j && ((decide ((i : Int) < fr) || decide (ti ≤ i)) && !has W2 H2 n2 f2 (RowKit.wrap64 ((i : Int) - dx)) (RowKit.wrap64 ((j : Int) - dy)))) := by
  have hk : j * W + i < W * H := by
    have : (j + 1) * W ≤ H * W := Nat.mul_le_mul_right _ (by omega)
    rw [Nat.succ_mul, Nat.mul_comm H W] at this
    omega
  have hd := div_mod_at (W := W) (u := i) (v := j) ⟨by omega, by omega⟩
  have e : ((j * W + i : Nat) : Int) = (j : Int) * W + i := by rw [Int.natCast_add, Int.natCast_mul]
  have h1 := D_at (f := f) hW hH hk
  unfold onlyQ alone
  rw [← h1, e, hd.1, hd.2]
  rfl
set_option maxRecDepth 100000 in
set_option maxHeartbeats 8000000 in
theorem rOnly_good (W H : Nat) (a : Option Addr) (n c : Nat) (f : Nat → Bool) (W2 H2 : Int) (a2 : Option Addr) (n2 c2 : Nat) (f2 : Nat → Bool) (dx dy fr ti : Int) (hW : W ≤ 96) (hH : H ≤ 96) (hn : n = W * H) (w : World) (hD : DA w a n f) (hD2 : DA w a2 n2 f2) :
    Calls Try.prog 31 #[bv W H a n c, bv W2 H2 a2 n2 c2, .int .i64 dx, .int .i64 dy, .int .i64 fr, .int .i64 ti] w fun e w' => e = .returned (.int .i64 (only W H n f W2 H2 n2 f2 dx dy fr ti : Nat)) ∧ Below w.heap.size w w' := by
  have hg : gd W H n = true := (gd_iff _ _ _).2 ⟨by omega, by omega, by rw [hn]; simp⟩
  have CK := Lib.hid (rCheck_any W H a n c)
  have hz3 : ck W H n = 0 := by have hz := ck_zero W H n; rw [hg] at hz; exact eq_of_beq hz
  rw [hz3] at CK
  have GA := Lib.hid (fun x y w h => rGet_any W H a n c f x y w h)
  have GB := Lib.hid (fun x y w h => rGet_any W2 H2 a2 n2 c2 f2 x y w h)
  have HD := Lib.hid hD
  have HD2 := Lib.hid hD2
  have HO : Hid (only W H n f W2 H2 n2 f2 dx dy fr ti = cn (onlyQ W H f W2 H2 n2 f2 dx dy fr ti) (H * W)) := Lib.hid (by unfold only nd; rw [hg, if_pos rfl, hn, Nat.mul_comm])
  have HQ := Lib.hid (fun (i j : Nat) hi hj => onlyQ_at (i := i) (j := j) (f := f) (W2 := W2) (H2 := H2) (n2 := n2) (f2 := f2) (dx := dx) (dy := dy) (fr := fr) (ti := ti) hW hH hi hj)
  have HNW : H * W ≤ 9216 := Nat.mul_le_mul hH hW
  have HN := Lib.hid hn
  rw [HO.out]
  generalize onlyQ W H f W2 H2 n2 f2 dx dy fr ti = P at *
  clear hg hz3 hD hD2 hn HO
  unfold bv at *
  go_enter Try.func31, Try.ntmps31
  go_wp2_with fail
  go_loopw [13, 14] (fun s13 s14 V => JO w W H a n c W2 H2 a2 n2 c2 P s13 s14 V) (fun _ s14 _ => H - (intOf s14).toNat)
  case atStart => exact ⟨0, by omega, rfl, by rw [Nat.zero_mul]; rfl, ⟨by go_cell, by go_cell, by go_cell⟩, ⟨by go_cell, by go_cell, by go_cell⟩, ba (ba (Below.refl _ _) _) _⟩
  case round =>
    obtain ⟨j, hj, rfl, rfl, ⟨a0, a1, a2'⟩, ⟨b0, b1, b2⟩, hB⟩ := hrel
    have hjW : j * W ≤ 9216 := Nat.le_trans (Nat.mul_le_mul_right _ hj) HNW
    obtain ⟨m, hm⟩ : ∃ m, cn P (j * W) = m := ⟨_, rfl⟩
    have hm9 : m ≤ 9216 := by rw [← hm]; exact Nat.le_trans (cn_le _ _) hjW
    rw [hm]
    have HM := Lib.hid hm
    clear hm
    rename World => Vj
    go_wp2_with fail
    refine (CK.out _).mono ?_
    rintro e V1 ⟨rfl, hB1⟩
    have kk := k3 hB1 ⟨a0, a1, a2'⟩
    have kk2 := k3 hB1 ⟨b0, b1, b2⟩
    clear a0 a1 a2' b0 b1 b2
    obtain ⟨a0, a1, a2'⟩ := kk
    obtain ⟨b0, b1, b2⟩ := kk2
    replace hB := bt hB hB1
    clear hB1
    rcases Nat.lt_or_ge j H with hjH | hjH
    · go_wp2_with fail
      go_loopw [13, 15] (fun s13 s15 V => IO w W H a n c W2 H2 a2 n2 c2 P j s13 s15 V) (fun _ s15 _ => W - (intOf s15).toNat)
      case atStart => exact ⟨0, by omega, rfl, by rw [Nat.add_zero, HM.out], ⟨a0, a1, a2'⟩, ⟨b0, b1, b2⟩, hB⟩
      case round =>
        clear a0 a1 a2' b0 b1 b2 hB
        obtain ⟨i, hi, rfl, rfl, hx, hy, hB⟩ := hrel
        rename World => Vi
        obtain ⟨k, hk⟩ : ∃ k, cn P (j * W + i) = k := ⟨_, rfl⟩
        have hk9 : k ≤ 20000 := by rw [← hk]; exact Nat.le_trans (cn_le _ _) (by omega)
        rw [hk]
        have HK := Lib.hid hk
        clear hk
        obtain ⟨a0, a1, a2'⟩ := id hx
        obtain ⟨b0, b1, b2⟩ := id hy
        rcases Nat.lt_or_ge i W with hiW | hiW
        · have ga := GA.out i j
          have gb := GB.out (RowKit.wrap64 ((i : Int) - dx)) (RowKit.wrap64 ((j : Int) - dy))
          have hq := HQ.out i j hiW hjH
          rw [← HN.out] at hq
          generalize has W H n f i j = ha at *
          generalize has W2 H2 n2 f2 (RowKit.wrap64 ((i : Int) - dx)) (RowKit.wrap64 ((j : Int) - dy)) = hb at *
          have IN : Hid (∀ V' (m : Nat), Below Vi.heap.size Vi V' → m = k + (if P (j * W + i) then 1 else 0) → IO w W H a n c W2 H2 a2 n2 c2 P j (.int .i64 (m : Nat)) (.int .i64 ((i : Int) + 1)) V') := Lib.hid (fun V' m h hm => io_next hiW (by rw [HK.out]; exact hm) (boxat_below hx h) (boxat_below hy h) (bt hB h))
          have DAx := Lib.hid (da_below HD.out hB)
          have DBx := Lib.hid (da_below HD2.out hB)
          have gA := Lib.hid ga
          have gB := Lib.hid gb
          clear ga gb
          have LC : Hid (∀ V', Below Vi.heap.size Vi V' → (V'.cell? ⟨w.heap.size + 1, 0, none⟩ = some (.int .i64 W2) ∧ V'.cell? ⟨w.heap.size + 1, 1, none⟩ = some (.int .i64 H2) ∧ V'.cell? ⟨w.heap.size + 1, 2, none⟩ = some (.slice a2 n2 c2))) := Lib.hid (fun V' h => k3 h ⟨b0, b1, b2⟩)
          have cs : ha = false ∨ (ha = true ∧ (fr ≤ i ∧ (i : Int) < ti)) ∨ (ha = true ∧ (i : Int) < fr) ∨ (ha = true ∧ fr ≤ i ∧ ti ≤ i) := by
            cases ha
            · exact .inl rfl
            · refine .inr ?_
              by_cases h1 : (i : Int) < fr
              · exact .inr (.inl ⟨rfl, h1⟩)
              · by_cases h2 : ti ≤ (i : Int)
                · exact .inr (.inr ⟨rfl, by omega, h2⟩)
                · exact .inl ⟨rfl, by omega, by omega⟩
          clear b0 b1 b2
          rcases cs with rfl | ⟨rfl, h1, h2⟩ | ⟨rfl, h1⟩ | ⟨rfl, h1, h2⟩
          · have R0 := Lib.hid (fun V' h => IN.out V' k h (by rw [hq]; rfl))
            clear hq IN
            go_wp2_with fail
            refine (gA.out _ DAx.out).mono ?_
            rintro e V1 ⟨rfl, hB1⟩
            have R := Lib.hid (R0.out _ hB1)
            go_wp2_with fail
            exact ⟨R.out, by simp [intOf]; omega⟩
          · have R0 := Lib.hid (fun V' h => IN.out V' k h (by rw [hq, decide_eq_false (by omega), decide_eq_false (by omega)]; rfl))
            clear hq IN
            go_wp2_with fail
            refine (gA.out _ DAx.out).mono ?_
            rintro e V1 ⟨rfl, hB1⟩
            have R := Lib.hid (R0.out _ hB1)
            go_wp2_with fail
            exact ⟨R.out, by simp [intOf]; omega⟩
          all_goals
            have hcol : (decide ((i : Int) < fr) || decide (ti ≤ (i : Int))) = true := by
              first
                | (rw [decide_eq_true h1]; rfl)
                | (rw [decide_eq_true h2, Bool.or_true])
            rw [hcol, Bool.true_and, Bool.true_and] at hq
            clear hcol
            cases hb
            · have R0 := Lib.hid (fun V' h => IN.out V' (k + 1) h (by rw [hq]; rfl))
              clear hq IN
              go_wp2_with fail
              refine (gA.out _ DAx.out).mono ?_
              rintro e V1 ⟨rfl, hB1⟩
              obtain ⟨b0, b1, b2⟩ := LC.out _ hB1
              go_wp2_with fail
              refine (gB.out _ (da_below DBx.out hB1)).mono ?_
              rintro e V2 ⟨rfl, hB2⟩
              have R := Lib.hid (R0.out _ (bt hB1 hB2))
              go_wp2_with fail
              exact ⟨R.out, by simp [intOf]; omega⟩
            · have R0 := Lib.hid (fun V' h => IN.out V' k h (by rw [hq]; rfl))
              clear hq IN
              go_wp2_with fail
              refine (gA.out _ DAx.out).mono ?_
              rintro e V1 ⟨rfl, hB1⟩
              obtain ⟨b0, b1, b2⟩ := LC.out _ hB1
              go_wp2_with fail
              refine (gB.out _ (da_below DBx.out hB1)).mono ?_
              rintro e V2 ⟨rfl, hB2⟩
              have R := Lib.hid (R0.out _ (bt hB1 hB2))
              go_wp2_with fail
              exact ⟨R.out, by simp [intOf]; omega⟩
        · obtain rfl : i = W := by omega
          have R := Lib.hid (jo_next hjH rfl HK.out hx hy hB)
          go_wp2_with fail
          exact ⟨R.out, by simp [intOf]; omega⟩
    · obtain rfl : j = H := by omega
      go_wp2
      go_ret
      exact ⟨congrArg (fun z : Nat => Ending.returned (Value.int .i64 (z : Int))) HM.out.symm, hB⟩
set_option maxRecDepth 100000 in
set_option maxHeartbeats 4000000 in
theorem rOnly_bad (W H : Int) (a : Option Addr) (n c : Nat) (f : Nat → Bool) (W2 H2 : Int) (a2 : Option Addr) (n2 c2 : Nat) (f2 : Nat → Bool) (dx dy fr ti : Int) (hg : gd W H n = false) (w : World) :
    Calls Try.prog 31 #[bv W H a n c, bv W2 H2 a2 n2 c2, .int .i64 dx, .int .i64 dy, .int .i64 fr, .int .i64 ti] w fun e w' => e = .returned (.int .i64 (only W H n f W2 H2 n2 f2 dx dy fr ti : Nat)) ∧ Below w.heap.size w w' := by
  have CK := Lib.hid (rCheck_any W H a n c)
  have hz := ck_zero W H n
  rw [hg] at hz
  have hc : only W H n f W2 H2 n2 f2 dx dy fr ti = 0 := by unfold only nd; rw [hg]; rfl
  rw [hc]
  generalize ck W H n = z at *
  have hz2 : ¬ z = 0 := fun h => by rw [h] at hz; cases hz
  clear hg hc
  unfold bv at *
  go_enter Try.func31, Try.ntmps31
  go_wp2_with fail
  go_loopw [13, 14] (fun s13 s14 V => s13 = .int .i64 0 ∧ s14 = .int .i64 0 ∧ BoxAt V w.heap.size W H a n c ∧ Below w.heap.size w V) (fun _ s14 _ => 1 - (intOf s14).toNat)
  case atStart => exact ⟨rfl, rfl, ⟨by go_cell, by go_cell, by go_cell⟩, ba (ba (Below.refl _ _) _) _⟩
  case round =>
    obtain ⟨rfl, rfl, ⟨b0, b1, b2⟩, hB⟩ := hrel
    go_wp2_with fail
    refine (CK.out _).mono ?_
    rintro e w1 ⟨rfl, hB1⟩
    go_wp2
    go_ret
    exact ⟨rfl, bt hB hB1⟩
theorem rOnly_any (W H : Int) (a : Option Addr) (n c : Nat) (f : Nat → Bool) (W2 H2 : Int) (a2 : Option Addr) (n2 c2 : Nat) (f2 : Nat → Bool) (dx dy fr ti : Int) (w : World) (hD : DA w a n f) (hD2 : DA w a2 n2 f2) :
    Calls Try.prog 31 #[bv W H a n c, bv W2 H2 a2 n2 c2, .int .i64 dx, .int .i64 dy, .int .i64 fr, .int .i64 ti] w fun e w' => e = .returned (.int .i64 (only W H n f W2 H2 n2 f2 dx dy fr ti : Nat)) ∧ Below w.heap.size w w' := by
  rcases hg : gd W H n with _ | _
  · exact rOnly_bad W H a n c f W2 H2 a2 n2 c2 f2 dx dy fr ti hg w
  · obtain ⟨⟨g1, g2⟩, ⟨g3, g4⟩, g5⟩ := (gd_iff _ _ _).1 hg
    obtain ⟨W', rfl⟩ : ∃ W' : Nat, W = W' := ⟨W.toNat, by omega⟩
    obtain ⟨H', rfl⟩ : ∃ H' : Nat, H = H' := ⟨H.toNat, by omega⟩
    exact rOnly_good W' H' a n c f W2 H2 a2 n2 c2 f2 dx dy fr ti (by omega) (by omega) (by rw [← Int.natCast_mul] at g5; omega) w hD hD2
end Go.Proofs.Ytfkpodhkbcocmaa.Bm
