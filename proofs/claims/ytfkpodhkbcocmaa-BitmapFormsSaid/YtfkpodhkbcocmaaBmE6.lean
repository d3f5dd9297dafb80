/-
  Layer 4 (bitmap): Text of the document's own.
-/
import Derived.Test.YtfkpodhkbcocmaaBmE1
import Derived.Laws.Concat
namespace Go.Proofs.Ytfkpodhkbcocmaa.Bm
open Go.RowKit
/-- A text as a string. -/
def st (l : List UInt8) : ByteArray := ⟨l.toArray⟩
theorem st_app (l m : List UInt8) : st l ++ st m = st (l ++ m) := by
  apply ByteArray.ext
  simp [st]
theorem st_size (l : List UInt8) : (st l).size = l.length := by unfold st; simp [ByteArray.size]
def TJ (w : World) (W H : Nat) (a : Option Addr) (n c : Nat) (f : Nat → Bool) (s3 s4 : Value) (V : World) : Prop :=
  ∃ (k : Nat) (y : Int), k ≤ H ∧ y = (H : Int) - 1 - k ∧ s4 = .int .i64 y ∧ s3 = .string (st (tx W H f k)) ∧ BoxAt V w.heap.size W H a n c ∧ Below w.heap.size w V
def TI (w : World) (W H : Nat) (a : Option Addr) (n c : Nat) (f : Nat → Bool) (hd : List UInt8) (p : Nat) (s3 s5 : Value) (V : World) : Prop :=
  ∃ i : Nat, i ≤ W ∧ s5 = .int .i64 i ∧ s3 = .string (st (hd ++ row f p i)) ∧ BoxAt V w.heap.size W H a n c ∧ Below w.heap.size w V
theorem ti_next {w V : World} {W H : Nat} {a : Option Addr} {n c : Nat} {f : Nat → Bool} {hd : List UInt8} {p i : Nat} (hi : i < W) (hx : BoxAt V w.heap.size W H a n c) (hB : Below w.heap.size w V) : TI w W H a n c f hd p (.string (st (hd ++ row f p i) ++ st [ch (f (p + i))])) (.int .i64 ((i : Int) + 1)) V :=
  ⟨i + 1, by omega, by congr 1, by rw [st_app, row_succ, List.append_assoc], hx, hB⟩
theorem tj_next {w V : World} {W H : Nat} {a : Option Addr} {n c : Nat} {f : Nat → Bool} {k : Nat} {y : Int} (hk : k < H) (hy : y = (H : Int) - 1 - k) (hx : BoxAt V w.heap.size W H a n c) (hB : Below w.heap.size w V) {i : Nat} (hi : i = W) : TJ w W H a n c f (.string (st (tx W H f k ++ row f ((H - 1 - k) * W) i) ++ st [10])) (.int .i64 (y - 1)) V :=
  ⟨k + 1, y - 1, by omega, by omega, rfl, by rw [st_app, hi]; rfl, hx, hB⟩
set_option maxRecDepth 100000 in
set_option maxHeartbeats 4000000 in
theorem rText_yes (W H : Nat) (a : Option Addr) (n c : Nat) (f : Nat → Bool) (hW : W ≤ 96) (hH : H ≤ 96) (hn : n = W * H) (w : World) (hD : DA w a n f) :
    Calls Try.prog 15 #[bv W H a n c] w fun e w' => e = .returned (.string (st (tx W H f H))) ∧ Below w.heap.size w w' := by
  have hg : gd W H n = true := (gd_iff _ _ _).2 ⟨by omega, by omega, by rw [hn]; simp⟩
  have CK := Lib.hid (rCheck_any W H a n c)
  have hz3 : ck W H n = 0 := by have hz := ck_zero W H n; rw [hg] at hz; exact eq_of_beq hz
  rw [hz3] at CK
  have GA := Lib.hid (fun x y w h => rGet_any W H a n c f x y w h)
  have HD := Lib.hid hD
  have HV := Lib.hid (fun (i k : Nat) (hi : i < W) (hk : k < H) => show has W H n f i ((H : Int) - 1 - k) = f ((H - 1 - k) * W + i) by
    rw [hn]
    have e : ((H : Int) - 1 - k) = ((H - 1 - k : Nat) : Int) := by omega
    have hb : (H - 1 - k) * W + i < W * H := by
      have : (H - 1 - k + 1) * W ≤ H * W := Nat.mul_le_mul_right _ (by omega)
      rw [Nat.succ_mul, Nat.mul_comm H W] at this
      omega
    have h2 := D_at (f := f) hW hH hb
    have hd := div_mod_at (W := W) (u := i) (v := (H - 1 - k : Nat)) ⟨by omega, by omega⟩
    have e2 : (((H - 1 - k) * W + i : Nat) : Int) = ((H - 1 - k : Nat) : Int) * W + i := by rw [Int.natCast_add, Int.natCast_mul]
    rw [e2, hd.1, hd.2] at h2
    rw [e]
    exact h2)
  have HL := Lib.hid (fun k (hk : k ≤ H) => show (st (tx W H f k)).size ≤ 9312 by rw [st_size, tx_len]; exact Nat.le_trans (Nat.mul_le_mul (show k ≤ 96 by omega) (show W + 1 ≤ 97 by omega)) (by decide))
  clear hg hz3 hD hn
  unfold bv at *
  go_enter Try.func15, Try.ntmps15
  go_wp2_with fail
  go_loopw [3, 4] (fun s3 s4 V => TJ w W H a n c f s3 s4 V) (fun _ s4 _ => (intOf s4 + 1).toNat)
  case atStart => exact ⟨0, (H : Int) - 1, by omega, by omega, rfl, rfl, ⟨by go_cell, by go_cell, by go_cell⟩, ba (Below.refl _ _) _⟩
  case round =>
    obtain ⟨k, y, hk, hy, rfl, rfl, ⟨a0, a1, a2⟩, hB⟩ := hrel
    have hl := HL.out k hk
    have HY := Lib.hid hy
    have hy1 : -1 ≤ y := by omega
    have hy2 : y ≤ 95 := by omega
    rename World => Vj
    clear hy
    go_wp2_with fail
    refine (CK.out _).mono ?_
    rintro e V1 ⟨rfl, hB1⟩
    have kk := k3 hB1 ⟨a0, a1, a2⟩
    clear a0 a1 a2
    obtain ⟨a0, a1, a2⟩ := kk
    replace hB := bt hB hB1
    clear hB1
    rcases Nat.lt_or_ge k H with hkH | hkH
    · have hy3 : 0 ≤ y := by have := HY.out; omega
      go_wp2_with fail
      go_loopw [3, 5] (fun s3 s5 V => TI w W H a n c f (tx W H f k) ((H - 1 - k) * W) s3 s5 V) (fun _ s5 _ => W - (intOf s5).toNat)
      case atStart => exact ⟨0, by omega, rfl, by simp [row], ⟨a0, a1, a2⟩, hB⟩
      case round =>
        clear a0 a1 a2 hB
        obtain ⟨i, hi, rfl, rfl, hx, hB⟩ := hrel
        rename World => Vi
        have hli : (st (tx W H f k ++ row f ((H - 1 - k) * W) i)).size ≤ 9500 := by
          rw [st_size, List.length_append, row_len]
          have : (st (tx W H f k)).size = (tx W H f k).length := st_size _
          omega
        obtain ⟨a0, a1, a2⟩ := id hx
        rcases Nat.lt_or_ge i W with hiW | hiW
        · have ga := GA.out i y
          have hv := HV.out i k hiW hkH
          rw [← HY.out] at hv
          rw [hv] at ga
          have R0 := Lib.hid (fun V' h => ti_next (w := w) (V := V') (H := H) (a := a) (n := n) (c := c) (f := f) (hd := tx W H f k) (p := (H - 1 - k) * W) hiW (boxat_below hx h) (bt hB h))
          have DAx := Lib.hid (da_below HD.out hB)
          clear hv
          generalize f ((H - 1 - k) * W + i) = v at *
          generalize st (tx W H f k ++ row f ((H - 1 - k) * W) i) = s at *
          have c1 := fun w => run_string_add_sum (P := Try.prog) (w := w) s ⟨#[35]⟩ (by have : (⟨#[35]⟩ : ByteArray).size = 1 := rfl; omega)
          have c2 := fun w => run_string_add_sum (P := Try.prog) (w := w) s ⟨#[46]⟩ (by have : (⟨#[46]⟩ : ByteArray).size = 1 := rfl; omega)
          have gA := Lib.hid ga
          clear ga
          cases v
          · go_wp2_with fail
            refine (gA.out _ DAx.out).mono ?_
            rintro e V1 ⟨rfl, hB1⟩
            have R := Lib.hid (R0.out _ hB1)
            go_wp2_with fail
            exact ⟨R.out, by simp [intOf]; omega⟩
          · go_wp2_with fail
            refine (gA.out _ DAx.out).mono ?_
            rintro e V1 ⟨rfl, hB1⟩
            have R := Lib.hid (R0.out _ hB1)
            go_wp2_with fail
            exact ⟨R.out, by simp [intOf]; omega⟩
        · obtain rfl : i = W := by omega
          have R := Lib.hid (tj_next (f := f) hkH HY.out hx hB rfl)
          generalize st (tx i H f k ++ row f ((H - 1 - k) * i) i) = s at *
          have c1 := fun w => run_string_add_sum (P := Try.prog) (w := w) s ⟨#[10]⟩ (by have : (⟨#[10]⟩ : ByteArray).size = 1 := rfl; omega)
          go_wp2_with fail
          exact ⟨R.out, by simp [intOf]; omega⟩
    · obtain rfl : k = H := by omega
      have hy3 : y < 0 := by have := HY.out; omega
      go_wp2
      go_ret
      exact ⟨rfl, hB⟩
set_option maxRecDepth 100000 in
set_option maxHeartbeats 4000000 in
theorem rText_bad (W H : Int) (a : Option Addr) (n c : Nat) (hg : gd W H n = false) (w : World) :
    Calls Try.prog 15 #[bv W H a n c] w fun e w' => e = .returned (.string ⟨#[]⟩) ∧ Below w.heap.size w w' := by
  have CK := Lib.hid (rCheck_any W H a n c)
  have hz := ck_zero W H n
  rw [hg] at hz
  generalize ck W H n = z at *
  have hz2 : ¬ z = 0 := fun h => by rw [h] at hz; cases hz
  clear hg
  unfold bv at *
  go_enter Try.func15, Try.ntmps15
  go_wp2_with fail
  go_loopw [3, 4] (fun s3 s4 V => s3 = .string ⟨#[]⟩ ∧ (∃ y : Int, s4 = .int .i64 y) ∧ BoxAt V w.heap.size W H a n c ∧ Below w.heap.size w V) (fun _ _ _ => 1)
  case atStart => exact ⟨rfl, ⟨_, rfl⟩, ⟨by go_cell, by go_cell, by go_cell⟩, ba (Below.refl _ _) _⟩
  case round =>
    obtain ⟨rfl, ⟨y, rfl⟩, ⟨b0, b1, b2⟩, hB⟩ := hrel
    go_wp2_with fail
    refine (CK.out _).mono ?_
    rintro e w1 ⟨rfl, hB1⟩
    go_wp2
    go_ret
    exact ⟨rfl, bt hB hB1⟩
end Go.Proofs.Ytfkpodhkbcocmaa.Bm
