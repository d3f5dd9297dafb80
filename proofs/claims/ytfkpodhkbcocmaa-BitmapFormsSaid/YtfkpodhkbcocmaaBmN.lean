/-
  Layer 4 (bitmap): Parse, whole.
-/
import Derived.Test.YtfkpodhkbcocmaaBmM
import Derived.Lib.IndexLaws
namespace Go.Proofs.Ytfkpodhkbcocmaa.Bm
open Go.RowKit
set_option maxHeartbeats 2000000 in
theorem Parse_none (s : ByteArray) (hi : Lib.indexByte s.data.toList 10 < 1) (w : World) :
    Calls Try.prog 24 #[.string s] w fun e w' => e = .returned (.tuple #[bv 0 0 none 0 0, .bool false]) ∧ Below w.heap.size w w' := by
  have I := Lib.hid (fun w => Try.strings_IndexByte s 10 w)
  rw [show (Int.toNat 10).toUInt8 = (10 : UInt8) from rfl] at I
  generalize Lib.indexByte s.data.toList 10 = i at *
  unfold bv
  go_enter Try.func24, Try.ntmps24
  go_wp2_with fail
  refine (I.out _).mono ?_
  rintro e w1 ⟨rfl, rfl⟩
  go_wp2
  refine bodyPost_ret (v := .tuple #[.agg #[.int .i64 0, .int .i64 0, .slice none 0 0], .bool false]) (by simp [results, Try.results24, go_sem]) rfl ⟨rfl, ?_⟩
  have hB := ba (Below.refl _ w) (.cells #[.int .i64 0, .int .i64 0, .slice none 0 0] 28)
  exact hB
def P0Rel (w2 : World) (s28 : Value) (wr : World) : Prop := s28 = .int .i64 0 ∧ wr = w2
set_option maxRecDepth 100000 in
set_option maxHeartbeats 4000000 in
theorem Parse_size (s : ByteArray) (W H : Nat) (hi : Lib.indexByte s.data.toList 10 = W) (hW : 1 ≤ W) (hs : H = s.size / (W + 1)) (hbig : (sd W && sd H) = false) (hsz : s.size ≤ 1000000) (hWs : W ≤ s.size) (w : World) :
    Calls Try.prog 24 #[.string s] w fun e w' => e = .returned (.tuple #[bv 0 0 none 0 0, .bool false]) ∧ Below w.heap.size w w' := by
  have I := Lib.hid (fun w => Try.strings_IndexByte s 10 w)
  have hi2 : Lib.indexByte s.data.toList (Int.toNat 10).toUInt8 = W := hi
  rw [hi2] at I
  have N := Lib.hid (New_no W H hbig)
  have T := Lib.hid (fun w => Text_yes 0 0 none 0 0 (fun _ => false) (by omega) (by omega) rfl (by omega) w (fun i hi => absurd hi (by omega)))
  rw [show (⟨(tx 0 0 (fun _ => false) 0).toArray⟩ : ByteArray) = ⟨#[]⟩ from rfl] at T
  have hHs : H ≤ s.size := by rw [hs]; exact Nat.div_le_self _ _
  have hd1 : (s.size : Int).tdiv ((W : Int) + 1) = H := by rw [Int.tdiv_eq_ediv_of_nonneg (by omega), hs]; simp
  have hd2 : (s.size : Int) / ((W : Int) + 1) = H := by rw [hs]; simp
  have hw1 : ¬ (W : Int) + 1 = 0 := by omega
  have hw2 : ¬ (W : Int) < 1 := by omega
  have hiw : IntKind.i64.wrap (H : Int) = H := iwrap_id ⟨by omega, by omega⟩
  have hne : ¬ (⟨#[]⟩ : ByteArray) = s := fun h => by
    rw [← h, show (⟨#[]⟩ : ByteArray).size = 0 from rfl] at hWs
    omega
  have es := str_ne hne
  generalize (⟨#[]⟩ : ByteArray) = t at *
  clear hi hi2 hs hne
  unfold bv at *
  go_enter Try.func24, Try.ntmps24
  go_wp2_with fail
  refine (I.out _).mono ?_
  rintro e w1 ⟨rfl, rfl⟩
  go_wp2_with fail
  refine (N.out _).mono ?_
  rintro e w2 ⟨rfl, hb2⟩
  obtain ⟨r0, r1, r2⟩ := box3 hb2 rfl
  obtain ⟨f0, f1, f2⟩ := fz3 hb2 rfl
  have hB : Below w.heap.size w w2 := bt (ba (Below.refl _ _) _) hb2
  have hlt := block_lt_of_cell r0
  clear hb2
  have hBb := ba (Below.refl _ w2) (.cells #[.int .i64 0, .int .i64 0, .slice none 0 0] 28)
  obtain ⟨f0, f1, f2⟩ := kf3 hBb ⟨r0, r1, r2⟩ ⟨f0, f1, f2⟩
  obtain ⟨r0, r1, r2⟩ := k3 hBb ⟨r0, r1, r2⟩
  obtain ⟨W2, hW2⟩ : ∃ W2, w2.alloc (.cells #[.int .i64 0, .int .i64 0, .slice none 0 0] 28) = W2 := ⟨_, rfl⟩
  have c0 : W2.cell? ⟨w2.heap.size, 0, none⟩ = some (.int .i64 0) := by subst hW2; go_cell
  have c1 : W2.cell? ⟨w2.heap.size, 1, none⟩ = some (.int .i64 0) := by subst hW2; go_cell
  have c2 : W2.cell? ⟨w2.heap.size, 2, none⟩ = some (.slice none 0 0) := by subst hW2; go_cell
  rw [hW2] at f0 f1 f2 r0 r1 r2 hBb
  replace hB := bt hB hBb
  have HW2 := Lib.hid hW2
  clear hBb hW2
  go_wp2_with fail
  rw [HW2.out]
  clear HW2
  go_loopw [28] (fun s28 wr => P0Rel W2 s28 wr) (fun s28 _ => 0)
  case atStart => exact ⟨rfl, rfl⟩
  case round =>
    obtain ⟨rfl, rfl⟩ := hrel
    go_wp2_with fail
    refine (T.out _).mono ?_
    rintro e w4 ⟨rfl, hB4⟩
    obtain ⟨f0, f1, f2⟩ := kf3 hB4 ⟨r0, r1, r2⟩ ⟨f0, f1, f2⟩
    obtain ⟨r0, r1, r2⟩ := k3 hB4 ⟨r0, r1, r2⟩
    replace hB := bt hB hB4
    go_wp2
    refine bodyPost_ret (v := .tuple #[.agg #[.int .i64 0, .int .i64 0, .slice none 0 0], .bool false]) (by simp [results, Try.results24, go_sem, r0, r1, r2]) rfl ⟨rfl, ?_⟩
    exact bs (bs (bs hB (by simp) _) (by simp) _) (by simp) _
/-- A text of W by H dots. -/
def PT (s : ByteArray) (W H : Nat) : Prop := 1 ≤ W ∧ W ≤ 96 ∧ 1 ≤ H ∧ H ≤ 96 ∧ tx W H (pf s W H) H = s.data.toList
theorem ch_ne (v : Bool) : ch v ≠ 10 := by cases v <;> decide
theorem tx_first (W H : Nat) (f : Nat → Bool) : ∀ k, ∃ r, tx W H f (k + 1) = row f ((H - 1) * W) W ++ 10 :: r
  | 0 => ⟨[], by simp [tx]⟩
  | k + 1 => by
    obtain ⟨r, hr⟩ := tx_first W H f k
    exact ⟨r ++ row f ((H - 1 - (k + 1)) * W) W ++ [10], by rw [tx, hr]; simp [List.append_assoc]⟩
theorem indexByte_at : ∀ (l r : List UInt8), (∀ x ∈ l, x ≠ 10) → Lib.indexByte (l ++ 10 :: r) 10 = l.length
  | [], r, _ => by simp [Lib.indexByte]
  | x :: l, r, h => by
    have ih := indexByte_at l r (fun y hy => h y (by simp [hy]))
    have hx := h x (by simp)
    rw [List.cons_append, Lib.indexByte, if_neg (by simpa using hx), ih]
    rw [if_neg (by simp only [beq_iff_eq]; omega)]
    simp
theorem row_no (f : Nat → Bool) (p j : Nat) : ∀ x ∈ row f p j, x ≠ 10 := by
  intro x hx
  unfold row at hx
  obtain ⟨i, _, rfl⟩ := List.mem_map.1 hx
  exact ch_ne _
theorem pt_index {s : ByteArray} {W H : Nat} (h : PT s W H) : Lib.indexByte s.data.toList 10 = W ∧ H = s.size / (W + 1) := by
  obtain ⟨h1, h2, h3, h4, h5⟩ := h
  obtain ⟨k, rfl⟩ : ∃ k, H = k + 1 := ⟨H - 1, by omega⟩
  have hl := congrArg List.length h5
  rw [tx_len, Array.length_toList] at hl
  refine ⟨?_, ?_⟩
  · obtain ⟨r, hr⟩ := tx_first W (k + 1) (pf s W (k + 1)) k
    rw [← h5, hr, indexByte_at _ _ (row_no _ _ _), row_len]
  · rw [show s.size = s.data.size from rfl, ← hl, Nat.mul_div_cancel _ (by omega)]
theorem Parse_yes (s : ByteArray) (W H n : Nat) (h : PT s W H) (hn : n = W * H) (hsz : s.size ≤ 1000000) (w : World) :
    Calls Try.prog 24 #[.string s] w fun e w' => ∃ b, e = .returned (.tuple #[bv W H (some ⟨b, 0, none⟩) n n, .bool true]) ∧ OB w' b n (pf s W H) ∧ (w.heap.size ≤ b ∧ b < w'.heap.size) ∧ Below w.heap.size w w' := by
  obtain ⟨i1, i2⟩ := pt_index h
  obtain ⟨h1, h2, h3, h4, h5⟩ := h
  refine (Parse_main s W H n i1 ⟨h1, h2⟩ h4 hn i2 hsz w).mono ?_
  rintro e w' ⟨hp, hB⟩
  rw [if_pos h5] at hp
  obtain ⟨b, e1, e2, e3⟩ := hp
  exact ⟨b, e1, e2, e3, hB⟩
theorem Parse_no (s : ByteArray) (h : ∀ W H, ¬ PT s W H) (hsz : s.size ≤ 1000000) (w : World) :
    Calls Try.prog 24 #[.string s] w fun e w' => e = .returned (.tuple #[bv 0 0 none 0 0, .bool false]) ∧ Below w.heap.size w w' := by
  rcases Int.lt_or_le (Lib.indexByte s.data.toList 10) 1 with hi | hi
  · exact Parse_none s hi w
  obtain ⟨W, hW⟩ : ∃ W : Nat, Lib.indexByte s.data.toList 10 = W := ⟨(Lib.indexByte s.data.toList 10).toNat, by omega⟩
  have hW1 : 1 ≤ W := by omega
  obtain ⟨hat, _⟩ := Lib.indexByte_some hW
  have hWs : W < s.size := by
    have := (List.getElem?_eq_some_iff.1 hat).1
    rwa [Array.length_toList] at this
  by_cases hbig : W ≤ 96 ∧ s.size / (W + 1) ≤ 96
  · refine (Parse_main s W (s.size / (W + 1)) _ hW ⟨hW1, hbig.1⟩ hbig.2 rfl rfl hsz w).mono ?_
    rintro e w' ⟨hp, hB⟩
    have hH1 : 1 ≤ s.size / (W + 1) := by
      rw [Nat.le_div_iff_mul_le (by omega)]; omega
    rw [if_neg (fun he => h W _ ⟨hW1, hbig.1, hH1, hbig.2, he⟩)] at hp
    exact ⟨hp, hB⟩
  · refine Parse_size s W (s.size / (W + 1)) hW hW1 rfl ?_ hsz (by omega) w
    rw [Bool.eq_false_iff]
    intro hc
    rw [Bool.and_eq_true, sd_iff, sd_iff] at hc
    exact hbig (by omega)
end Go.Proofs.Ytfkpodhkbcocmaa.Bm
