/-
  Layer 4 (bitmap): mathematics of texts that are parsed byte by byte.
-/
import Derived.Test.YtfkpodhkbcocmaaBmU
namespace Go.Proofs.Ytfkpodhkbcocmaa.Bm
open Go.RowKit
/-- A byte of a string. -/
def by8 (s : ByteArray) (k : Nat) : UInt8 := s.data.toList.getD k 0
def bb (s : ByteArray) (k : Nat) : Int := ((by8 s k).toNat : Int)
theorem bb_at (s : ByteArray) (z : Nat) (h : z < s.size) : ((((s[z]'h).toNat : Nat)) : Int) = bb s z := by
  unfold bb by8
  have e : s.data.toList.getD z 0 = s[z]'h := by
    rw [List.getD_eq_getElem?_getD, Array.getElem?_toList, Array.getElem?_eq_getElem h]
    rfl
  rw [e]
theorem size_l (s : ByteArray) : s.data.toList.length = s.size := by
  rw [Array.length_toList]
  rfl
theorem bb_iff (s : ByteArray) (k : Nat) (c : UInt8) : bb s k = (c.toNat : Int) ↔ by8 s k = c := by
  unfold bb
  constructor
  · intro h
    exact UInt8.toNat_inj.1 (Int.ofNat.inj h)
  · intro h
    rw [h]
theorem bb_in (s : ByteArray) (k : Nat) : 0 ≤ bb s k ∧ bb s k ≤ 255 := by
  unfold bb
  have := (by8 s k).toNat_lt
  omega
/-- Whether a byte stands where it may. -/
def goodP (s : ByteArray) (W k : Nat) : Prop := if k % (W + 1) = W then bb s k = 10 else bb s k = 35 ∨ bb s k = 46
def allG (s : ByteArray) (W : Nat) : Prop := ∀ k, k < s.size → goodP s W k
theorem tx_end (W H : Nat) (f : Nat → Bool) (r : Nat) : ∀ m, r < m → (tx W H f m)[r * (W + 1) + W]? = some 10
  | 0, h => absurd h (by omega)
  | m + 1, h => by
    unfold tx
    have hl := tx_len W H f m
    by_cases hr : r < m
    · have h1 : (r + 1) * (W + 1) ≤ m * (W + 1) := Nat.mul_le_mul_right _ (by omega)
      rw [Nat.succ_mul] at h1
      rw [List.append_assoc, List.getElem?_append_left (by omega)]
      exact tx_end W H f r m hr
    · obtain rfl : r = m := by omega
      rw [List.getElem?_append_right (by rw [List.length_append, hl, row_len]; omega), List.length_append, hl, row_len, Nat.sub_self]
      rfl
theorem pos_of {W H r x : Nat} (hx : x < W) (hr : r < H) : pos W H ((H - 1 - r) * W + x) = r * (W + 1) + x := by
  unfold pos
  have h1 : ((H - 1 - r) * W + x) / W = H - 1 - r := by
    rw [Nat.mul_comm, Nat.mul_add_div (by omega), Nat.div_eq_of_lt hx, Nat.add_zero]
  have h2 : ((H - 1 - r) * W + x) % W = x := by
    rw [Nat.mul_comm, Nat.mul_add_mod, Nat.mod_eq_of_lt hx]
  rw [h1, h2, show H - 1 - (H - 1 - r) = r by omega]
theorem div_parts {W i : Nat} : i = i / (W + 1) * (W + 1) + i % (W + 1) ∧ i % (W + 1) < W + 1 := by
  constructor
  · have := Nat.div_add_mod i (W + 1)
    rw [Nat.mul_comm] at this
    exact this.symm
  · exact Nat.mod_lt _ (by omega)
theorem lt_div {W H i : Nat} (h : i < H * (W + 1)) : i / (W + 1) < H := Nat.div_lt_of_lt_mul (by rw [Nat.mul_comm]; exact h)
/-- Bytes that stand where they may are a text. -/
theorem pt_of {s : ByteArray} {W H : Nat} (hW : 1 ≤ W ∧ W ≤ 96) (hH : 1 ≤ H ∧ H ≤ 96) (hs : s.size = H * (W + 1)) (hg : allG s W) : PT s W H := by
  refine ⟨hW.1, hW.2, hH.1, hH.2, ?_⟩
  have hsl : s.data.toList.length = H * (W + 1) := by rw [← hs, size_l]
  apply List.ext_getElem?
  intro i
  by_cases hi : i < H * (W + 1)
  · obtain ⟨e1, e2⟩ := div_parts (W := W) (i := i)
    have e3 := lt_div hi
    have g := hg i (by omega)
    unfold goodP at g
    have hb : s.data.toList[i]? = some (by8 s i) := by
      unfold by8
      rw [List.getD_eq_getElem?_getD, List.getElem?_eq_getElem (by omega)]
      rfl
    rw [hb]
    obtain ⟨r, hr⟩ : ∃ r, i / (W + 1) = r := ⟨_, rfl⟩
    obtain ⟨x, hx⟩ : ∃ x, i % (W + 1) = x := ⟨_, rfl⟩
    rw [hr, hx] at e1
    rw [hx] at e2 g
    rw [hr] at e3
    by_cases hxW : x = W
    · rw [if_pos hxW] at g
      subst hxW
      rw [e1, tx_end x H _ r H e3, ← e1]
      exact congrArg some ((bb_iff s i 10).1 g).symm
    · rw [if_neg hxW] at g
      have hx2 : x < W := by omega
      have h9 : (tx W H (pf s W H) H)[i]? = some (ch (pf s W H ((H - 1 - r) * W + x))) := by
        rw [e1]
        exact tx_at W H _ x r hx2 H e3
      rw [h9]
      unfold pf
      rw [pos_of hx2 e3, ← e1]
      rcases g with g | g
      · have g2 : by8 s i = 35 := (bb_iff s i 35).1 g
        rw [show s.data.toList.getD i 0 = 35 from g2, g2]
        rfl
      · have g2 : by8 s i = 46 := (bb_iff s i 46).1 g
        rw [show s.data.toList.getD i 0 = 46 from g2, g2]
        rfl
  · rw [List.getElem?_eq_none (by rw [tx_len]; omega), List.getElem?_eq_none (by omega)]
theorem pt_size {s : ByteArray} {W H : Nat} (h : PT s W H) : s.size = H * (W + 1) := by
  have h5 := congrArg List.length h.2.2.2.2
  rw [tx_len] at h5
  rw [h5, size_l]
/-- What the bytes of a text are. -/
theorem pt_good {s : ByteArray} {W H : Nat} (h : PT s W H) : allG s W ∧ (∀ i, i < W → bb s i ≠ 10) ∧ bb s W = 10 := by
  have hs := pt_size h
  obtain ⟨h1, h2, h3, h4, h5⟩ := h
  have at_ : ∀ i v, (tx W H (pf s W H) H)[i]? = some v → by8 s i = v := fun i v hv => by
    unfold by8
    rw [h5] at hv
    rw [List.getD_eq_getElem?_getD, hv]
    rfl
  have end_ : ∀ r, r < H → bb s (r * (W + 1) + W) = 10 := fun r hr => (bb_iff s _ 10).2 (at_ _ _ (tx_end W H _ r H hr))
  have dot_ : ∀ r x, x < W → r < H → bb s (r * (W + 1) + x) = 35 ∨ bb s (r * (W + 1) + x) = 46 := fun r x hx hr => by
    have h9 := at_ _ _ (tx_at W H (pf s W H) x r hx H hr)
    generalize pf s W H ((H - 1 - r) * W + x) = v at h9
    cases v
    · exact .inr ((bb_iff s _ 46).2 h9)
    · exact .inl ((bb_iff s _ 35).2 h9)
  refine ⟨fun i hi => ?_, fun i hi => ?_, ?_⟩
  · obtain ⟨e1, e2⟩ := div_parts (W := W) (i := i)
    have e3 := lt_div (W := W) (H := H) (i := i) (by omega)
    unfold goodP
    by_cases hxW : i % (W + 1) = W
    · rw [if_pos hxW]
      have := end_ _ e3
      rw [hxW] at e1
      rw [← e1] at this
      exact this
    · rw [if_neg hxW]
      have := dot_ (i / (W + 1)) (i % (W + 1)) (by omega) e3
      rw [← e1] at this
      exact this
  · have := dot_ 0 i hi (by omega)
    rw [Nat.zero_mul, Nat.zero_add] at this
    omega
  · have := end_ 0 (by omega)
    rw [Nat.zero_mul, Nat.zero_add] at this
    exact this
/-- The first byte 10, or the length. -/
theorem first10 (s : ByteArray) : ∀ n, ∃ W, W ≤ n ∧ (∀ i, i < W → bb s i ≠ 10) ∧ (W = n ∨ bb s W = 10)
  | 0 => ⟨0, by omega, fun i h => absurd h (by omega), .inl rfl⟩
  | n + 1 => by
    obtain ⟨W, h1, h2, h3⟩ := first10 s n
    rcases h3 with rfl | h3
    · by_cases h : bb s W = 10
      · exact ⟨W, by omega, h2, .inr h⟩
      · refine ⟨W + 1, by omega, fun i hi => ?_, .inl rfl⟩
        rcases Nat.lt_or_ge i W with hw | hw
        · exact h2 i hw
        · obtain rfl : i = W := by omega
          exact h
    · exact ⟨W, by omega, h2, .inr h3⟩
theorem first_uniq {s : ByteArray} {n W W' : Nat} (h2 : ∀ i, i < W → bb s i ≠ 10) (h3 : W = n ∨ bb s W = 10) (h4 : ∀ i, i < W' → bb s i ≠ 10) (h5 : bb s W' = 10) (hn : W' < n) : W' = W := by
  rcases Nat.lt_trichotomy W W' with h | h | h
  · rcases h3 with rfl | h3
    · omega
    · exact absurd h3 (h4 W h)
  · exact h.symm
  · exact absurd h5 (h2 W' h)
/-- Which texts are none. -/
theorem no_pt {s : ByteArray} {W : Nat} (h2 : ∀ i, i < W → bb s i ≠ 10) (h3 : W = s.size ∨ bb s W = 10) (h : W = 0 ∨ 96 < W ∨ s.size % (W + 1) ≠ 0 ∨ 96 < s.size / (W + 1) ∨ ¬ allG s W) (W' H' : Nat) : ¬ PT s W' H' := fun hp => by
  have hs := pt_size hp
  obtain ⟨g1, g2, g3⟩ := pt_good hp
  obtain ⟨p1, p2, p3, p4, _⟩ := hp
  have hlt : W' < s.size := by
    rw [hs]
    have : 1 * (W' + 1) ≤ H' * (W' + 1) := Nat.mul_le_mul_right _ p3
    omega
  obtain rfl := first_uniq h2 h3 g2 g3 hlt
  rcases h with h | h | h | h | h
  · omega
  · omega
  · rw [hs, Nat.mul_mod_left] at h
    exact h rfl
  · rw [hs, Nat.mul_div_cancel _ (by omega)] at h
    omega
  · exact h g1
theorem md_of {W r x : Nat} (hx : x < W + 1) : (r * (W + 1) + x) / (W + 1) = r ∧ (r * (W + 1) + x) % (W + 1) = x := by
  constructor
  · rw [Nat.mul_comm, Nat.mul_add_div (by omega), Nat.div_eq_of_lt hx, Nat.add_zero]
  · rw [Nat.mul_comm, Nat.mul_add_mod, Nat.mod_eq_of_lt hx]
theorem pos_inj {W H t r x : Nat} (hW : 0 < W) (ht : t < W * H) (hx : x < W) (hr : r < H) (h : pos W H t = r * (W + 1) + x) : t = (H - 1 - r) * W + x := by
  unfold pos at h
  have h1 : t / W < H := Nat.div_lt_of_lt_mul ht
  have h2 : t % W < W := Nat.mod_lt _ hW
  have a := md_of (W := W) (r := H - 1 - t / W) (x := t % W) (by omega)
  have b := md_of (W := W) (r := r) (x := x) (by omega)
  rw [h] at a
  have e1 : H - 1 - t / W = r := a.1.symm.trans b.1
  have e2 : t % W = x := a.2.symm.trans b.2
  have e3 := Nat.div_add_mod t W
  rw [Nat.mul_comm, e2, show t / W = H - 1 - r by omega] at e3
  exact e3.symm
theorem pos_mod {W H t : Nat} (hW : 0 < W) : pos W H t % (W + 1) = t % W := by
  unfold pos
  have := Nat.mod_lt t hW
  exact (md_of (W := W) (r := H - 1 - t / W) (x := t % W) (by omega)).2
/-- The dots that a text's first bytes have set. -/
def fmix (s : ByteArray) (W H k : Nat) (p : Nat) : Bool := if pos W H p < k then pf s W H p else false
theorem fmix_end {s : ByteArray} {W H k p : Nat} (hW : 0 < W) (hk : k % (W + 1) = W) : fmix s W H (k + 1) p = fmix s W H k p := by
  unfold fmix
  have h : pos W H p ≠ k := fun e => by
    have := pos_mod (H := H) (t := p) hW
    rw [e, hk] at this
    have := Nat.mod_lt p hW
    omega
  by_cases h2 : pos W H p < k
  · rw [if_pos h2, if_pos (by omega)]
  · rw [if_neg h2, if_neg (by omega)]
theorem fmix_dot {s : ByteArray} {W H k q t : Nat} {v : Bool} (hW : 0 < W) (hk : k % (W + 1) < W) (hr : k / (W + 1) < H) (hq : q = (H - 1 - k / (W + 1)) * W + k % (W + 1)) (hv : (bb s k == 35) = v) (ht : t < W * H) : fmix s W H (k + 1) t = if t = q then v else fmix s W H k t := by
  unfold fmix
  have hp := pos_of hk hr
  have hd := (div_parts (W := W) (i := k)).1
  rw [← hd, ← hq] at hp
  by_cases e : t = q
  · rw [if_pos e, e, hp, if_pos (by omega)]
    unfold pf
    rw [hp, ← hv]
    show (by8 s k == 35) = _
    rw [Bool.eq_iff_iff, beq_iff_eq, beq_iff_eq]
    exact (bb_iff s k 35).symm
  · rw [if_neg e]
    have h : pos W H t ≠ k := fun e2 => e (by
      rw [hq]
      exact pos_inj hW ht hk hr (by rw [e2]; exact hd))
    by_cases h2 : pos W H t < k
    · rw [if_pos h2, if_pos (by omega)]
    · rw [if_neg h2, if_neg (by omega)]
theorem fmix_all {s : ByteArray} {W H p : Nat} (hs : s.size = H * (W + 1)) (hp : p < W * H) : fmix s W H s.size p = pf s W H p := by
  unfold fmix
  rcases Nat.eq_zero_or_pos W with h | h
  · rw [h, Nat.zero_mul] at hp
    omega
  have h1 : p / W < H := Nat.div_lt_of_lt_mul hp
  have h2 : p % W < W := Nat.mod_lt _ h
  unfold pos
  generalize p / W = y at *
  generalize p % W = x at *
  have h3 : (H - 1 - y + 1) * (W + 1) ≤ H * (W + 1) := Nat.mul_le_mul_right _ (by omega)
  rw [Nat.succ_mul] at h3
  rw [if_pos (by omega)]
end Go.Proofs.Ytfkpodhkbcocmaa.Bm
