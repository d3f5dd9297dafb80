/-
  Layer 2 (wire): the plain mathematics of the serialization: groups of codes, and the code of an integer. Nothing here speaks of the program.
-/
import Derived.Test.YtadnkofbgifliaaProg
import Derived.Lib.Hide
import Derived.WalkKit
import Derived.Below
import Derived.Laws.AppendOwn
namespace Go.Proofs.Ytadnkofbgifliaa.Wr
open Go.RowKit

/-- The groups of a code, the least one first. -/
def encN (c : Nat) : List UInt8 :=
  if c < 128 then [UInt8.ofNat c] else UInt8.ofNat (c % 128 + 128) :: encN (c / 128)
termination_by c
decreasing_by omega

theorem encN_lo {c : Nat} (h : c < 128) : encN c = [UInt8.ofNat c] := by rw [encN, if_pos h]
theorem encN_hi {c : Nat} (h : 128 ≤ c) : encN c = UInt8.ofNat (c % 128 + 128) :: encN (c / 128) := by rw [encN, if_neg (by omega)]
theorem encN_ne (c : Nat) : encN c ≠ [] := by
  rcases Nat.lt_or_ge c 128 with h | h
  · rw [encN_lo h]; simp
  · rw [encN_hi h]; simp
theorem encN_pos (c : Nat) : 1 ≤ (encN c).length := by
  have := encN_ne c
  cases h : encN c with
  | nil => exact absurd h this
  | cons _ _ => simp
theorem toNat_of {n : Nat} (h : n < 256) : (UInt8.ofNat n).toNat = n := by simp [Nat.mod_eq_of_lt h]

/-- What a byte at the front says of the code behind it. -/
theorem front (b : UInt8) (l t : List UInt8) (c : Nat) :
    b :: l = encN c ++ t ↔ (b.toNat < 128 ∧ c = b.toNat ∧ l = t) ∨ (128 ≤ b.toNat ∧ ∃ d, 0 < d ∧ c = (b.toNat - 128) + 128 * d ∧ l = encN d ++ t) := by
  have hb : b.toNat < 256 := b.toNat_lt
  rcases Nat.lt_or_ge c 128 with h | h
  · rw [encN_lo h]
    constructor
    · intro e
      simp only [List.cons_append, List.nil_append, List.cons.injEq] at e
      have e1 : b.toNat = c := by rw [e.1]; exact toNat_of (by omega)
      exact Or.inl ⟨by omega, e1.symm, e.2⟩
    · rintro (⟨h1, h2, h3⟩ | ⟨h1, d, hd, h2, h3⟩)
      · simp only [List.cons_append, List.nil_append, List.cons.injEq]
        exact ⟨by rw [h2]; simp, h3⟩
      · omega
  · rw [encN_hi h]
    constructor
    · intro e
      simp only [List.cons_append, List.cons.injEq] at e
      have e1 : b.toNat = c % 128 + 128 := by rw [e.1]; exact toNat_of (by omega)
      exact Or.inr ⟨by omega, c / 128, by omega, by omega, e.2⟩
    · rintro (⟨h1, h2, h3⟩ | ⟨h1, d, hd, h2, h3⟩)
      · omega
      · simp only [List.cons_append, List.cons.injEq]
        refine ⟨?_, ?_⟩
        · apply UInt8.toNat_inj.1
          rw [toNat_of (by omega)]; omega
        · rw [h3]; congr 2; omega

/-- After k bytes that are no last ones: which codes begin the list. -/
def Pre (l : List UInt8) (k acc : Nat) : Prop :=
  acc < 128 ^ k ∧ ∀ c t, l = encN c ++ t ↔ ∃ d, (k = 0 ∨ 0 < d) ∧ c = acc + 128 ^ k * d ∧ l.drop k = encN d ++ t

theorem pre_zero (l : List UInt8) : Pre l 0 0 := by
  refine ⟨by simp, fun c t => ⟨fun h => ⟨c, Or.inl rfl, by simp, by simpa using h⟩, ?_⟩⟩
  rintro ⟨d, _, h1, h2⟩
  rw [Nat.pow_zero, Nat.one_mul, Nat.zero_add] at h1
  rw [h1]; simpa using h2

theorem drop_cons {l : List UInt8} {k : Nat} (h : k < l.length) : l.drop k = l[k] :: l.drop (k + 1) := List.drop_eq_getElem_cons h

theorem pre_succ {l : List UInt8} {k acc : Nat} (h : Pre l k acc) (hk : k < l.length) (hb : 128 ≤ l[k].toNat) : Pre l (k + 1) (acc + 128 ^ k * (l[k].toNat - 128)) := by
  have hlt : l[k].toNat < 256 := l[k].toNat_lt
  refine ⟨?_, fun c t => ?_⟩
  · have h1 := h.1
    have h2 : 128 ^ k * (l[k].toNat - 128) ≤ 128 ^ k * 127 := Nat.mul_le_mul_left _ (by omega)
    rw [Nat.pow_succ]; omega
  · rw [h.2 c t]
    constructor
    · rintro ⟨d, _, hc, hd⟩
      rw [drop_cons hk, front] at hd
      rcases hd with ⟨q, _⟩ | ⟨_, e, he, hde, hl⟩
      · omega
      · refine ⟨e, Or.inr he, ?_, hl⟩
        rw [hc, hde, Nat.pow_succ, Nat.mul_add, Nat.mul_assoc]; omega
    · rintro ⟨e, he, hc, hl⟩
      have he' : 0 < e := by omega
      refine ⟨(l[k].toNat - 128) + 128 * e, by omega, ?_, ?_⟩
      · rw [hc, Nat.pow_succ, Nat.mul_add, Nat.mul_assoc]; omega
      · rw [drop_cons hk, front]
        exact Or.inr ⟨hb, e, he', rfl, hl⟩

/-- A last byte. -/
theorem pre_last {l : List UInt8} {k acc : Nat} (h : Pre l k acc) (hk : k < l.length) (hb : l[k].toNat < 128) (c : Nat) (t : List UInt8) :
    l = encN c ++ t ↔ (k = 0 ∨ 0 < l[k].toNat) ∧ c = acc + 128 ^ k * l[k].toNat ∧ t = l.drop (k + 1) := by
  rw [h.2 c t]
  constructor
  · rintro ⟨d, hd0, hc, hd⟩
    rw [drop_cons hk, front] at hd
    rcases hd with ⟨_, q, r⟩ | ⟨q, _⟩
    · subst q; exact ⟨hd0, hc, r.symm⟩
    · omega
  · rintro ⟨h1, h2, h3⟩
    refine ⟨l[k].toNat, h1, h2, ?_⟩
    rw [drop_cons hk, front]
    exact Or.inl ⟨hb, rfl, h3.symm⟩

/-- No byte is left. -/
theorem pre_end {l : List UInt8} {k acc : Nat} (h : Pre l k acc) (hk : l.length ≤ k) (c : Nat) (t : List UInt8) : l ≠ encN c ++ t := by
  intro e
  obtain ⟨d, _, _, hd⟩ := (h.2 c t).1 e
  rw [List.drop_eq_nil_of_le hk] at hd
  have := encN_ne d
  cases hq : encN d with
  | nil => exact this hq
  | cons _ _ => rw [hq] at hd; simp at hd

/-- A code of 64 bits has at most ten groups. -/
theorem pre_ten {l : List UInt8} {acc : Nat} (h : Pre l 10 acc) (c : Nat) (t : List UInt8) (hc : c < 18446744073709551616) : l ≠ encN c ++ t := by
  intro e
  obtain ⟨d, hd, he, _⟩ := (h.2 c t).1 e
  have : 128 ^ 10 * 1 ≤ 128 ^ 10 * d := Nat.mul_le_mul_left _ (by omega)
  omega

/-- A group that has no room in 64 bits. -/
theorem pre_big {l : List UInt8} {k acc : Nat} (h : Pre l k acc) (hk : k < l.length) (hg : 18446744073709551616 ≤ 128 ^ k * (l[k].toNat % 128)) (c : Nat) (t : List UInt8) (hc : c < 18446744073709551616) : l ≠ encN c ++ t := by
  intro e
  rcases Nat.lt_or_ge l[k].toNat 128 with hb | hb
  · have := ((pre_last h hk hb c t).1 e).2.1
    rw [Nat.mod_eq_of_lt hb] at hg
    omega
  · have hlt : l[k].toNat < 256 := l[k].toNat_lt
    obtain ⟨d, _, he, _⟩ := ((pre_succ h hk hb).2 c t).1 e
    have : l[k].toNat % 128 = l[k].toNat - 128 := by omega
    rw [this] at hg
    omega

/-- The code of an integer, and back. -/
def zz (n : Int) : Nat := if n < 0 then (-2 * n - 1).toNat else (2 * n).toNat
def un (c : Nat) : Int := if c % 2 = 1 then -((c / 2 : Nat) : Int) - 1 else ((c / 2 : Nat) : Int)
theorem un_zz (n : Int) : un (zz n) = n := by unfold un zz; split <;> split <;> omega
theorem zz_un (c : Nat) : zz (un c) = c := by unfold un zz; split <;> split <;> omega
theorem zz_lt (n : Int) (h : -9223372036854775808 ≤ n ∧ n ≤ 9223372036854775807) : zz n < 18446744073709551616 := by unfold zz; split <;> omega
theorem un_bd (c : Nat) (h : c < 18446744073709551616) : -9223372036854775808 ≤ un c ∧ un c ≤ 9223372036854775807 := by unfold un; split <;> omega
theorem zz_inj {n m : Int} (h : zz n = zz m) : n = m := by rw [← un_zz n, ← un_zz m, h]

/-- The serialization of an integer. -/
def encI (n : Int) : List UInt8 := encN (zz n)
theorem encI_pos (n : Int) : 1 ≤ (encI n).length := encN_pos _

/-- No code begins another one. -/
theorem encN_prefix : ∀ (c d : Nat) (s t : List UInt8), encN c ++ s = encN d ++ t → c = d ∧ s = t := by
  intro c
  induction c using Nat.strongRecOn with
  | ind c ih =>
    intro d s t h
    rcases Nat.lt_or_ge c 128 with hc | hc
    · rw [encN_lo hc, List.cons_append, List.nil_append, front] at h
      rw [toNat_of (by omega)] at h
      rcases h with ⟨_, h1, h2⟩ | ⟨h1, _⟩
      · exact ⟨h1.symm, h2⟩
      · omega
    · rw [encN_hi hc, List.cons_append, front] at h
      rw [toNat_of (by omega)] at h
      rcases h with ⟨h1, _⟩ | ⟨_, e, he, hd, hl⟩
      · omega
      · obtain ⟨h1, h2⟩ := ih (c / 128) (by omega) e s t hl
        exact ⟨by omega, h2⟩
theorem encI_prefix {n m : Int} {s t : List UInt8} (h : encI n ++ s = encI m ++ t) : n = m ∧ s = t := by
  obtain ⟨h1, h2⟩ := encN_prefix _ _ _ _ h
  exact ⟨zz_inj h1, h2⟩

theorem encN_length : ∀ (k c : Nat), c < 128 ^ (k + 1) → (encN c).length ≤ k + 1 := by
  intro k
  induction k with
  | zero => intro c h; rw [encN_lo (by simpa using h)]; simp
  | succ k ih =>
    intro c h
    rcases Nat.lt_or_ge c 128 with hc | hc
    · rw [encN_lo hc]; simp
    · rw [encN_hi hc]
      have : c / 128 < 128 ^ (k + 1) := by rw [Nat.div_lt_iff_lt_mul (by omega)]; rw [Nat.pow_succ] at h; exact h
      have := ih _ this
      simp; omega
theorem encI_le (n : Int) (h : -9223372036854775808 ≤ n ∧ n ≤ 9223372036854775807) : (encI n).length ≤ 10 := encN_length 9 _ (by have := zz_lt n h; omega)
theorem encI_one (n : Int) : (encI n).length = 1 ↔ -64 ≤ n ∧ n ≤ 63 := by
  unfold encI
  rcases Nat.lt_or_ge (zz n) 128 with hc | hc
  · rw [encN_lo hc]
    simp only [List.length_singleton, true_iff]
    unfold zz at hc; split at hc <;> omega
  · rw [encN_hi hc]
    have := encN_pos (zz n / 128)
    simp only [List.length_cons]
    constructor
    · omega
    · intro h; unfold zz at hc; split at hc <;> omega

/-- The serializations of a string, and of lists. -/
def encT (s : List UInt8) : List UInt8 := encI s.length ++ s
def encIs (l : List Int) : List UInt8 := encI l.length ++ l.flatMap encI
def encTs (l : List (List UInt8)) : List UInt8 := encI l.length ++ l.flatMap encT

end Go.Proofs.Ytadnkofbgifliaa.Wr
