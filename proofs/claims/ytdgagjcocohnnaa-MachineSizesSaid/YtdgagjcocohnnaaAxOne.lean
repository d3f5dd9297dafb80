/-
  Layer 5 (axis): numbers: limits, comparisons, sides of axes and of tents.
  Layer 5 (axis): tags.
  Layer 5 (axis): axes in memory; Check.
  Layer 5 (axis): Check.
  Layer 5 (axis): normal of the program and of the document.
  Layer 5 (axis): User of the program.
  Layer 5 (axis): Normal of the program.
  Layer 5 (axis): Mod and Draw.Next of the document's own.
  Layer 5 (axis): what Made of the document's own makes: memory.
-/
import Derived.Test.YtdgagjcocohnnaaExTwo
import Derived.Test.YtdgagjcocohnnaaExThree
import Derived.Laws.BitsLemmas
import Derived.IntWalk
import Derived.Deep.QuietTactic
import Derived.BigQuiet
import Derived.WalkLawsBesides
import Derived.WalkSpells
import Derived.ChangeAlike
import Derived.Handy
import Derived.OpenShut
import Derived.Deep.DeepCutAuto
import Derived.Outline
import Derived.RegionTactic
import Derived.BigRegion
import Derived.Lib.Hide
import Derived.Lib.QuietBelow
import Derived.Lib.MinMax
import Derived.Laws.RangeAny
import Derived.LoopTactic
import Derived.Deep.RegionHeld3
import Derived.Deep.MidRow
import Derived.Deep.AppendLies
namespace Go.Proofs.Ytdgagjcocohnnaa.Ax
open Go.RowKit


theorem kc {B : Nat} {w a : World} (h : Below B w a) {b o : Nat} {v : Value} (hb : b < B) (hc : w.cell? ⟨b, o, none⟩ = some v) : a.cell? ⟨b, o, none⟩ = some v := by
  rw [h.cell (p := ⟨b, o, none⟩) hb]; exact hc
theorem kf {B : Nat} {w a : World} (h : Below B w a) {b o : Nat} {v : Bool} (hb : b < B) (hc : w.frozen? ⟨b, o, none⟩ = v) : a.frozen? ⟨b, o, none⟩ = v := by
  rw [h.frozen (p := ⟨b, o, none⟩) hb]; exact hc
theorem bt {w u v : World} (h1 : Below w.heap.size w u) (h2 : Below u.heap.size u v) : Below w.heap.size w v := h1.trans (h2.mono h1.size)
theorem ba {w u : World} (h : Below w.heap.size w u) (o : Obj) : Below w.heap.size w (u.alloc o) := h.alloc h.size o
theorem bs {w u : World} (h : Below w.heap.size w u) {p : Addr} (hp : w.heap.size ≤ p.block) (v : Value) : Below w.heap.size w (u.setCell p v) := h.setCell hp v
theorem bd1 {w u : World} (h : Below w.heap.size w u) : Below w.heap.size w u.drew := ⟨h.os, h.tape, h.output, h.size, h.block⟩
theorem bd {w u : World} (h : Below w.heap.size w u) (n : Nat) : Below w.heap.size w (u.drewN n) := ⟨h.os, h.tape, h.output, h.size, h.block⟩
def R64 (x : Int) : Prop := -9223372036854775808 ≤ x ∧ x ≤ 9223372036854775807

/-- The number of a range that is nearest. -/
def lim (n lo hi : Int) : Int := min (max n lo) hi
def cmpI (a b : Int) : Int := if a < b then -1 else if b < a then 1 else 0

def inU (x : Int) : Bool := decide (-1000 ≤ x) && decide (x ≤ 1000)
theorem inU_iff (x : Int) : inU x = true ↔ -1000 ≤ x ∧ x ≤ 1000 := by unfold inU; simp
end Go.Proofs.Ytdgagjcocohnnaa.Ax
namespace Go.Proofs.Ytdgagjcocohnnaa.Ax
open Go.RowKit

/-- Whether a byte is a small letter. -/
def lowB (s : ByteArray) (i : Nat) : Bool := decide (97 ≤ (s.get! i).toNat) && decide ((s.get! i).toNat ≤ 122)
def lowT (s : ByteArray) : Nat → Bool
  | 0 => true
  | k + 1 => lowT s k && lowB s k
theorem lowT_no {s : ByteArray} {i : Nat} (h : lowB s i = false) : ∀ k, i < k → lowT s k = false
  | 0, h0 => by omega
  | k + 1, h0 => by
    unfold lowT
    rcases Nat.lt_or_ge i k with hlt | hge
    · rw [lowT_no h k hlt]; rfl
    · obtain rfl : i = k := by omega
      rw [h, Bool.and_false]
def tagOk (s : ByteArray) : Bool := (decide (1 ≤ s.size) && decide (s.size ≤ 4)) && lowT s s.size
theorem getb (s : ByteArray) (pos : Nat) (h : pos < s.size) : s.get! pos = s[pos]'h := get_at s pos h
theorem low_rune (s : ByteArray) (pos : Nat) (h : pos < s.size) : lowB s pos = (decide (97 ≤ (Utf8.decode s pos).1) && decide ((Utf8.decode s pos).1 ≤ 122)) := by
  unfold lowB
  rw [getb s pos h]
  by_cases ha : (s[pos]'h).toNat < 128
  · rw [decode_ascii s pos h ha]
  · have h2 := (decode_high s pos h (by omega)).1
    rw [decide_eq_false (p := (s[pos]'h).toNat ≤ 122) (by omega), decide_eq_false (p := (Utf8.decode s pos).1 ≤ 122) (by omega), Bool.and_false, Bool.and_false]
theorem low_step (s : ByteArray) (pos : Nat) (h : pos < s.size) (hl : lowB s pos = true) : (Utf8.decode s pos).2 = 1 := by
  unfold lowB at hl
  rw [getb s pos h] at hl
  have := Bool.and_eq_true_iff.1 hl
  have h2 := of_decide_eq_true this.2
  rw [decode_ascii s pos h (by omega)]
theorem iter_below (w : World) (s : ByteArray) (p : Nat) : Below w.heap.size w (w.iter s p) := ba (Below.refl _ _) _

theorem width_pos (s : ByteArray) (pos : Nat) (h : pos < s.size) : 1 ≤ (Utf8.decode s pos).2 := by
  by_cases ha : (s[pos]'h).toNat < 128
  · rw [decode_ascii s pos h ha]
    exact Nat.le_refl _
  · exact (decode_high s pos h (by omega)).2
def ItRel (w : World) (s : ByteArray) (V : World) : Prop := ∃ pos, V = w.iter s pos ∧ pos ≤ s.size ∧ lowT s pos = true
theorem it_next {w : World} {s : ByteArray} {pos : Nat} (hp : pos < s.size) (hl : lowT s pos = true) (hg : lowB s pos = true) : ItRel w s (w.iter s (pos + (Utf8.decode s pos).2)) := by
  refine ⟨_, rfl, ?_, ?_⟩
  · rw [low_step s pos hp hg]; omega
  · rw [low_step s pos hp hg, lowT, hl, hg]; rfl
def TgRel (w : World) (s : ByteArray) (v : Value) (V : World) : Prop := ∃ k : Nat, v = .int .i64 k ∧ V = w ∧ k ≤ s.size ∧ lowT s k = true
end Go.Proofs.Ytdgagjcocohnnaa.Ax
namespace Go.Proofs.Ytdgagjcocohnnaa.Ax
open Go.RowKit

structure Axs where
  t : ByteArray
  l : Int
  u : Int
  h : Int
/-- An axis as the program's value. -/
def axV (x : Axs) : Value := .agg #[.string x.t, .int .i64 x.l, .int .i64 x.u, .int .i64 x.h]
/-- An axis in memory. -/
def AxAt (w : World) (b o : Nat) (x : Axs) : Prop :=
  w.cell? ⟨b, o, none⟩ = some (.string x.t) ∧ w.cell? ⟨b, o + 1, none⟩ = some (.int .i64 x.l) ∧ w.cell? ⟨b, o + 2, none⟩ = some (.int .i64 x.u) ∧ w.cell? ⟨b, o + 3, none⟩ = some (.int .i64 x.h)
/-- Axes in memory. -/
def AA (w : World) (a : Option Addr) (n : Nat) (g : Nat → Axs) : Prop :=
  ∀ i, i < n → ∃ b o, a = some ⟨b, o, none⟩ ∧ AxAt w b (o + i * 4) (g i)
theorem axat_below {w W : World} {b o : Nat} {x : Axs} (h : AxAt w b o x) (hB : Below w.heap.size w W) : AxAt W b o x :=
  ⟨kc hB (block_lt_of_cell h.1) h.1, kc hB (block_lt_of_cell h.1) h.2.1, kc hB (block_lt_of_cell h.1) h.2.2.1, kc hB (block_lt_of_cell h.1) h.2.2.2⟩
theorem aa_below {w W : World} {a : Option Addr} {n : Nat} {g : Nat → Axs} (h : AA w a n g) (hB : Below w.heap.size w W) : AA W a n g := fun i hi => by
  obtain ⟨b, o, e, hc⟩ := h i hi
  exact ⟨b, o, e, axat_below hc hB⟩
theorem aa_less {w : World} {a : Option Addr} {n m : Nat} {g : Nat → Axs} (h : AA w a n g) (hm : m ≤ n) : AA w a m g := fun i hi => h i (by omega)
/-- Whether two strings are equal. -/
def eqs (s t : ByteArray) : Bool := s.toList == t.toList
/-- Whether one of the first axes has a tag. -/
def twc (g : Nat → Axs) (t : ByteArray) : Nat → Bool
  | 0 => false
  | k + 1 => twc g t k || eqs (g k).t t
theorem twc_yes {g : Nat → Axs} {t : ByteArray} {i : Nat} (h : eqs (g i).t t = true) : ∀ k, i < k → twc g t k = true
  | 0, h0 => by omega
  | k + 1, h0 => by
    unfold twc
    rcases Nat.lt_or_ge i k with hlt | hge
    · rw [twc_yes h k hlt]; rfl
    · obtain rfl : i = k := by omega
      rw [h, Bool.or_true]
def ordA (x : Axs) : Bool := decide (x.l ≤ x.u) && decide (x.u ≤ x.h)
def ranA (x : Axs) : Bool := inU x.l && inU x.u && inU x.h
/-- The error of an axis that follows others. -/
def ckOne (g : Nat → Axs) (m : Nat) (x : Axs) : Int :=
  if tagOk x.t = false then 40 else if twc g x.t m = true then 6 else if ranA x = false then 3 else if ordA x = false then 8 else 0
def ckTo (g : Nat → Axs) : Nat → Int
  | 0 => 0
  | k + 1 => if ckTo g k = 0 then ckOne g k (g k) else ckTo g k
theorem ckTo_stay {g : Nat → Axs} {i : Nat} (h0 : ckTo g i = 0) (h : ¬ ckOne g i (g i) = 0) : ∀ k, i < k → ckTo g k = ckOne g i (g i)
  | 0, h0 => by omega
  | k + 1, h1 => by
    unfold ckTo
    rcases Nat.lt_or_ge i k with hlt | hge
    · rw [ckTo_stay h0 h k hlt, if_neg h]
    · obtain rfl : i = k := by omega
      rw [if_pos h0]
def ckL (g : Nat → Axs) (n : Nat) : Int := if n ≤ 3 then ckTo g n else 2

def IxRel (w : World) (g : Nat → Axs) (t : ByteArray) (m : Nat) (v : Value) (V : World) : Prop := ∃ k : Nat, v = .int .i64 k ∧ k ≤ m ∧ twc g t k = false ∧ Below w.heap.size w V
/-- An axis in a block of its own. -/
def BxA (w : World) (b : Nat) (x : Axs) : Prop :=
  w.cell? ⟨b, 0, none⟩ = some (.string x.t) ∧ w.cell? ⟨b, 1, none⟩ = some (.int .i64 x.l) ∧ w.cell? ⟨b, 2, none⟩ = some (.int .i64 x.u) ∧ w.cell? ⟨b, 3, none⟩ = some (.int .i64 x.h)
theorem bxa_below {w W : World} {b : Nat} {x : Axs} (h : BxA w b x) (hB : Below w.heap.size w W) : BxA W b x :=
  ⟨kc hB (block_lt_of_cell h.1) h.1, kc hB (block_lt_of_cell h.1) h.2.1, kc hB (block_lt_of_cell h.1) h.2.2.1, kc hB (block_lt_of_cell h.1) h.2.2.2⟩
end Go.Proofs.Ytdgagjcocohnnaa.Ax
namespace Go.Proofs.Ytdgagjcocohnnaa.Ax
open Go.RowKit

def CkRel (w : World) (g : Nat → Axs) (n : Nat) (v : Value) (V : World) : Prop := ∃ k : Nat, v = .int .i64 k ∧ k ≤ n ∧ ckTo g k = 0 ∧ Below w.heap.size w V
end Go.Proofs.Ytdgagjcocohnnaa.Ax
namespace Go.Proofs.Ytdgagjcocohnnaa.Ax
open Go.RowKit
open Go.Proofs.Ytdgagjcocohnnaa.Ex (RoI RoB outI fits round_go round_ref)

def rgA (x : Axs) : Prop := -1000 ≤ x.l ∧ x.l ≤ x.u ∧ x.u ≤ x.h ∧ x.h ≤ 1000
theorem ckOne_zero {g : Nat → Axs} {m : Nat} {x : Axs} (h : ckOne g m x = 0) : rgA x := by
  unfold ckOne at h
  cases h1 : tagOk x.t <;> rw [h1] at h <;> simp at h
  cases h2 : twc g x.t m <;> rw [h2] at h <;> simp at h
  cases h3 : ranA x <;> rw [h3] at h <;> simp at h
  unfold ranA at h3
  simp [inU] at h3
  unfold ordA at h
  simp at h
  unfold rgA
  omega
/-- The normalized position. -/
def nm (x : Axs) (v : Int) : Int :=
  if lim v x.l x.h < x.u then -(RoI (64 * (x.u - lim v x.l x.h)) (x.u - x.l)) else if x.u < lim v x.l x.h then RoI (64 * (lim v x.l x.h - x.u)) (x.h - x.u) else 0
theorem ro_is {a b : Int} (hb : 1 ≤ b) (ha : 0 ≤ a ∧ a ≤ 64 * b) : RoI a b = (2 * a + b) / (2 * b) ∧ 0 ≤ RoI a b ∧ RoI a b ≤ 64 := by
  have h1 : 0 ≤ (2 * a + b) / (2 * b) := Int.ediv_nonneg (by omega) (by omega)
  have h2 : (2 * a + b) / (2 * b) ≤ 64 := by
    apply Int.le_of_lt_add_one
    apply Int.ediv_lt_of_lt_mul (by omega)
    omega
  have h3 : RoI a b = (2 * a + b) / (2 * b) := by
    unfold RoI outI fits
    rw [if_neg (by omega), if_pos (decide_eq_true (by omega))]
  rw [h3]
  exact ⟨rfl, h1, h2⟩
theorem ro_zero (a : Int) : RoI a 0 = 0 := rfl
theorem lim_in {v lo hi : Int} (h : lo ≤ hi) : lo ≤ lim v lo hi ∧ lim v lo hi ≤ hi := by unfold lim; omega
theorem w64 {x : Int} (h : -9223372036854775808 ≤ x ∧ x ≤ 9223372036854775807) : wrap64 x = x := by unfold wrap64; omega
theorem nm_in {x : Axs} (hx : rgA x) (v : Int) : -64 ≤ nm x v ∧ nm x v ≤ 64 := by
  obtain ⟨h1, h2, h3, h4⟩ := hx
  have hy := lim_in (v := v) (lo := x.l) (hi := x.h) (by omega)
  unfold nm
  generalize lim v x.l x.h = y at *
  split
  · have hr := ro_is (a := 64 * (x.u - y)) (b := x.u - x.l) (by omega) (by omega)
    omega
  · split
    · have hr := ro_is (a := 64 * (y - x.u)) (b := x.h - x.u) (by omega) (by omega)
      omega
    · omega
end Go.Proofs.Ytdgagjcocohnnaa.Ax
namespace Go.Proofs.Ytdgagjcocohnnaa.Ax
open Go.RowKit
open Go.Proofs.Ytdgagjcocohnnaa.Ex (RoI RoB outI fits round_go round_ref)

theorem ro_in {a b M : Int} (hb : 1 ≤ b) (hM : 0 ≤ M ∧ M ≤ 1000000000000) (ha : 0 ≤ a ∧ a ≤ M * b) : RoI a b = (2 * a + b) / (2 * b) ∧ 0 ≤ RoI a b ∧ RoI a b ≤ M := by
  have h1 : 0 ≤ (2 * a + b) / (2 * b) := Int.ediv_nonneg (by omega) (by omega)
  have h2 : (2 * a + b) / (2 * b) ≤ M := by
    apply Int.le_of_lt_add_one
    apply Int.ediv_lt_of_lt_mul (by omega)
    rw [show (M + 1) * (2 * b) = 2 * (M * b) + 2 * b by rw [Int.add_mul, Int.one_mul, Int.mul_left_comm]]
    omega
  have h3 : RoI a b = (2 * a + b) / (2 * b) := by
    unfold RoI outI fits
    rw [if_neg (by omega), if_pos (decide_eq_true (by omega))]
  rw [h3]
  exact ⟨rfl, h1, h2⟩
/-- The error of one axis. -/
def ck1 (x : Axs) : Int := ckOne (fun _ => x) 0 x
theorem ckL_one (x : Axs) : ckL (fun _ => x) 1 = ck1 x := rfl
theorem ckOne_none (g : Nat → Axs) (x : Axs) : ckOne g 0 x = ck1 x := rfl
/-- The position in user units. -/
def us (x : Axs) (v : Int) : Int :=
  if ck1 x = 0 then (if lim v (-64) 64 < 0 then x.u - RoI (-lim v (-64) 64 * (x.u - x.l)) 64 else x.u + RoI (lim v (-64) 64 * (x.h - x.u)) 64) else 0
theorem aa_one {w : World} {b : Nat} {x : Axs} (h : BxA w b x) : AA w (some ⟨b, 0, none⟩) 1 (fun _ => x) := fun i hi => by
  obtain rfl : i = 0 := by omega
  exact ⟨b, 0, rfl, h⟩
theorem bxa_new (V : World) (x : Axs) (T : TypeId) : BxA (V.alloc (.cells #[.string x.t, .int .i64 x.l, .int .i64 x.u, .int .i64 x.h] T)) V.heap.size x := ⟨by go_cell, by go_cell, by go_cell, by go_cell⟩
theorem ck1_rg {x : Axs} (h : ck1 x = 0) : rgA x := ckOne_zero h
theorem mul_in {n s M N : Int} (hn : 0 ≤ n ∧ n ≤ M) (hs : 0 ≤ s ∧ s ≤ N) (hM : 0 ≤ M) : 0 ≤ n * s ∧ n * s ≤ M * N :=
  ⟨Int.mul_nonneg hn.1 hs.1, Int.mul_le_mul hn.2 hs.2 hs.1 hM⟩
end Go.Proofs.Ytdgagjcocohnnaa.Ax
namespace Go.Proofs.Ytdgagjcocohnnaa.Ax
open Go.RowKit
theorem gr (w : World) (r : Nat) : w.grownBy w (some r) := ⟨rfl, rfl, rfl, Nat.le_refl _, fun _ _ _ => rfl⟩
theorem gd1 {a w : World} {r : Option Nat} (h : a.grownBy w r) : a.grownBy w.drew r := ⟨h.os, h.tape, h.output, h.size, h.block⟩
theorem gt {a w v : World} {r : Option Nat} (h : a.grownBy w r) (hb : Below w.heap.size w v) : a.grownBy v r :=
  ⟨hb.os.trans h.os, hb.tape.trans h.tape, hb.output.trans h.output, Nat.le_trans h.size hb.size, fun i hi hn => (hb.block i (Nat.lt_of_lt_of_le hi h.size)).trans (h.block i hi hn)⟩
theorem gs {a w : World} {r o : Nat} (h : a.grownBy w (some r)) (u : Value) : a.grownBy (w.setCell ⟨r, o, none⟩ u) (some r) :=
  ⟨h.os, h.tape, h.output, by simpa [World.setCell] using h.size, fun i hi hne => (Below.heap_setCell w _ u i (by rintro rfl; exact hne rfl)).trans (h.block i hi hne)⟩
theorem gc {a w : World} {r b o : Nat} {v : Value} (h : a.grownBy w (some r)) (hc : a.cell? ⟨b, o, none⟩ = some v) (hn : b ≠ r) : w.cell? ⟨b, o, none⟩ = some v :=
  h.cell hc (by simpa using hn)
theorem gB {w a v : World} {r : Nat} (h : Below w.heap.size w a) (g : a.grownBy v (some r)) (hr : w.heap.size ≤ r) : Below w.heap.size w v :=
  ⟨g.os.trans h.os, g.tape.trans h.tape, g.output.trans h.output, Nat.le_trans h.size g.size, fun i hi => (g.block i (Nat.lt_of_lt_of_le hi h.size) (fun e => by injection e; omega)).trans (h.block i hi)⟩
/-- Integers in a block of their own, which may be written. -/
def OI (w : World) (b n : Nat) (f : Nat → Int) : Prop := ∀ i, i < n → w.cell? ⟨b, i, none⟩ = some (.int .i64 (f i)) ∧ w.frozen? ⟨b, i, none⟩ = false
/-- Integers in memory. -/
def LA (w : World) (a : Option Addr) (n : Nat) (l : Nat → Int) : Prop :=
  ∀ i, i < n → ∃ b o, a = some ⟨b, o, none⟩ ∧ w.cell? ⟨b, o + i, none⟩ = some (.int .i64 (l i))
theorem la_below {w W : World} {a : Option Addr} {n : Nat} {l : Nat → Int} (h : LA w a n l) (hB : Below w.heap.size w W) : LA W a n l := fun i hi => by
  obtain ⟨b, o, e, hc⟩ := h i hi
  exact ⟨b, o, e, kc hB (block_lt_of_cell hc) hc⟩
theorem oi_la {w : World} {b n : Nat} {f : Nat → Int} (h : OI w b n f) : LA w (some ⟨b, 0, none⟩) n f := fun i hi => ⟨b, 0, rfl, by rw [Nat.zero_add]; exact (h i hi).1⟩
theorem oi_below {w W : World} {b n : Nat} {f : Nat → Int} (h : OI w b n f) (hB : Below w.heap.size w W) : OI W b n f := fun i hi =>
  ⟨kc hB (block_lt_of_cell (h i hi).1) (h i hi).1, kf hB (block_lt_of_cell (h i hi).1) (h i hi).2⟩
theorem oi_congr {w : World} {b n : Nat} {f g : Nat → Int} (h : OI w b n f) (e : ∀ i, i < n → f i = g i) : OI w b n g := fun i hi => by rw [← e i hi]; exact h i hi
theorem oi_set {w : World} {b n k : Nat} {f g : Nat → Int} {v : Int} (h : OI w b n f) (hk : k < n) (e : ∀ i, g i = if i = k then v else f i) : OI (w.setCell ⟨b, k, none⟩ (.int .i64 v)) b n g := fun i hi => by
  obtain ⟨h1, h2⟩ := h i hi
  obtain ⟨k1, k2⟩ := h k hk
  rw [e]
  by_cases hik : i = k
  · subst hik
    rw [if_pos rfl]
    exact ⟨by go_cell, by go_cell⟩
  · rw [if_neg hik]
    have hne : ¬ k = i := fun h => hik h.symm
    exact ⟨by go_cell, by go_cell⟩
theorem infoI : (Try.prog.info? 3).map (fun i => (i.zero, i.size, i.bytes)) = some (some (.int .i64 0), 1, 8) := by kernel_rfl
theorem below_none {w v : World} (k : w.grownBy v none) : Below w.heap.size w v := ⟨k.os, k.tape, k.output, k.size, fun i hi => k.block i hi (by simp)⟩
theorem oi_made {W : World} {n₀ b m : Nat} (h : W.ownsRow n₀ 3 1 (.slice (some ⟨b, 0, none⟩) m m) m (madeCells #[.int .i64 0] (m * 1)).toList) : OI W b m (fun _ => 0) := by
  intro i hi
  have hlt : i < m * 1 := by omega
  refine ⟨?_, ?_⟩
  · rw [h.cellAt _ hlt]
    simp only [madeCells, Array.toList_map, Array.toList_range, List.getElem?_map, List.getElem?_range hlt, Option.map_some, List.size_toArray, List.length_cons, List.length_nil, Nat.zero_add, Nat.mod_one]
    rfl
  · obtain ⟨_, h2⟩ := h
    rcases h2 with ⟨h2, _⟩ | ⟨g, cap, cur, h2, _, hh, _⟩
    · cases h2
    · cases h2
      simp [World.frozen?, hh]
theorem row_lt {W : World} {n₀ b m e s : Nat} {l : List Value} (h : W.ownsRow n₀ e s (.slice (some ⟨b, 0, none⟩) m m) m l) : b < W.heap.size := by
  obtain ⟨_, h2⟩ := h
  rcases h2 with ⟨h2, _⟩ | ⟨g, cap, cur, h2, _, hh, _⟩
  · cases h2
  · cases h2
    exact (Array.getElem?_eq_some_iff.1 hh).1
theorem make_ints (W : World) (n : Nat) (h : n ≤ 100000) : ∃ W', (Instr.makeSlice 23 (.int .i64 (n : Int)) (.int .i64 (n : Int))).run Try.prog W = .ok (.slice (some ⟨W.heap.size, 0, none⟩) n n) W' ∧ OI W' W.heap.size n (fun _ => 0) ∧ Below W.heap.size W W' ∧ W.heap.size < W'.heap.size := by
  obtain ⟨i0, hi, hz0, hz1, hz2⟩ := info_parts infoI
  obtain ⟨w1, hmk, hown, hgr⟩ := run_make_full (P := Try.prog) W W.heap.size 23 3 i0 _ 1 Try.underlying23 hi hz0 hz1 .i64 .i64 n (by rw [hz2]; omega) (by unfold maxLen; omega) (Nat.le_refl _)
  exact ⟨w1, hmk, oi_made hown, below_none hgr, row_lt hown⟩
/-- What Normal has written after some rounds. -/
def nmK (g : Nat → Axs) (p : Nat → Int) (k i : Nat) : Int := if i < k then nm (g i) (p i) else 0
theorem nmK_next (g : Nat → Axs) (p : Nat → Int) (k i : Nat) : nmK g p (k + 1) i = if i = k then nm (g k) (p k) else nmK g p k i := by
  unfold nmK
  by_cases h : i = k
  · subst h; rw [if_pos (by omega), if_pos rfl]
  · rw [if_neg h]
    by_cases h2 : i < k
    · rw [if_pos h2, if_pos (by omega)]
    · rw [if_neg h2, if_neg (by omega)]
theorem ckTo_all {g : Nat → Axs} : ∀ {n : Nat}, ckTo g n = 0 → ∀ k, k < n → ckOne g k (g k) = 0
  | 0, _, k, hk => by omega
  | n + 1, h, k, hk => by
    unfold ckTo at h
    by_cases h0 : ckTo g n = 0
    · rw [if_pos h0] at h
      rcases Nat.lt_or_ge k n with hlt | hge
      · exact ckTo_all h0 k hlt
      · obtain rfl : k = n := by omega
        exact h
    · rw [if_neg h0] at h; exact absurd h h0
theorem ckL_all {g : Nat → Axs} {n : Nat} (h : ckL g n = 0) : n ≤ 3 ∧ ∀ k, k < n → rgA (g k) := by
  unfold ckL at h
  by_cases h3 : n ≤ 3
  · rw [if_pos h3] at h
    exact ⟨h3, fun k hk => ckOne_zero (ckTo_all h k hk)⟩
  · rw [if_neg h3] at h; cases h
/-- The error of Normal. -/
def nmE (g : Nat → Axs) (n m : Nat) : Int := if ckL g n = 0 then (if m = n then 0 else 1) else ckL g n
theorem ck2 {w W : World} (h : Below w.heap.size w W) : Below w.heap.size w W := h
def NmRel (w : World) (S : Nat) (g : Nat → Axs) (p : Nat → Int) (n : Nat) (v : Value) (V : World) : Prop := ∃ k : Nat, v = .int .i64 k ∧ k ≤ n ∧ OI V S n (nmK g p k) ∧ Below w.heap.size w V
end Go.Proofs.Ytdgagjcocohnnaa.Ax
namespace Go.Proofs.Ytdgagjcocohnnaa.Ax
open Go.RowKit
theorem mod_any (n m : Int) (hn : R64 n) (hm : 1 ≤ m ∧ m ≤ 1000000) (w : World) :
    Calls Try.prog 33 #[.int .i64 n, .int .i64 m] w fun e w' => e = .returned (.int .i64 (n % m)) ∧ w' = w := by
  obtain ⟨hn0, hn1⟩ := hn
  obtain ⟨hm0, hm1⟩ := hm
  have hne : (m == 0) = false := beq_eq_false_iff_ne.2 (by omega)
  have hz : ¬ m = 0 := by omega
  have a1 : n.tmod m < m := Int.tmod_lt_of_pos n (by omega)
  have a2 : -m < n.tmod m := by
    have h : (n.tmod m).natAbs < m.natAbs := by rw [Int.natAbs_tmod]; exact Nat.mod_lt _ (by omega)
    omega
  have e : (n.tmod m + m) % m = n % m := by
    rw [Int.add_emod_right]
    have h := Int.tmod_add_mul_tdiv n m
    have h2 : n = n.tmod m + m * n.tdiv m := by omega
    have h3 : n % m = (n.tmod m + m * n.tdiv m) % m := by rw [← h2]
    rw [h3, Int.add_mul_emod_self_left]
  have H := Lib.hid e
  clear e
  go_enter Try.func33, Try.ntmps33
  go_wp2
  go_ret
  exact ⟨congrArg (fun n : Int => Ending.returned (Value.int .i64 n)) H.out, rfl⟩
/-- The draws from a list. -/
def DS (V : World) (B : Nat) (a : Option Addr) (L c k : Nat) : Prop := V.cell? ⟨B, 0, none⟩ = some (.slice a L c) ∧ V.cell? ⟨B, 1, none⟩ = some (.int .i64 k) ∧ V.frozen? ⟨B, 1, none⟩ = false
def nxV (L : Nat) (l : Nat → Int) (k : Nat) (n : Int) : Int := if k < L then l k % n else 0
def nxA (L k : Nat) : Nat := if k < L then k + 1 else k
theorem nxV_in {L : Nat} {l : Nat → Int} {k : Nat} {n : Int} (hn : 1 ≤ n) : 0 ≤ nxV L l k n ∧ nxV L l k n < n := by
  unfold nxV
  split
  · exact ⟨Int.emod_nonneg _ (by omega), Int.emod_lt_of_pos _ (by omega)⟩
  · omega
theorem nxA_le {L k : Nat} (h : k ≤ L) : nxA L k ≤ L := by unfold nxA; split <;> omega
theorem ds_below {w W : World} {B : Nat} {a : Option Addr} {L c k : Nat} (h : DS w B a L c k) (hB : Below w.heap.size w W) : DS W B a L c k :=
  ⟨kc hB (block_lt_of_cell h.1) h.1, kc hB (block_lt_of_cell h.2.1) h.2.1, kf hB (block_lt_of_cell h.2.1) h.2.2⟩
theorem la_grown {w W : World} {a : Option Addr} {n : Nat} {l : Nat → Int} {B : Nat} (h : LA w a n l) (hG : w.grownBy W (some B)) (hne : ∀ q, a = some q → 0 < n → q.block ≠ B) : LA W a n l := fun i hi => by
  obtain ⟨b, o, e, hc⟩ := h i hi
  exact ⟨b, o, e, gc hG hc (hne _ e (by omega))⟩
theorem gdN {a w : World} {r : Option Nat} (h : a.grownBy w r) (n : Nat) : a.grownBy (w.drewN n) r := ⟨h.os, h.tape, h.output, h.size, h.block⟩
set_option maxHeartbeats 2000000 in
theorem Next_any (B : Nat) (a : Option Addr) (L c k : Nat) (l : Nat → Int) (n : Int) (hn : 1 ≤ n ∧ n ≤ 1000000) (hL : L ≤ 9223372036854775807) (hk : k ≤ L) (w : World) (hS : DS w B a L c k) (hD : LA w a L l) (hl : ∀ i, i < L → R64 (l i)) (hne : ∀ q, a = some q → 0 < L → q.block ≠ B) :
    Calls Try.prog 31 #[.pointer (some ⟨B, 0, none⟩), .int .i64 n] w fun e w' => e = .returned (.int .i64 (nxV L l k n)) ∧ DS w' B a L c (nxA L k) ∧ w.grownBy w' (some B) := by
  obtain ⟨s0, s1, s2⟩ := hS
  unfold nxV nxA
  rcases Nat.lt_or_ge k L with hlt | hge
  · rw [if_pos hlt, if_pos hlt]
    obtain ⟨b, o, rfl, hc⟩ := hD k hlt
    have M := Lib.hid (fun w => mod_any (l k) n (hl k hlt) (by omega) w)
    have hbB : ¬ B = b := fun e => hne _ rfl (by omega) e.symm
    clear hD hl hne
    generalize l k = x at *
    go_enter Try.func31, Try.ntmps31
    go_wp2
    go_quiet (fail)
    go_wp2
    have v0 : ((w.drewN nq).setCell ⟨B, 1, none⟩ (.int .i64 ((k : Int) + 1))).cell? ⟨B, 0, none⟩ = some (.slice (some ⟨b, o, none⟩) L c) := by go_cell
    have v1 : ((w.drewN nq).setCell ⟨B, 1, none⟩ (.int .i64 ((k : Int) + 1))).cell? ⟨B, 1, none⟩ = some (.int .i64 ((k : Int) + 1)) := by go_cell
    have v2 : ((w.drewN nq).setCell ⟨B, 1, none⟩ (.int .i64 ((k : Int) + 1))).frozen? ⟨B, 1, none⟩ = false := by go_cell
    have v3 : ((w.drewN nq).setCell ⟨B, 1, none⟩ (.int .i64 ((k : Int) + 1))).cell? ⟨b, o + k, none⟩ = some (.int .i64 x) := by go_cell
    have hF : w.grownBy ((w.drewN nq).setCell ⟨B, 1, none⟩ (.int .i64 ((k : Int) + 1))) (some B) := gs (gdN (gr w B) nq) _
    clear s0 s1 s2 hc
    generalize ((w.drewN nq).setCell ⟨B, 1, none⟩ (.int .i64 ((k : Int) + 1))) = V at *
    have e1 : IntKind.i64.wrap ((k : Int) + 1 - 1) = (k : Int) := by rw [Int.add_sub_cancel]; exact IntWalk.i64_in _ (by omega)
    have e2 : (0 : Int) ≤ k := by omega
    go_quiet ((go_at_call 33; exact Calls.quiet_of_same (M.out _)))
    go_wp2
    go_ret
    exact ⟨rfl, ⟨v0, by simpa using v1, v2⟩, gdN hF _⟩
  · rw [if_neg (by omega), if_neg (by omega)]
    obtain rfl : k = L := by omega
    clear hD hl hne
    go_enter Try.func31, Try.ntmps31
    go_wp2
    go_quiet (fail)
    go_wp2
    go_ret
    exact ⟨rfl, ⟨s0, s1, s2⟩, gdN (gr w B) _⟩
end Go.Proofs.Ytdgagjcocohnnaa.Ax
namespace Go.Proofs.Ytdgagjcocohnnaa.Ax
open Go.RowKit

/-- Draws from a list, however many were drawn. -/
def DW (V : World) (B : Nat) (a : Option Addr) (L c : Nat) (l : Nat → Int) : Prop := (∃ k, k ≤ L ∧ DS V B a L c k) ∧ LA V a L l
theorem dw_below {w W : World} {B : Nat} {a : Option Addr} {L c : Nat} {l : Nat → Int} (h : DW w B a L c l) (hB : Below w.heap.size w W) : DW W B a L c l := by
  obtain ⟨⟨k, h1, h2⟩, h3⟩ := h
  exact ⟨⟨k, h1, ds_below h2 hB⟩, la_below h3 hB⟩
theorem Next_w (B : Nat) (a : Option Addr) (L c : Nat) (l : Nat → Int) (n : Int) (hn : 1 ≤ n ∧ n ≤ 1000000) (hL : L ≤ 9223372036854775807) (hl : ∀ i, i < L → R64 (l i)) (hne : ∀ q, a = some q → 0 < L → q.block ≠ B) (w : World) (hS : DW w B a L c l) :
    Calls Try.prog 31 #[.pointer (some ⟨B, 0, none⟩), .int .i64 n] w fun e w' => ∃ v : Nat, e = .returned (.int .i64 (v : Int)) ∧ (v : Int) < n ∧ DW w' B a L c l ∧ w.grownBy w' (some B) := by
  obtain ⟨⟨k, h1, h2⟩, h3⟩ := hS
  refine (Next_any B a L c k l n hn hL h1 w h2 h3 hl hne).mono ?_
  rintro e w' ⟨rfl, hd, hg⟩
  have hv := nxV_in (L := L) (l := l) (k := k) hn.1
  exact ⟨(nxV L l k n).toNat, by rw [Int.toNat_of_nonneg hv.1], by omega, ⟨⟨_, nxA_le h1, hd⟩, la_grown h3 hg hne⟩, hg⟩
/-- The memory of a list that is made. -/
structure MI (w V : World) (T : TypeId) (sz : Nat) (a : Option Addr) (L c : Nat) (l : Nat → Int) (v : Value) (k : Nat) (xs : List Value) : Prop where
  dw : DW V w.heap.size a L c l
  ow : V.ownsRow (w.heap.size + 1) T sz v k xs
  be : Below w.heap.size w V
theorem mi_next {w V V' : World} {T : TypeId} {sz : Nat} {a : Option Addr} {L c : Nat} {l : Nat → Int} {v : Value} {k : Nat} {xs : List Value} (h : MI w V T sz a L c l v k xs) (hd : DW V' w.heap.size a L c l) (hg : V.grownBy V' (some w.heap.size)) : MI w V' T sz a L c l v k xs := by
  obtain ⟨h1, h2, h3⟩ := h
  refine ⟨hd, h2.kept hg ?_, gB h3 hg (Nat.le_refl _)⟩
  rcases e : v.ownBlock with _ | g
  · exact .inl rfl
  · right
    have := (h2.lt g e).1
    intro h
    cases h
    omega
theorem mi_alloc {w V : World} {T : TypeId} {sz : Nat} {a : Option Addr} {L c : Nat} {l : Nat → Int} {v : Value} {k : Nat} {xs : List Value} (h : MI w V T sz a L c l v k xs) (o : Obj) : MI w (V.alloc o) T sz a L c l v k xs :=
  ⟨dw_below h.dw (ba (Below.refl _ _) _), h.ow.alloc _, ba h.be _⟩
theorem mi_start (w : World) (T : TypeId) (sz : Nat) (a : Option Addr) (L c : Nat) (l : Nat → Int) (hA : LA w a L l) (T2 : TypeId) : MI w (w.alloc (.cells #[.slice a L c, .int .i64 0] T2)) T sz a L c l (.slice none 0 0) 0 [] :=
  ⟨⟨⟨0, by omega, ⟨by go_cell, by go_cell, by go_cell⟩⟩, la_below hA (ba (Below.refl _ _) _)⟩, ⟨by simp, .inl ⟨rfl, rfl⟩⟩, ba (Below.refl _ _) _⟩
theorem mi_lt {w V : World} {T : TypeId} {sz : Nat} {a : Option Addr} {L c : Nat} {l : Nat → Int} {v : Value} {k : Nat} {xs : List Value} (h : MI w V T sz a L c l v k xs) : w.heap.size < V.heap.size := by
  obtain ⟨⟨k, _, h2⟩, _⟩ := h.dw
  exact block_lt_of_cell h2.1
theorem gBr {w a v : World} {row : Option Nat} (h : Below w.heap.size w a) (g : a.grownBy v row) (hr : ∀ k, row = some k → w.heap.size ≤ k) : Below w.heap.size w v :=
  ⟨g.os.trans h.os, g.tape.trans h.tape, g.output.trans h.output, Nat.le_trans h.size g.size, fun i hi => (g.block i (Nat.lt_of_lt_of_le hi h.size) (fun e => by have := hr i e.symm; omega)).trans (h.block i hi)⟩
theorem mi_app {w V V' : World} {T : TypeId} {sz : Nat} {a : Option Addr} {L c : Nat} {l : Nat → Int} {v v' : Value} {k k' : Nat} {xs xs' : List Value} (h : MI w V T sz a L c l v k xs) (HA : LA w a L l)
    (hown : V'.ownsRow (w.heap.size + 1) T sz v' k' xs') (hg : V.grownBy V' v.ownBlock) : MI w V' T sz a L c l v' k' xs' := by
  obtain ⟨⟨⟨k0, h1, d0, d1, d2⟩, h2⟩, h3, h4⟩ := h
  have hr : ∀ k, v.ownBlock = some k → w.heap.size + 1 ≤ k := fun k e => (h3.lt k e).1
  have hB := gBr h4 hg (fun k e => by have := hr k e; omega)
  have hlt := block_lt_of_cell d0
  have hne : some w.heap.size ≠ v.ownBlock := fun e => by have := hr _ e.symm; omega
  refine ⟨⟨⟨k0, h1, ?_, ?_, ?_⟩, la_below HA hB⟩, hown, hB⟩
  · rw [hg.cell_far ⟨w.heap.size, 0, none⟩ hlt hne]; exact d0
  · rw [hg.cell_far ⟨w.heap.size, 1, none⟩ hlt hne]; exact d1
  · rw [hg.frozen_far ⟨w.heap.size, 1, none⟩ hlt hne]; exact d2
/-- The tags of what is made. -/
def tagN (i : Nat) : ByteArray := if i = 0 then ⟨#[119, 103, 104, 116]⟩ else if i = 1 then ⟨#[119, 100, 116, 104]⟩ else ⟨#[115]⟩
def mdOk (x : Axs) (i : Nat) : Prop := x.t = tagN i ∧ -1000 ≤ x.l ∧ x.l ≤ x.u ∧ x.u ≤ x.h ∧ x.h ≤ 1000
/-- The cells of axes in a row. -/
def AL (xs : List Value) (k : Nat) (g : Nat → Axs) : Prop := ∀ i, i < k → xs[i * 4]? = some (.string (g i).t) ∧ xs[i * 4 + 1]? = some (.int .i64 (g i).l) ∧ xs[i * 4 + 2]? = some (.int .i64 (g i).u) ∧ xs[i * 4 + 3]? = some (.int .i64 (g i).h)
theorem al_next {xs : List Value} {k : Nat} {g : Nat → Axs} (h : AL xs k g) (hl : xs.length = k * 4) (x : Axs) : AL (xs ++ [.string x.t, .int .i64 x.l, .int .i64 x.u, .int .i64 x.h]) (k + 1) (fun i => if i = k then x else g i) := by
  intro i hi
  by_cases e : i = k
  · subst e
    simp only [if_true]
    refine ⟨?_, ?_, ?_, ?_⟩
    · rw [List.getElem?_append_right (by omega), hl, Nat.sub_self]; rfl
    · rw [List.getElem?_append_right (by omega), hl, show i * 4 + 1 - i * 4 = 1 by omega]; rfl
    · rw [List.getElem?_append_right (by omega), hl, show i * 4 + 2 - i * 4 = 2 by omega]; rfl
    · rw [List.getElem?_append_right (by omega), hl, show i * 4 + 3 - i * 4 = 3 by omega]; rfl
  · simp only [if_neg e]
    obtain ⟨h1, h2, h3, h4⟩ := h i (by omega)
    refine ⟨?_, ?_, ?_, ?_⟩
    · rw [List.getElem?_append_left (by omega)]; exact h1
    · rw [List.getElem?_append_left (by omega)]; exact h2
    · rw [List.getElem?_append_left (by omega)]; exact h3
    · rw [List.getElem?_append_left (by omega)]; exact h4
/-- Axes that a call owns. -/
def OA (w : World) (B : Nat) (a : Option Addr) (n : Nat) (g : Nat → Axs) : Prop :=
  ∀ i, i < n → ∃ b, a = some ⟨b, 0, none⟩ ∧ B ≤ b ∧ AxAt w b (i * 4) (g i) ∧ ∀ j, w.frozen? ⟨b, j, none⟩ = false
theorem oa_aa {w : World} {B : Nat} {a : Option Addr} {n : Nat} {g : Nat → Axs} (h : OA w B a n g) : AA w a n g := fun i hi => by
  obtain ⟨b, e, _, hc, _⟩ := h i hi
  exact ⟨b, 0, e, by rw [Nat.zero_add]; exact hc⟩
theorem own_oa {w V : World} {T : TypeId} {v : Value} {k : Nat} {xs : List Value} {g : Nat → Axs} (h : V.ownsRow (w.heap.size + 1) T 4 v k xs) (hx : AL xs k g) (hk : k ≤ 3) :
    ∃ (a : Option Addr) (c : Nat), v = .slice a k c ∧ k ≤ c ∧ c ≤ 9223372036854775807 ∧ OA V w.heap.size a k g := by
  rcases h.2 with ⟨rfl, rfl⟩ | ⟨b, cap, cur, rfl, hb, hh, hkc, hcm, _⟩
  · exact ⟨none, 0, rfl, Nat.le_refl _, by omega, fun i hi => absurd hi (by omega)⟩
  · unfold maxLen at hcm
    refine ⟨some ⟨b, 0, none⟩, cap, rfl, hkc, by omega, fun i hi => ⟨b, rfl, by omega, ?_, fun j => h.frozenAt j⟩⟩
    obtain ⟨h1, h2, h3, h4⟩ := hx i hi
    exact ⟨by rw [h.cellAt _ (by omega)]; exact h1, by rw [h.cellAt _ (by omega)]; exact h2, by rw [h.cellAt _ (by omega)]; exact h3, by rw [h.cellAt _ (by omega)]; exact h4⟩
theorem news_ax (W : World) (x : Axs) (T : TypeId) : ∀ j u, [Value.string x.t, .int .i64 x.l, .int .i64 x.u, .int .i64 x.h][j]? = some u → (W.alloc (.cells #[.string x.t, .int .i64 x.l, .int .i64 x.u, .int .i64 x.h] T)).cell? ((⟨W.heap.size, 0, none⟩ : Addr).add j) = some u := by
  intro j u hj
  match j, hj with
  | 0, hj => simp at hj; subst hj; simp [Addr.add]
  | 1, hj => simp at hj; subst hj; simp [Addr.add]
  | 2, hj => simp at hj; subst hj; simp [Addr.add]
  | 3, hj => simp at hj; subst hj; simp [Addr.add]
end Go.Proofs.Ytdgagjcocohnnaa.Ax
