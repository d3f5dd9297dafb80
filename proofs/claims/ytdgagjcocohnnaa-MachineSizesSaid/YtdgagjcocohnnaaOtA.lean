/-
  Layer 6 (outline): points and outlines in memory; Count, checkContour, Check of the program.
-/
import Derived.Test.YtdgagjcocohnnaaProg
import Derived.Laws.BitsLemmas
import Derived.IntWalk
import Derived.Deep.QuietTactic
import Derived.BigQuiet
import Derived.WalkLawsBesides
import Derived.WalkSpells
import Derived.ChangeAlike
import Derived.Handy
import Derived.OpenShut
import Derived.Deep.DeepCutAuto
import Derived.Outline
import Derived.RegionTactic
import Derived.BigRegion
import Derived.Deep.RegionHeld3
import Derived.Deep.RegionHeldLaw
import Derived.Deep.AppendLies
import Derived.Deep.MidRow
import Derived.Lib.Hide
import Derived.Lib.QuietBelow
import Derived.Lib.MinMax
namespace Go.Proofs.Ytdgagjcocohnnaa.Ot
open Go.RowKit

theorem kc {w a : World} (h : Below w.heap.size w a) {b o : Nat} {v : Value} (hc : w.cell? ⟨b, o, none⟩ = some v) : a.cell? ⟨b, o, none⟩ = some v := by
  rw [h.cell (p := ⟨b, o, none⟩) (block_lt_of_cell hc)]; exact hc
theorem kf {w a : World} (h : Below w.heap.size w a) {b o : Nat} {v : Value} {t : Bool} (hc : w.cell? ⟨b, o, none⟩ = some v) (f : w.frozen? ⟨b, o, none⟩ = t) : a.frozen? ⟨b, o, none⟩ = t := by
  rw [h.frozen (p := ⟨b, o, none⟩) (block_lt_of_cell hc)]; exact f
theorem bt {w u v : World} (h1 : Below w.heap.size w u) (h2 : Below u.heap.size u v) : Below w.heap.size w v := h1.trans (h2.mono h1.size)
theorem ba {w u : World} (h : Below w.heap.size w u) (o : Obj) : Below w.heap.size w (u.alloc o) := h.alloc h.size o
theorem bs {w u : World} (h : Below w.heap.size w u) {p : Addr} (hp : w.heap.size ≤ p.block) (v : Value) : Below w.heap.size w (u.setCell p v) := h.setCell hp v
theorem bd1 {w u : World} (h : Below w.heap.size w u) : Below w.heap.size w u.drew := ⟨h.os, h.tape, h.output, h.size, h.block⟩
theorem bd {w u : World} (h : Below w.heap.size w u) (n : Nat) : Below w.heap.size w (u.drewN n) := ⟨h.os, h.tape, h.output, h.size, h.block⟩
theorem ud {w u : World} (h : Below w.heap.size w u.drew) : Below w.heap.size w u := ⟨h.os, h.tape, h.output, h.size, h.block⟩
def R64 (x : Int) : Prop := -9223372036854775808 ≤ x ∧ x ≤ 9223372036854775807

/-- A point. -/
structure Pt where
  x : Int
  y : Int
  o : Bool
theorem pt_ext {p q : Pt} (h1 : p.x = q.x) (h2 : p.y = q.y) (h3 : p.o = q.o) : p = q := by
  cases p; cases q; simp_all
def p0 : Pt := ⟨0, 0, false⟩
def ptV (p : Pt) : Value := .agg #[.int .i64 p.x, .int .i64 p.y, .bool p.o]
def PtAt (w : World) (b o : Nat) (p : Pt) : Prop :=
  w.cell? ⟨b, o, none⟩ = some (.int .i64 p.x) ∧ w.cell? ⟨b, o + 1, none⟩ = some (.int .i64 p.y) ∧ w.cell? ⟨b, o + 2, none⟩ = some (.bool p.o)
theorem ptat_below {w W : World} {b o : Nat} {p : Pt} (h : PtAt w b o p) (hB : Below w.heap.size w W) : PtAt W b o p :=
  ⟨kc hB h.1, kc hB h.2.1, kc hB h.2.2⟩
/-- Points in memory. -/
def PA (w : World) (a : Option Addr) (n : Nat) (g : Nat → Pt) : Prop :=
  ∀ i, i < n → ∃ b o, a = some ⟨b, o, none⟩ ∧ PtAt w b (o + i * 3) (g i)
theorem pa_below {w W : World} {a : Option Addr} {n : Nat} {g : Nat → Pt} (h : PA w a n g) (hB : Below w.heap.size w W) : PA W a n g := fun i hi => by
  obtain ⟨b, o, e, hc⟩ := h i hi
  exact ⟨b, o, e, ptat_below hc hB⟩
theorem pa_less {w : World} {a : Option Addr} {n m : Nat} {g : Nat → Pt} (h : PA w a n g) (hm : m ≤ n) : PA w a m g := fun i hi => h i (by omega)
theorem pa_congr {w : World} {a : Option Addr} {n : Nat} {f g : Nat → Pt} (h : PA w a n f) (e : ∀ i, i < n → f i = g i) : PA w a n g := fun i hi => by rw [← e i hi]; exact h i hi
/-- An outline in memory: lists of points. -/
def OT (w : World) (a : Option Addr) (N : Nat) (ns : Nat → Nat) (g : Nat → Nat → Pt) : Prop :=
  ∀ k, k < N → ∃ b off a' c', a = some ⟨b, off, none⟩ ∧ w.cell? ⟨b, off + k, none⟩ = some (.slice a' (ns k) c') ∧ ns k ≤ c' ∧ c' ≤ 9223372036854775807 ∧ PA w a' (ns k) (g k)
theorem ot_below {w W : World} {a : Option Addr} {N : Nat} {ns : Nat → Nat} {g : Nat → Nat → Pt} (h : OT w a N ns g) (hB : Below w.heap.size w W) : OT W a N ns g := fun k hk => by
  obtain ⟨b, off, a', c', e, hc, h1, h2, hp⟩ := h k hk
  exact ⟨b, off, a', c', e, kc hB hc, h1, h2, pa_below hp hB⟩
theorem ot_less {w : World} {a : Option Addr} {N M : Nat} {ns : Nat → Nat} {g : Nat → Nat → Pt} (h : OT w a N ns g) (hm : M ≤ N) : OT w a M ns g := fun i hi => h i (by omega)
theorem ot_congr {w : World} {a : Option Addr} {N : Nat} {ns ns' : Nat → Nat} {g g' : Nat → Nat → Pt} (h : OT w a N ns g) (e1 : ∀ k, k < N → ns k = ns' k) (e2 : ∀ k, k < N → ∀ i, i < ns k → g k i = g' k i) : OT w a N ns' g' := fun k hk => by
  obtain ⟨b, off, a', c', e, hc, h1, h2, hp⟩ := h k hk
  refine ⟨b, off, a', c', e, by rw [← e1 k hk]; exact hc, by rw [← e1 k hk]; exact h1, h2, ?_⟩
  rw [← e1 k hk]
  exact pa_congr hp (e2 k hk)
/-- How many points the first contours have. -/
def pre (ns : Nat → Nat) : Nat → Nat
  | 0 => 0
  | k + 1 => pre ns k + ns k
theorem pre_mono (ns : Nat → Nat) {k : Nat} : ∀ {n : Nat}, k ≤ n → pre ns k ≤ pre ns n
  | 0, h => by obtain rfl : k = 0 := by omega
               exact Nat.le_refl _
  | n + 1, h => by
    rcases Nat.lt_or_ge n k with hk | hk
    · obtain rfl : k = n + 1 := by omega
      exact Nat.le_refl _
    · have := pre_mono ns hk
      rw [pre]
      omega
theorem pre_congr {ns ns' : Nat → Nat} : ∀ {n : Nat}, (∀ k, k < n → ns k = ns' k) → pre ns n = pre ns' n
  | 0, _ => rfl
  | n + 1, h => by rw [pre, pre, pre_congr (fun k hk => h k (by omega)), h n (by omega)]
set_option maxRecDepth 100000 in
set_option maxHeartbeats 1000000 in
theorem rCount_any (a : Option Addr) (N c : Nat) (ns : Nat → Nat) (g : Nat → Nat → Pt) (hN : N ≤ 1000000) (hs : pre ns N ≤ 1000000) (w : World) (hA : OT w a N ns g) :
    Calls Try.prog 16 #[.slice a N c] w fun e w' => e = .returned (.int .i64 (pre ns N : Nat)) ∧ w = w' := by
  have HA := Lib.hid hA
  clear hA
  go_enter Try.func16, Try.ntmps16
  go_wp2_with fail
  go_loop [3, 4] (fun n i => ∃ k : Nat, k ≤ N ∧ i = .int .i64 k ∧ n = .int .i64 (pre ns k : Nat)) (fun _ i => N - (intOf i).toNat)
  case atStart => exact ⟨0, Nat.zero_le _, rfl, rfl⟩
  case round =>
    obtain ⟨k, hk, rfl, rfl⟩ := hrel
    rcases Nat.lt_or_ge k N with hlt | hge
    · obtain ⟨b, off, a', c', rfl, hc, h1, h2, hp⟩ := HA.out k hlt
      have hm := pre_mono ns (show k + 1 ≤ N by omega)
      have he : Hid (pre ns (k + 1) = pre ns k + ns k) := Lib.hid rfl
      have hm2 : pre ns k + ns k ≤ 1000000 := by rw [← he.out]; omega
      clear hm hp
      go_wp2
      go_round
      case rel => exact ⟨k + 1, by omega, by go_num, by rw [he.out]; go_num⟩
      case measure => simp [intOf]; omega
    · obtain rfl : k = N := by omega
      go_wp2
      go_ret
      exact ⟨rfl, rfl⟩
/-- Whether a coordinate is in range. -/
def inC (n : Int) : Bool := decide (-512 ≤ n) && decide (n ≤ 512)
def okP (p : Pt) : Bool := inC p.x && inC p.y
def allP (g : Nat → Pt) : Nat → Bool
  | 0 => true
  | k + 1 => allP g k && okP (g k)
theorem allP_no {g : Nat → Pt} {i : Nat} (h : okP (g i) = false) : ∀ k, i < k → allP g k = false
  | 0, h0 => by omega
  | k + 1, h0 => by
    unfold allP
    rcases Nat.lt_or_ge i k with hlt | hge
    · rw [allP_no h k hlt]; rfl
    · obtain rfl : i = k := by omega
      rw [h, Bool.and_false]
/-- What a check says of a contour. -/
def ck3 (g : Nat → Pt) (n : Nat) : Int := if allP g n = false then 10 else 0
theorem ck3_yes {g : Nat → Pt} {n : Nat} (h : allP g n = true) : ck3 g n = 0 := by unfold ck3; rw [h]; rfl
theorem ck3_no {g : Nat → Pt} {n : Nat} (h : allP g n = false) : ck3 g n = 10 := by unfold ck3; rw [h]; rfl
def ckC (n : Nat) (g : Nat → Pt) : Int := if n < 3 then 11 else if (g 0).o = false then 11 else ck3 g n
def ckTo (ns : Nat → Nat) (g : Nat → Nat → Pt) : Nat → Int
  | 0 => 0
  | k + 1 => if ckTo ns g k = 0 then ckC (ns k) (g k) else ckTo ns g k
def ckO (N : Nat) (ns : Nat → Nat) (g : Nat → Nat → Pt) : Int := if 8 < N then 2 else if 64 < pre ns N then 2 else ckTo ns g N
def CcRel (w : World) (g : Nat → Pt) (n : Nat) (v : Value) (V : World) : Prop := ∃ k : Nat, v = .int .i64 k ∧ k ≤ n ∧ allP g k = true ∧ Below w.heap.size w V
def CkRel (w : World) (ns : Nat → Nat) (g : Nat → Nat → Pt) (N : Nat) (v : Value) (V : World) : Prop := ∃ k : Nat, v = .int .i64 k ∧ k ≤ N ∧ ckTo ns g k = 0 ∧ Below w.heap.size w V
theorem ckTo_no {ns : Nat → Nat} {g : Nat → Nat → Pt} {i : Nat} (h0 : ckTo ns g i = 0) (h : ¬ ckC (ns i) (g i) = 0) : ∀ k, i < k → ckTo ns g k = ckC (ns i) (g i)
  | 0, h1 => by omega
  | k + 1, h1 => by
    unfold ckTo
    rcases Nat.lt_or_ge i k with hlt | hge
    · rw [ckTo_no h0 h k hlt, if_neg h]
    · obtain rfl : i = k := by omega
      rw [if_pos h0]
end Go.Proofs.Ytdgagjcocohnnaa.Ot
