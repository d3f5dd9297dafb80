/-
  Layer 4 (bitmap): Mod and Draw.Next of the document's own.
-/
import Derived.Test.YtfkpodhkbcocmaaBmP
namespace Go.Proofs.Ytfkpodhkbcocmaa.Bm
open Go.RowKit
theorem mod_any (n m : Int) (hn : R64 n) (hm : 1 ≤ m ∧ m ≤ 1000000) (w : World) :
    Calls Try.prog 23 #[.int .i64 n, .int .i64 m] w fun e w' => e = .returned (.int .i64 (n % m)) ∧ w' = w := by
  obtain ⟨hn0, hn1⟩ := hn
  obtain ⟨hm0, hm1⟩ := hm
  have hne : (m == 0) = false := beq_eq_false_iff_ne.2 (by omega)
  have hz : ¬ m = 0 := by omega
  have a1 : n.tmod m < m := Int.tmod_lt_of_pos n (by omega)
  have a2 : -m < n.tmod m := by
    have h : (n.tmod m).natAbs < m.natAbs := by rw [Int.natAbs_tmod]; exact Nat.mod_lt _ (by omega)
    omega
  have e : (n.tmod m + m) % m = n % m := by
    rw [Int.add_emod_right]
    have h := Int.tmod_add_mul_tdiv n m
    have h2 : n = n.tmod m + m * n.tdiv m := by omega
    have h3 : n % m = (n.tmod m + m * n.tdiv m) % m := by rw [← h2]
    rw [h3, Int.add_mul_emod_self_left]
  have H := Lib.hid e
  clear e
  go_enter Try.func23, Try.ntmps23
  go_wp2
  go_ret
  exact ⟨congrArg (fun n : Int => Ending.returned (Value.int .i64 n)) H.out, rfl⟩
/-- Integers in memory. -/
def LA (w : World) (a : Option Addr) (n : Nat) (l : Nat → Int) : Prop :=
  ∀ i, i < n → ∃ b o, a = some ⟨b, o, none⟩ ∧ w.cell? ⟨b, o + i, none⟩ = some (.int .i64 (l i))
theorem la_below {w W : World} {a : Option Addr} {n : Nat} {l : Nat → Int} (h : LA w a n l) (hB : Below w.heap.size w W) : LA W a n l := fun i hi => by
  obtain ⟨b, o, e, hc⟩ := h i hi
  exact ⟨b, o, e, kc hB (block_lt_of_cell hc) hc⟩
theorem la_fr {w W : World} {a : Option Addr} {n : Nat} {l : Nat → Int} {ta : Option Addr} (h : LA w a n l) (hF : FR w W ta) (hne : ∀ q q', a = some q → ta = some q' → q.block ≠ q'.block) : LA W a n l := fun i hi => by
  obtain ⟨b, o, e, hc⟩ := h i hi
  exact ⟨b, o, e, (hF.cell hc (fun q hq => hne _ _ e hq)).1⟩
/-- The draws from a list. -/
def DS (V : World) (B : Nat) (a : Option Addr) (L c k : Nat) : Prop := V.cell? ⟨B, 0, none⟩ = some (.slice a L c) ∧ V.cell? ⟨B, 1, none⟩ = some (.int .i64 k) ∧ V.frozen? ⟨B, 1, none⟩ = false
def nxV (L : Nat) (l : Nat → Int) (k : Nat) (n : Int) : Int := if k < L then l k % n else 0
def nxA (L k : Nat) : Nat := if k < L then k + 1 else k
theorem nxV_in {L : Nat} {l : Nat → Int} {k : Nat} {n : Int} (hn : 1 ≤ n) : 0 ≤ nxV L l k n ∧ nxV L l k n < n := by
  unfold nxV
  split
  · exact ⟨Int.emod_nonneg _ (by omega), Int.emod_lt_of_pos _ (by omega)⟩
  · omega
theorem nxA_le {L k : Nat} (h : k ≤ L) : nxA L k ≤ L := by unfold nxA; split <;> omega
theorem ds_below {w W : World} {B : Nat} {a : Option Addr} {L c k : Nat} (h : DS w B a L c k) (hB : Below w.heap.size w W) : DS W B a L c k :=
  ⟨kc hB (block_lt_of_cell h.1) h.1, kc hB (block_lt_of_cell h.2.1) h.2.1, kf hB (block_lt_of_cell h.2.1) h.2.2⟩
set_option maxHeartbeats 2000000 in
theorem Next_any (B : Nat) (a : Option Addr) (L c k : Nat) (l : Nat → Int) (n : Int) (hn : 1 ≤ n ∧ n ≤ 1000000) (hL : L ≤ 9223372036854775807) (hk : k ≤ L) (w : World) (hS : DS w B a L c k) (hD : LA w a L l) (hl : ∀ i, i < L → R64 (l i)) (hne : ∀ q, a = some q → 0 < L → q.block ≠ B) :
    Calls Try.prog 47 #[.pointer (some ⟨B, 0, none⟩), .int .i64 n] w fun e w' => e = .returned (.int .i64 (nxV L l k n)) ∧ DS w' B a L c (nxA L k) ∧ FR w w' (some ⟨B, 0, none⟩) := by
  obtain ⟨s0, s1, s2⟩ := hS
  unfold nxV nxA
  rcases Nat.lt_or_ge k L with hlt | hge
  · rw [if_pos hlt, if_pos hlt]
    obtain ⟨b, o, rfl, hc⟩ := hD k hlt
    have M := Lib.hid (fun w => mod_any (l k) n (hl k hlt) (by omega) w)
    have hbB : ¬ B = b := fun e => hne _ rfl (by omega) e.symm
    clear hD hl hne
    generalize l k = x at *
    go_enter Try.func47, Try.ntmps47
    go_wp2
    go_quiet (fail)
    go_wp2
    have v0 : ((w.drewN nq).setCell ⟨B, 1, none⟩ (.int .i64 ((k : Int) + 1))).cell? ⟨B, 0, none⟩ = some (.slice (some ⟨b, o, none⟩) L c) := by go_cell
    have v1 : ((w.drewN nq).setCell ⟨B, 1, none⟩ (.int .i64 ((k : Int) + 1))).cell? ⟨B, 1, none⟩ = some (.int .i64 ((k : Int) + 1)) := by go_cell
    have v2 : ((w.drewN nq).setCell ⟨B, 1, none⟩ (.int .i64 ((k : Int) + 1))).frozen? ⟨B, 1, none⟩ = false := by go_cell
    have v3 : ((w.drewN nq).setCell ⟨B, 1, none⟩ (.int .i64 ((k : Int) + 1))).cell? ⟨b, o + k, none⟩ = some (.int .i64 x) := by go_cell
    have hF : FR w ((w.drewN nq).setCell ⟨B, 1, none⟩ (.int .i64 ((k : Int) + 1))) (some ⟨B, 0, none⟩) := FR.set ((FR.refl w _).below (bd (Below.refl _ _) nq)) _
    clear s0 s1 s2 hc
    generalize ((w.drewN nq).setCell ⟨B, 1, none⟩ (.int .i64 ((k : Int) + 1))) = V at *
    have e1 : IntKind.i64.wrap ((k : Int) + 1 - 1) = (k : Int) := by rw [Int.add_sub_cancel]; exact iwrap_id ⟨by omega, by omega⟩
    have e2 : (0 : Int) ≤ k := by omega
    go_quiet ((go_at_call 23; exact Calls.quiet_of_same (M.out _)))
    go_wp2
    go_ret
    exact ⟨rfl, ⟨v0, by simpa using v1, v2⟩, hF.below (bd (Below.refl _ _) _)⟩
  · rw [if_neg (by omega), if_neg (by omega)]
    obtain rfl : k = L := by omega
    clear hD hl hne
    go_enter Try.func47, Try.ntmps47
    go_wp2
    go_quiet (fail)
    go_wp2
    go_ret
    exact ⟨rfl, ⟨s0, s1, s2⟩, (FR.refl w _).below (bd (Below.refl _ _) _)⟩
end Go.Proofs.Ytfkpodhkbcocmaa.Bm
