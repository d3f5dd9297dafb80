/-
  The walks of layer 1 (exact): plus, minus, sign and fold of two words.
-/
import Derived.Test.YtdgagjcocohnnaaExB
import Derived.Laws.Externs
import Derived.Deep.QuietTactic
namespace Go.Proofs.Ytdgagjcocohnnaa.Ex
open Go.RowKit

theorem add64_run (x y c : Int) (hx : 0 ≤ x) (hy : 0 ≤ y) (hc0 : 0 ≤ c) (hc : c ≤ 1) (w : World) :
    (callFunc 82 #[.int .u64 x, .int .u64 y, .int .u64 c]).run Try.prog w =
      .ok (.value (.tuple #[.int .u64 ((x + y + c) % 18446744073709551616), .int .u64 ((x + y + c) / 18446744073709551616)])) w := by
  rw [run_callFunc_extern Try.func82 (by kernel_rfl) (by kernel_rfl) (by kernel_rfl) (e := add64Entry) (by kernel_rfl), run_add64 x y c hx hy hc0 hc]
  rfl

/-- What the model has for Sub64. -/
def subEntry : Array Value → Sem Value := fun args => do
  let (x, y, b) ← Extern.MathBitsCarry.three "Sub64" args
  pure (Extern.MathBitsCarry.pair ((x + Extern.MathBitsCarry.m64 - y - b) % Extern.MathBitsCarry.m64) (if x < y + b then 1 else 0))
theorem run_subEntry (x y b : Nat) (hb : b ≤ 1) (w : World) :
    (subEntry #[.int .u64 x, .int .u64 y, .int .u64 b]).run Try.prog w =
      .ok (.tuple #[.int .u64 (((x + 18446744073709551616 - y - b) % 18446744073709551616 : Nat) : Int), .int .u64 ((if x < y + b then 1 else 0 : Nat) : Int)]) w := by
  have : b = 0 ∨ b = 1 := by omega
  rcases this with rfl | rfl <;> rfl
/-- Cells of old blocks read behind a call as before. -/
theorem bcell {W w1 : World} (hb : Below W.heap.size W w1) : (∀ b o, b < W.heap.size → w1.cell? ⟨b, o, none⟩ = W.cell? ⟨b, o, none⟩) ∧ (∀ b o, b < W.heap.size → w1.frozen? ⟨b, o, none⟩ = W.frozen? ⟨b, o, none⟩) :=
  ⟨fun b o h => hb.cell (p := ⟨b, o, none⟩) h, fun b o h => hb.frozen (p := ⟨b, o, none⟩) h⟩

/-- A cell that is there reads behind a call as before, and may be written as before. -/
theorem kc {W w1 : World} (hb : Below W.heap.size W w1) {b o : Nat} {v : Value} (h : W.cell? ⟨b, o, none⟩ = some v) : w1.cell? ⟨b, o, none⟩ = some v := by
  rw [hb.cell (p := ⟨b, o, none⟩) (block_lt_of_cell h)]; exact h
theorem kf {W w1 : World} (hb : Below W.heap.size W w1) {b o : Nat} {v : Value} {t : Bool} (h : W.cell? ⟨b, o, none⟩ = some v) (f : W.frozen? ⟨b, o, none⟩ = t) : w1.frozen? ⟨b, o, none⟩ = t := by
  rw [hb.frozen (p := ⟨b, o, none⟩) (block_lt_of_cell h)]; exact f
/-- What the calls leave, one behind the other. -/
theorem bt {w u v : World} (h1 : Below w.heap.size w u) (h2 : Below u.heap.size u v) : Below w.heap.size w v := h1.trans (h2.mono h1.size)
theorem ba {w u : World} (h : Below w.heap.size w u) (o : Obj) : Below w.heap.size w (u.alloc o) := h.alloc h.size o
theorem bs {w u : World} (h : Below w.heap.size w u) {p : Addr} (hp : w.heap.size ≤ p.block) (v : Value) : Below w.heap.size w (u.setCell p v) := h.setCell hp v
theorem bd {w u : World} (h : Below w.heap.size w u) (n : Nat) : Below w.heap.size w (u.drewN n) := ⟨h.os, h.tape, h.output, h.size, h.block⟩
theorem bd1 {w u : World} (h : Below w.heap.size w u) : Below w.heap.size w u.drew := ⟨h.os, h.tape, h.output, h.size, h.block⟩

theorem plus_any (x y : Int) (w : World) :
    Calls Try.prog 75 #[wideV x, wideV y] w fun e w' => e = .returned (wideV (x + y)) ∧ Below w.heap.size w w' := by
  obtain ⟨hx0, hx1⟩ := hiW_bd x
  obtain ⟨hy0, hy1⟩ := hiW_bd y
  obtain ⟨lx0, lx1⟩ := loW_bd x
  obtain ⟨ly0, ly1⟩ := loW_bd y
  unfold wideV
  obtain ⟨s, c, H1, hc0, hc1, r1⟩ : ∃ s c : Int, Hid (s = (loW x + loW y + 0) % 18446744073709551616 ∧ c = (loW x + loW y + 0) / 18446744073709551616) ∧ 0 ≤ c ∧ c ≤ 1 ∧ ∀ w, (callFunc 82 #[.int .u64 (loW x), .int .u64 (loW y), .int .u64 0]).run Try.prog w = .ok (.value (.tuple #[.int .u64 s, .int .u64 c])) w :=
    ⟨_, _, Lib.hid ⟨rfl, rfl⟩, by omega, by omega, fun w => add64_run _ _ 0 lx0 ly0 (by omega) (by omega) w⟩
  obtain ⟨t, d, H2, r2⟩ : ∃ t d : Int, Hid (t = (hiW x + hiW y + c) % 18446744073709551616) ∧ ∀ w, (callFunc 82 #[.int .u64 (hiW x), .int .u64 (hiW y), .int .u64 c]).run Try.prog w = .ok (.value (.tuple #[.int .u64 t, .int .u64 d])) w :=
    ⟨_, _, Lib.hid rfl, fun w => add64_run _ _ c hx0 hy0 hc0 hc1 w⟩
  generalize hx : hiW x = a at *
  generalize hy : hiW y = b at *
  generalize lx : loW x = f at *
  generalize ly : loW y = g at *
  have K := Lib.hid (And.intro hx (And.intro hy (And.intro lx ly)))
  clear hx hy lx ly
  go_enter Try.func75, Try.ntmps75
  go_wp2
  go_returns
  refine ⟨wide_mk ?_ ?_, by go_grown⟩
  · obtain ⟨k1, k2, k3, k4⟩ := K.out
    have h1 := H1.out
    rw [H2.out, h1.2, ← k1, ← k2, ← k3, ← k4]
    unfold hiW loW; omega
  · obtain ⟨k1, k2, k3, k4⟩ := K.out
    have h1 := H1.out
    rw [h1.1, ← k3, ← k4]
    unfold loW; omega

theorem sgn_wide (x : Int) (h : fits2 x) : (hiW x = 0 → sgn (loW x) = sgn x) ∧ (0 < hiW x → hiW x < 9223372036854775808 → sgn (hiW x) = sgn x) ∧ (9223372036854775808 ≤ hiW x → sgn (wrap64 (hiW x)) = sgn x) := by
  unfold fits2 at h
  refine ⟨fun h0 => ?_, fun h0 h1 => ?_, fun h0 => ?_⟩
  · have : loW x = x := by unfold hiW at h0; unfold loW; omega
    rw [this]
  · unfold hiW at *
    have e : (x / 18446744073709551616) % 18446744073709551616 = x / 18446744073709551616 := by omega
    rw [e] at *
    unfold sgn
    rw [if_neg (by omega), if_pos (by omega), if_neg (by omega), if_pos (by omega)]
  · unfold hiW at *
    have e : wrap64 ((x / 18446744073709551616) % 18446744073709551616) = x / 18446744073709551616 := by unfold wrap64; omega
    rw [e] at *
    unfold sgn
    rw [if_pos (by omega), if_pos (by omega)]

theorem fold_hi (x : Int) (h : fits2 x) : 9223372036854775808 ≤ hiW x ↔ x < 0 := by unfold fits2 at h; unfold hiW; omega


theorem xor_zero (a : Int) (h0 : 0 ≤ a) (h1 : a < 18446744073709551616) : bits .xor .u64 a 0 = a := by
  obtain ⟨n, rfl⟩ := Int.eq_ofNat_of_zero_le h0
  have h := bits_xor_u64_nat n 0 (by omega) (by omega)
  rw [Nat.xor_zero] at h
  exact h
theorem xor_ones (a : Int) (h0 : 0 ≤ a) (h1 : a < 18446744073709551616) : bits .xor .u64 a 18446744073709551615 = 18446744073709551615 - a := by
  obtain ⟨n, rfl⟩ := Int.eq_ofNat_of_zero_le h0
  have h := bits_xor_u64_nat n 18446744073709551615 (by omega) (by omega)
  have e : n ^^^ 18446744073709551615 = 18446744073709551615 - n := by
    have h2 : (18446744073709551615 - n) = 2 ^ 64 - (n + 1) := by omega
    rw [h2]
    apply Nat.eq_of_testBit_eq
    intro i
    rw [Nat.testBit_two_pow_sub_succ (by omega), Nat.testBit_xor, show (18446744073709551615 : Nat) = 2 ^ 64 - 1 from rfl, Nat.testBit_two_pow_sub_one]
    by_cases hi : i < 64
    · simp [hi]
    · have : n.testBit i = false := Nat.testBit_lt_two_pow (Nat.lt_of_lt_of_le (show n < 2 ^ 64 by omega) (Nat.pow_le_pow_right (by omega) (by omega)))
      simp [hi, this]
  rw [e] at h
  rw [show (18446744073709551615 : Int) - (n : Int) = ((18446744073709551615 - n : Nat) : Int) by omega]
  exact h

end Go.Proofs.Ytdgagjcocohnnaa.Ex
