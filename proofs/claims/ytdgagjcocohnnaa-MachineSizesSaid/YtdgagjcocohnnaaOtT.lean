/-
  Layer 6 (outline): Scale and Shift of the program.
-/
import Derived.Test.YtdgagjcocohnnaaOtS
import Derived.Test.YtdgagjcocohnnaaOtG
namespace Go.Proofs.Ytdgagjcocohnnaa.Ot
open Go.RowKit
theorem oo_lo {w : World} {n₀ n₁ S N : Nat} {ns B : Nat → Nat} {g : Nat → Nat → Pt} (h : OO w n₀ S N ns B g) (hn : n₁ ≤ n₀) : OO w n₁ S N ns B g :=
  ⟨Nat.le_trans hn h.lo, h.cell, h.pts, fun k hk h0 => ⟨Nat.le_trans hn (h.far k hk h0).1, (h.far k hk h0).2⟩, h.own⟩
def scP (n : Int) (p : Pt) : Pt := ⟨wrap64 (n * p.x), wrap64 (n * p.y), p.o⟩
def shP (x y : Int) (p : Pt) : Pt := ⟨wrap64 (p.x + x), wrap64 (p.y + y), p.o⟩
set_option maxRecDepth 100000 in
set_option maxHeartbeats 4000000 in
theorem Shift1_any (k : Int) (p : Pt) (X Y : Nat) (x y : Int) (w : World) (hx : w.cell? ⟨X, 0, none⟩ = some (.int .i64 x)) (hy : w.cell? ⟨Y, 0, none⟩ = some (.int .i64 y)) :
    Calls Try.prog 35 #[.int .i64 k, .agg #[.int .i64 p.x, .int .i64 p.y, .bool p.o], .pointer (some ⟨X, 0, none⟩), .pointer (some ⟨Y, 0, none⟩)] w fun e w' => e = .returned (.agg #[.int .i64 (shP x y p).x, .int .i64 (shP x y p).y, .bool (shP x y p).o]) ∧ Below w.heap.size w w' := by
  obtain ⟨qx, hqx⟩ : ∃ q, wrap64 (p.x + x) = q := ⟨_, rfl⟩
  obtain ⟨qy, hqy⟩ : ∃ q, wrap64 (p.y + y) = q := ⟨_, rfl⟩
  unfold shP
  simp only
  rw [hqx, hqy]
  have hlt := block_lt_of_cell hx
  have hlt2 := block_lt_of_cell hy
  simp only at hlt hlt2
  have n1 : ¬ X = w.heap.size := by omega
  have n2 : ¬ X = w.heap.size + 1 := by omega
  have n3 : ¬ Y = w.heap.size := by omega
  have n4 : ¬ Y = w.heap.size + 1 := by omega
  go_enter Try.func35, Try.ntmps35
  go_wp2_with fail
  refine bodyPost_ret (v := .agg #[.int .i64 qx, .int .i64 qy, .bool p.o]) (by simp [results, Try.results35, go_sem, *]) rfl ⟨rfl, ?_⟩
  exact ba (ba (Below.refl _ _) _) _
set_option maxRecDepth 100000 in
set_option maxHeartbeats 4000000 in
theorem Shift_any (a : Option Addr) (N c : Nat) (ns : Nat → Nat) (g : Nat → Nat → Pt) (x y : Int) (hN : N ≤ 1000000) (hs : pre ns N ≤ 1000000) (w : World) (hA : OT w a N ns g) :
    Calls Try.prog 25 #[.slice a N c, .int .i64 x, .int .i64 y] w fun e w' => ∃ S B, e = .returned (.slice (some ⟨S, 0, none⟩) N N) ∧ OO w' w.heap.size S N ns B (fun k i => shP x y (g k i)) ∧ Below w.heap.size w w' := by
  have hb : Below w.heap.size w ((w.alloc (.cells #[.int .i64 x] 3)).alloc (.cells #[.int .i64 y] 3)) := ba (ba (Below.refl _ _) _) _
  have CH := Lib.hid (changed_any a N c ns g hN hs ((w.alloc (.cells #[.int .i64 x] 3)).alloc (.cells #[.int .i64 y] 3)) (ot_below hA hb) 35 #[.pointer (some ⟨w.heap.size, 0, none⟩), .pointer (some ⟨w.heap.size + 1, 0, none⟩)] (fun _ p => shP x y p)
    (enters_of Try.func35 (by kernel_rfl) rfl) (fun j p V _ hB => Shift1_any j p w.heap.size (w.heap.size + 1) x y V (kc hB (by go_cell)) (kc hB (by go_cell))))
  clear hA
  go_enter Try.func25, Try.ntmps25
  go_wp2_with fail
  refine CH.out.mono ?_
  rintro e V ⟨S, B, rfl, hO, hB⟩
  go_wp2
  go_ret
  exact ⟨S, B, rfl, oo_lo hO (by simp; omega), bt hb hB⟩
end Go.Proofs.Ytdgagjcocohnnaa.Ot
