/-
  Layer 6 (outline): the chapter's example in memory.
-/
import Derived.Test.YtcogoomajfahkaaOtU
import Derived.Test.YtcogoomajfahkaaOtF
namespace Go.Proofs.Ytcogoomajfahkaa.Ot
open Go.RowKit
open Go.Proofs.Ytcogoomajfahkaa.Ax (Tns TA LA)
def exP (i : Nat) : Pt := match i with | 0 => ⟨0, 0, true⟩ | 1 => ⟨4, 8, false⟩ | 2 => ⟨8, 0, true⟩ | _ => p0
def exD (_ : Nat) : De := { K := 1, r := fun _ => ⟨0, 64, 64⟩, M := 3, x := fun i => match i with | 1 => 10 | 2 => 3 | _ => 0, y := fun i => match i with | 2 => -3 | _ => 0 }
structure EX (V : World) (Bo Bp Bd : Nat) : Prop where
  c : V.cell? ⟨Bo, 0, none⟩ = some (.slice (some ⟨Bp, 0, none⟩) 3 3)
  p : PA V (some ⟨Bp, 0, none⟩) 3 exP
  d : DA V (some ⟨Bd, 0, none⟩) 1 exD
theorem ex_below {V W : World} {Bo Bp Bd : Nat} (h : EX V Bo Bp Bd) (hB : Below V.heap.size V W) : EX W Bo Bp Bd := ⟨kc hB h.c, pa_below h.p hB, da_below h.d hB⟩
def hfP (i : Nat) : Pt := match i with | 0 => ⟨0, 0, true⟩ | 1 => ⟨9, 8, false⟩ | 2 => ⟨10, -1, true⟩ | _ => p0
def ftP (i : Nat) : Pt := match i with | 0 => ⟨0, 0, true⟩ | 1 => ⟨64, 96, true⟩ | 2 => ⟨128, 128, true⟩ | 3 => ⟨192, 96, true⟩ | 4 => ⟨256, 0, true⟩ | _ => p0
theorem pa_ex (V : World) (T : TypeId) : PA (V.alloc (.cells #[.int .i64 0, .int .i64 0, .bool true, .int .i64 4, .int .i64 8, .bool false, .int .i64 8, .int .i64 0, .bool true] T)) (some ⟨V.heap.size, 0, none⟩) 3 exP := by
  intro i hi
  have : i = 0 ∨ i = 1 ∨ i = 2 := by omega
  rcases this with rfl | rfl | rfl
  · exact ⟨_, _, rfl, by show World.cell? _ _ = some (Value.int IntKind.i64 0); go_cell, by show World.cell? _ _ = some (Value.int IntKind.i64 0); go_cell, by show World.cell? _ _ = some (Value.bool true); go_cell⟩
  · exact ⟨_, _, rfl, by show World.cell? _ _ = some (Value.int IntKind.i64 4); go_cell, by show World.cell? _ _ = some (Value.int IntKind.i64 8); go_cell, by show World.cell? _ _ = some (Value.bool false); go_cell⟩
  · exact ⟨_, _, rfl, by show World.cell? _ _ = some (Value.int IntKind.i64 8); go_cell, by show World.cell? _ _ = some (Value.int IntKind.i64 0); go_cell, by show World.cell? _ _ = some (Value.bool true); go_cell⟩
theorem pa_hf (V : World) (T : TypeId) : PA (V.alloc (.cells #[.int .i64 0, .int .i64 0, .bool true, .int .i64 9, .int .i64 8, .bool false, .int .i64 10, .int .i64 (-1), .bool true] T)) (some ⟨V.heap.size, 0, none⟩) 3 hfP := by
  intro i hi
  have : i = 0 ∨ i = 1 ∨ i = 2 := by omega
  rcases this with rfl | rfl | rfl
  · exact ⟨_, _, rfl, by show World.cell? _ _ = some (Value.int IntKind.i64 0); go_cell, by show World.cell? _ _ = some (Value.int IntKind.i64 0); go_cell, by show World.cell? _ _ = some (Value.bool true); go_cell⟩
  · exact ⟨_, _, rfl, by show World.cell? _ _ = some (Value.int IntKind.i64 9); go_cell, by show World.cell? _ _ = some (Value.int IntKind.i64 8); go_cell, by show World.cell? _ _ = some (Value.bool false); go_cell⟩
  · exact ⟨_, _, rfl, by show World.cell? _ _ = some (Value.int IntKind.i64 10); go_cell, by show World.cell? _ _ = some (Value.int IntKind.i64 (-1)); go_cell, by show World.cell? _ _ = some (Value.bool true); go_cell⟩
theorem pa_ft (V : World) (T : TypeId) : PA (V.alloc (.cells #[.int .i64 0, .int .i64 0, .bool true, .int .i64 64, .int .i64 96, .bool true, .int .i64 128, .int .i64 128, .bool true, .int .i64 192, .int .i64 96, .bool true, .int .i64 256, .int .i64 0, .bool true] T)) (some ⟨V.heap.size, 0, none⟩) 5 ftP := by
  intro i hi
  have : i = 0 ∨ i = 1 ∨ i = 2 ∨ i = 3 ∨ i = 4 := by omega
  rcases this with rfl | rfl | rfl | rfl | rfl
  · exact ⟨_, _, rfl, by show World.cell? _ _ = some (Value.int IntKind.i64 0); go_cell, by show World.cell? _ _ = some (Value.int IntKind.i64 0); go_cell, by show World.cell? _ _ = some (Value.bool true); go_cell⟩
  · exact ⟨_, _, rfl, by show World.cell? _ _ = some (Value.int IntKind.i64 64); go_cell, by show World.cell? _ _ = some (Value.int IntKind.i64 96); go_cell, by show World.cell? _ _ = some (Value.bool true); go_cell⟩
  · exact ⟨_, _, rfl, by show World.cell? _ _ = some (Value.int IntKind.i64 128); go_cell, by show World.cell? _ _ = some (Value.int IntKind.i64 128); go_cell, by show World.cell? _ _ = some (Value.bool true); go_cell⟩
  · exact ⟨_, _, rfl, by show World.cell? _ _ = some (Value.int IntKind.i64 192); go_cell, by show World.cell? _ _ = some (Value.int IntKind.i64 96); go_cell, by show World.cell? _ _ = some (Value.bool true); go_cell⟩
  · exact ⟨_, _, rfl, by show World.cell? _ _ = some (Value.int IntKind.i64 256); go_cell, by show World.cell? _ _ = some (Value.int IntKind.i64 0); go_cell, by show World.cell? _ _ = some (Value.bool true); go_cell⟩
theorem ex_new (w : World) : EX (((((w.alloc (.cells #[.int .i64 0, .int .i64 0, .bool true, .int .i64 4, .int .i64 8, .bool false, .int .i64 8, .int .i64 0, .bool true] 62)).alloc (.cells #[.slice (some ⟨w.heap.size, 0, none⟩) 3 3] 60)).alloc (.cells #[.int .i64 0, .int .i64 64, .int .i64 64] 70)).alloc (.cells #[.int .i64 0, .int .i64 0, .int .i64 10, .int .i64 0, .int .i64 3, .int .i64 (-3)] 39)).alloc (.cells #[.slice (some ⟨w.heap.size + 1 + 1, 0, none⟩) 1 1, .slice (some ⟨w.heap.size + 1 + 1 + 1, 0, none⟩) 3 3] 54)) (w.heap.size + 1) w.heap.size (w.heap.size + 1 + 1 + 1 + 1) := by
  refine ⟨by go_cell, pa_below (pa_ex w _) (ba (ba (ba (ba (Below.refl _ _) _) _) _) _), ?_⟩
  intro i hi
  obtain rfl : i = 0 := by omega
  refine ⟨_, 0, _, _, _, _, rfl, by show World.cell? _ _ = some (Value.slice (some ⟨w.heap.size + 1 + 1, 0, none⟩) 1 1); go_cell, by show World.cell? _ _ = some (Value.slice (some ⟨w.heap.size + 1 + 1 + 1, 0, none⟩) 3 3); go_cell, Nat.le_refl _, by decide, Nat.le_refl _, by decide, ?_, ?_⟩
  · intro i hi
    obtain rfl : i = 0 := by unfold exD at hi; simp only at hi; omega
    exact ⟨_, 0, rfl, by show World.cell? _ _ = some (Value.int IntKind.i64 0); go_cell, by show World.cell? _ _ = some (Value.int IntKind.i64 64); go_cell, by show World.cell? _ _ = some (Value.int IntKind.i64 64); go_cell⟩
  · intro i hi
    have : i = 0 ∨ i = 1 ∨ i = 2 := by unfold exD at hi; simp only at hi; omega
    rcases this with rfl | rfl | rfl
    · exact ⟨_, 0, rfl, by show World.cell? _ _ = some (Value.int IntKind.i64 0); go_cell, by show World.cell? _ _ = some (Value.int IntKind.i64 0); go_cell⟩
    · exact ⟨_, 0, rfl, by show World.cell? _ _ = some (Value.int IntKind.i64 10); go_cell, by show World.cell? _ _ = some (Value.int IntKind.i64 0); go_cell⟩
    · exact ⟨_, 0, rfl, by show World.cell? _ _ = some (Value.int IntKind.i64 3); go_cell, by show World.cell? _ _ = some (Value.int IntKind.i64 (-3)); go_cell⟩
set_option maxRecDepth 100000 in
set_option maxHeartbeats 4000000 in
theorem example_any (w : World) :
    Calls Try.prog 33 #[] w fun e w' => ∃ Bo Bp Bd, e = .returned (.tuple #[.slice (some ⟨Bo, 0, none⟩) 1 1, .slice (some ⟨Bd, 0, none⟩) 1 1]) ∧ EX w' Bo Bp Bd ∧ Below w.heap.size w w' := by
  go_enter Try.func33, Try.ntmps33
  go_wp2_with fail
  go_ret2
  exact ⟨_, _, _, rfl, ex_new w, ba (ba (ba (ba (ba (Below.refl _ _) _) _) _) _) _⟩
/-- One contour. -/
theorem ot_one {V : World} {b c n : Nat} {a : Option Addr} {g : Nat → Pt} (hc : V.cell? ⟨b, 0, none⟩ = some (.slice a n c)) (h1 : n ≤ c) (h2 : c ≤ 9223372036854775807) (hp : PA V a n g) : OT V (some ⟨b, 0, none⟩) 1 (fun _ => n) (fun _ => g) := fun k hk => by
  obtain rfl : k = 0 := by omega
  exact ⟨b, 0, a, c, rfl, hc, h1, h2, hp⟩
def at1 : Nat → Int := fun _ => 32
def at2 : Nat → Int | 0 => 32 | _ => 0
def cD : Nat → Pt := fun i => exP (i + 1)
theorem e_ck : ckO 1 (fun _ => 3) (fun _ => exP) = 0 := by decide +kernel
theorem e_ck2 : ckO 1 (fun _ => 2) (fun _ => exP) = 11 := by decide +kernel
theorem e_ck3 : ckO 1 (fun _ => 2) (fun _ => cD) = 11 := by decide +kernel
theorem e_n : pre (fun _ => 3) 1 = 3 := rfl
theorem e_bx : rcV (bxO 1 (fun _ => 3) (fun _ => exP)) = .agg #[.int .i64 0, .int .i64 0, .int .i64 8, .int .i64 8] := by rfl
theorem e_d1 : ckD exD 1 1 3 = 0 := by decide +kernel
theorem e_d2 : ckD exD 1 2 3 = 12 := by decide +kernel
theorem e_in : ∀ i, i < 3 → inst (fun _ => 3) (fun _ => exP) exD (Ax.ps 1 at1) 1 0 i = hfP i := by
  intro i hi
  have : i = 0 ∨ i = 1 ∨ i = 2 := by omega
  rcases this with rfl | rfl | rfl
  · exact pt_ext (by decide +kernel) (by decide +kernel) (by decide +kernel)
  · exact pt_ext (by decide +kernel) (by decide +kernel) (by decide +kernel)
  · exact pt_ext (by decide +kernel) (by decide +kernel) (by decide +kernel)
theorem e_fn : flN (fun _ => 3) (fun _ => exP) 0 = 5 := by decide +kernel
theorem e_fp : ∀ i, i < 5 → flP (fun _ => 3) (fun _ => exP) 0 i = ftP i := by
  intro i hi
  have : i = 0 ∨ i = 1 ∨ i = 2 ∨ i = 3 ∨ i = 4 := by omega
  rcases this with rfl | rfl | rfl | rfl | rfl
  · exact pt_ext (by decide +kernel) (by decide +kernel) (by decide +kernel)
  · exact pt_ext (by decide +kernel) (by decide +kernel) (by decide +kernel)
  · exact pt_ext (by decide +kernel) (by decide +kernel) (by decide +kernel)
  · exact pt_ext (by decide +kernel) (by decide +kernel) (by decide +kernel)
  · exact pt_ext (by decide +kernel) (by decide +kernel) (by decide +kernel)
end Go.Proofs.Ytcogoomajfahkaa.Ot
