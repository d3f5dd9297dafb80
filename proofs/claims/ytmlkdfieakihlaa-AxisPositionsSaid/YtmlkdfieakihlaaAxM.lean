/-
  Layer 5 (axis): the chapter's examples.
-/
import Derived.Test.YtmlkdfieakihlaaAxL
namespace Go.Proofs.Ytmlkdfieakihlaa.Ax
open Go.RowKit
open Go.Proofs.Ytmlkdfieakihlaa.Ex (MuN MuD MuB okR fits redN redD)

/-- The axis of the examples. -/
def axE : Axs := ⟨⟨#[119, 103, 104, 116]⟩, 100, 400, 900⟩
theorem ck_axE : ck1 axE = 0 := by decide +kernel
def usE : Nat → Int | 0 => 100 | 1 => 250 | 2 => 400 | 3 => 500 | 4 => 900 | _ => 2000
def waE : Nat → Int | 0 => -64 | 1 => -32 | 2 => 0 | 3 => 13 | 4 => 64 | _ => 64
theorem nmE_is (k : Nat) : nm axE (usE k) = waE k := by
  match k with
  | 0 => decide +kernel
  | 1 => decide +kernel
  | 2 => decide +kernel
  | 3 => decide +kernel
  | 4 => decide +kernel
  | n + 5 => show nm axE 2000 = 64; decide +kernel
theorem usE1 : us axE (-64) = 100 := by decide +kernel
theorem usE2 : us axE (-32) = 250 := by decide +kernel
theorem usE3 : us axE 13 = 502 := by decide +kernel
def tnU : Tns := ⟨0, 64, 64⟩
def tn2 : Nat → Tns | 0 => ⟨0, 32, 64⟩ | _ => ⟨-64, -64, 0⟩
def at2 : Nat → Int | 0 => 48 | _ => -16
def tnW : Tns := ⟨-64, 0, 64⟩
theorem scE1 : scal (fun _ => tnU) 1 (ps 1 (fun _ => 16)) = (1, 4) := by decide +kernel
theorem scE2 : scal (fun _ => tnU) 1 (ps 1 (fun _ => 64)) = (1, 1) := by decide +kernel
theorem scE3 : scal (fun _ => tnU) 1 (ps 1 (fun _ => -5)) = (0, 1) := by decide +kernel
theorem scE4 : scal tn2 2 (ps 2 at2) = (1, 8) := by decide +kernel
theorem scE5 : scal (fun _ => tnW) 1 (ps 1 (fun _ => 50)) = (1, 1) := by decide +kernel
theorem ftE1 : fit (fun _ => tnU) 1 1 = true := by decide +kernel
theorem ftE2 : fit (fun _ => (⟨-1, 1, 2⟩ : Tns)) 1 1 = false := by decide +kernel
theorem ckE2 : ckL (fun _ => axE) 2 = 6 := by decide +kernel
theorem ta_one {w : World} {b : Nat} {x : Tns} (h : BxT w b x) : TA w (some ⟨b, 0, none⟩) 1 (fun _ => x) := fun i hi => by
  obtain rfl : i = 0 := by omega
  exact ⟨b, 0, rfl, h⟩
theorem la_one {w : World} {b : Nat} {v : Int} (h : w.cell? ⟨b, 0, none⟩ = some (.int .i64 v)) : LA w (some ⟨b, 0, none⟩) 1 (fun _ => v) := fun i hi => by
  obtain rfl : i = 0 := by omega
  exact ⟨b, 0, rfl, h⟩
theorem x_check (x : Axs) (z : Int) (hz : ck1 x = z) (w : World) (b : Nat) (h : BxA w b x) :
    Calls Try.prog 13 #[.slice (some ⟨b, 0, none⟩) 1 1] w fun e w' => e = .returned (.int .i64 z) ∧ Below w.heap.size w w' := by
  have := Check_any (some ⟨b, 0, none⟩) 1 1 (fun _ => x) (by omega) w (aa_one h)
  rw [ckL_one, hz] at this
  exact this
theorem x_scal (x : Tns) (v : Int) (r : Int × Int) (hr : scal (fun _ => x) 1 (ps 1 (fun _ => v)) = r) (w : World) (b c : Nat) (h : BxT w b x) (hc : w.cell? ⟨c, 0, none⟩ = some (.int .i64 v)) :
    Calls Try.prog 21 #[.slice (some ⟨b, 0, none⟩) 1 1, .slice (some ⟨c, 0, none⟩) 1 1] w fun e w' => e = .returned (.agg #[.int .i64 r.1, .int .i64 r.2]) ∧ Below w.heap.size w w' := by
  have := Scalar_any (some ⟨b, 0, none⟩) 1 1 (fun _ => x) (some ⟨c, 0, none⟩) 1 1 (fun _ => v) (by omega) w (ta_one h) (la_one hc)
  rw [hr] at this
  exact this
theorem x_norm (x : Axs) (v : Int) (hz : ck1 x = 0) (w : World) (b c : Nat) (h : BxA w b x) (hc : w.cell? ⟨c, 0, none⟩ = some (.int .i64 v)) :
    Calls Try.prog 11 #[.slice (some ⟨b, 0, none⟩) 1 1, .slice (some ⟨c, 0, none⟩) 1 1] w fun e w' => ∃ S, e = .returned (.tuple #[.slice (some ⟨S, 0, none⟩) 1 1, .int .i64 0]) ∧ w'.cell? ⟨S, 0, none⟩ = some (.int .i64 (nm x v)) ∧ Below w.heap.size w w' := by
  refine (Normal_ok (some ⟨b, 0, none⟩) 1 1 (fun _ => x) (some ⟨c, 0, none⟩) 1 (fun _ => v) (by omega) w (aa_one h) (la_one hc) (by rw [ckL_one, hz])).mono ?_
  rintro e w' ⟨S, rfl, hO, hS, hB⟩
  exact ⟨S, rfl, (hO 0 (by omega)).1, hB⟩
theorem x_sc (l p h v r0 r1 : Int) (hr : scal (fun _ => (⟨l, p, h⟩ : Tns)) 1 (ps 1 (fun _ => v)) = (r0, r1)) (w : World) (b c : Nat) (h0 : w.cell? ⟨b, 0, none⟩ = some (.int .i64 l)) (h1 : w.cell? ⟨b, 1, none⟩ = some (.int .i64 p)) (h2 : w.cell? ⟨b, 2, none⟩ = some (.int .i64 h)) (h3 : w.cell? ⟨c, 0, none⟩ = some (.int .i64 v)) :
    Calls Try.prog 21 #[.slice (some ⟨b, 0, none⟩) 1 1, .slice (some ⟨c, 0, none⟩) 1 1] w fun e w' => e = .returned (.agg #[.int .i64 r0, .int .i64 r1]) ∧ Below w.heap.size w w' :=
  x_scal ⟨l, p, h⟩ v (r0, r1) hr w b c ⟨h0, h1, h2⟩ h3
theorem x_sc2 (w : World) (b c : Nat) (h0 : w.cell? ⟨b, 0, none⟩ = some (.int .i64 0)) (h1 : w.cell? ⟨b, 1, none⟩ = some (.int .i64 32)) (h2 : w.cell? ⟨b, 2, none⟩ = some (.int .i64 64)) (h3 : w.cell? ⟨b, 3, none⟩ = some (.int .i64 (-64))) (h4 : w.cell? ⟨b, 4, none⟩ = some (.int .i64 (-64))) (h5 : w.cell? ⟨b, 5, none⟩ = some (.int .i64 0)) (h6 : w.cell? ⟨c, 0, none⟩ = some (.int .i64 48)) (h7 : w.cell? ⟨c, 1, none⟩ = some (.int .i64 (-16))) :
    Calls Try.prog 21 #[.slice (some ⟨b, 0, none⟩) 2 2, .slice (some ⟨c, 0, none⟩) 2 2] w fun e w' => e = .returned (.agg #[.int .i64 1, .int .i64 8]) ∧ Below w.heap.size w w' := by
  have := Scalar_any (some ⟨b, 0, none⟩) 2 2 tn2 (some ⟨c, 0, none⟩) 2 2 at2 (by omega) w (fun i hi => by
    have : i = 0 ∨ i = 1 := by omega
    rcases this with rfl | rfl
    · exact ⟨b, 0, rfl, h0, h1, h2⟩
    · exact ⟨b, 0, rfl, h3, h4, h5⟩) (fun i hi => by
    have : i = 0 ∨ i = 1 := by omega
    rcases this with rfl | rfl
    · exact ⟨c, 0, rfl, h6⟩
    · exact ⟨c, 0, rfl, h7⟩)
  rw [scE4] at this
  exact this
theorem x_ft (l p h : Int) (z : Bool) (hr : fit (fun _ => (⟨l, p, h⟩ : Tns)) 1 1 = z) (w : World) (b : Nat) (h0 : w.cell? ⟨b, 0, none⟩ = some (.int .i64 l)) (h1 : w.cell? ⟨b, 1, none⟩ = some (.int .i64 p)) (h2 : w.cell? ⟨b, 2, none⟩ = some (.int .i64 h)) :
    Calls Try.prog 19 #[.slice (some ⟨b, 0, none⟩) 1 1, .int .i64 1] w fun e w' => e = .returned (.bool z) ∧ Below w.heap.size w w' := by
  have := Fits_any (some ⟨b, 0, none⟩) 1 1 (fun _ => (⟨l, p, h⟩ : Tns)) 1 (by omega) w (ta_one ⟨h0, h1, h2⟩)
  rw [hr] at this
  exact this
theorem x_ck (w : World) (b : Nat) (h0 : w.cell? ⟨b, 0, none⟩ = some (.string ⟨#[119, 103, 104, 116]⟩)) (h1 : w.cell? ⟨b, 1, none⟩ = some (.int .i64 100)) (h2 : w.cell? ⟨b, 2, none⟩ = some (.int .i64 400)) (h3 : w.cell? ⟨b, 3, none⟩ = some (.int .i64 900)) :
    Calls Try.prog 13 #[.slice (some ⟨b, 0, none⟩) 1 1] w fun e w' => e = .returned (.int .i64 0) ∧ Below w.heap.size w w' :=
  x_check axE 0 ck_axE w b ⟨h0, h1, h2, h3⟩
theorem x_ck2 (w : World) (b : Nat) (h0 : w.cell? ⟨b, 0, none⟩ = some (.string ⟨#[119, 103, 104, 116]⟩)) (h1 : w.cell? ⟨b, 1, none⟩ = some (.int .i64 100)) (h2 : w.cell? ⟨b, 2, none⟩ = some (.int .i64 400)) (h3 : w.cell? ⟨b, 3, none⟩ = some (.int .i64 900)) (h4 : w.cell? ⟨b, 4, none⟩ = some (.string ⟨#[119, 103, 104, 116]⟩)) (h5 : w.cell? ⟨b, 5, none⟩ = some (.int .i64 100)) (h6 : w.cell? ⟨b, 6, none⟩ = some (.int .i64 400)) (h7 : w.cell? ⟨b, 7, none⟩ = some (.int .i64 900)) :
    Calls Try.prog 13 #[.slice (some ⟨b, 0, none⟩) 2 2] w fun e w' => e = .returned (.int .i64 6) ∧ Below w.heap.size w w' := by
  have := Check_any (some ⟨b, 0, none⟩) 2 2 (fun _ => axE) (by omega) w (fun i hi => by
    have : i = 0 ∨ i = 1 := by omega
    rcases this with rfl | rfl
    · exact ⟨b, 0, rfl, h0, h1, h2, h3⟩
    · exact ⟨b, 0, rfl, h4, h5, h6, h7⟩)
  rw [ckE2] at this
  exact this
end Go.Proofs.Ytmlkdfieakihlaa.Ax
