/-
  Layer 7 (raster): RasterDraws, walked.
-/
import Derived.Test.YtjeiapgniflnaaaRsDr
import Derived.Test.YtjeiapgniflnaaaRsMw
namespace Go.Proofs.Ytjeiapgniflnaaa.Rs
open Go.RowKit
open Go.Proofs.Ytjeiapgniflnaaa.Ot
open Go.Proofs.Ytjeiapgniflnaaa.Bm (bv DA da_below sd sd_iff)
def PicB (f : Nat) (u : Int) (N : Nat) (ns : Nat → Nat) (g : Nat → Nat → Pt) (Le Lo : Int) (W H n : Nat) (F : Nat → Bool) (er : Int) : Prop :=
  ∀ a c V, OT V a N ns g → Calls Try.prog f #[.slice a N c, .int .i64 u] V fun e w' => ∃ sa, e = .returned (.tuple #[.agg #[.int .i64 Le, .int .i64 Lo, .int .i64 (W : Int), .int .i64 (H : Int), .slice sa n n], .int .i64 er]) ∧ DA w' sa n F ∧ Below V.heap.size V w'
theorem picB_zero {f : Nat} {u : Int} {N : Nat} {ns : Nat → Nat} {g : Nat → Nat → Pt} {er : Int} (h : ∀ a c V, OT V a N ns g → Calls Try.prog f #[.slice a N c, .int .i64 u] V fun e w' => e = .returned (.tuple #[pz, .int .i64 er]) ∧ Below V.heap.size V w') : PicB f u N ns g 0 0 0 0 0 (fun _ => false) er := fun a c V hO => (h a c V hO).mono (by
  rintro e w' ⟨h1, h2⟩
  exact ⟨none, h1, fun i hi => absurd hi (by omega), h2⟩)
/-- Both sides answer the same. -/
theorem draws_both (N : Nat) (ns : Nat → Nat) (g : Nat → Nat → Pt) (u : Int) (hN : N ≤ 4) (hs : ∀ k, k < N → ns k ≤ 12) : ∃ (Le Lo : Int) (W H n : Nat) (F : Nat → Bool) (er : Int), n ≤ 100000 ∧ PicB 17 u N ns g Le Lo W H n F er ∧ PicB 18 u N ns g Le Lo W H n F er := by
  have hp : pre ns N ≤ 48 := by have := pre_le hs; omega
  rcases hu : isU u with _ | _
  · exact ⟨0, 0, 0, 0, 0, _, 1, by omega, picB_zero (fun a c V hO => Dots_unit a N c u hu V), picB_zero (fun a c V hO => rDots_unit a N c u hu V)⟩
  · rcases hr : allO ns g N with _ | _
    · exact ⟨0, 0, 0, 0, 0, _, 3, by omega, picB_zero (fun a c V hO => Dots_range a N c ns g u hu hr (by omega) (by omega) V hO), picB_zero (fun a c V hO => rDots_range a N c ns g u hu hr (by omega) (by omega) V hO)⟩
    · have M : ∀ a c V, OT V a N ns g → _ := fun a c V hO => rDots_main a N c ns g u hu hr (by omega) (by omega) V hO
      rcases Nat.eq_zero_or_pos (pre ns N) with h0 | h0
      · refine ⟨0, 0, 0, 0, 0, fun _ => false, 0, by omega, fun a c V hO => (Dots_none a N c ns g u hu hr h0 (by omega) V hO).mono ?_, picB_zero (fun a c V hO => (M a c V hO).mono ?_)⟩
        · rintro e w' ⟨sa, h1, h2⟩
          exact ⟨sa, h1, fun i hi => absurd hi (by omega), h2⟩
        · rintro e w' ⟨h, h2⟩
          rcases h with ⟨_, h⟩ | ⟨h, _⟩ | ⟨h, _⟩
          · exact ⟨h, h2⟩
          · omega
          · omega
      · rcases hsd : (sd ((bxAll ns g N).c / u - (bxAll ns g N).a / u + 1) && sd ((bxAll ns g N).d / u - (bxAll ns g N).b / u + 1)) with _ | _
        · refine ⟨0, 0, 0, 0, 0, _, 13, by omega, picB_zero (fun a c V hO => Dots_big a N c ns g u hu hr h0 _ rfl hsd (by omega) (by omega) V hO), picB_zero (fun a c V hO => (M a c V hO).mono ?_)⟩
          rintro e w' ⟨h, h2⟩
          rcases h with ⟨h, _⟩ | ⟨_, _, h⟩ | ⟨_, W, H, n, sa, _, e1, e2, e3, e4, _⟩
          · omega
          · exact ⟨h, h2⟩
          · have hsd2 : (sd ((bxAll ns g N).c / u - (bxAll ns g N).a / u + 1) && sd ((bxAll ns g N).d / u - (bxAll ns g N).b / u + 1)) = true := by
              rw [Bool.and_eq_true, sd_iff, sd_iff]
              omega
            rw [hsd] at hsd2
            cases hsd2
        · have hsd2 := hsd
          rw [Bool.and_eq_true, sd_iff, sd_iff] at hsd2
          obtain ⟨W, hW⟩ : ∃ W : Nat, (W : Int) = (bxAll ns g N).c / u - (bxAll ns g N).a / u + 1 := ⟨((bxAll ns g N).c / u - (bxAll ns g N).a / u + 1).toNat, by omega⟩
          obtain ⟨H, hH⟩ : ∃ H : Nat, (H : Int) = (bxAll ns g N).d / u - (bxAll ns g N).b / u + 1 := ⟨((bxAll ns g N).d / u - (bxAll ns g N).b / u + 1).toNat, by omega⟩
          have hW9 : W ≤ 96 ∧ H ≤ 96 := by omega
          have hnl : W * H ≤ 100000 := by
            have : W * H ≤ 96 * 96 := Nat.mul_le_mul hW9.1 hW9.2
            omega
          refine ⟨_, _, W, H, W * H, _, 0, hnl, fun a c V hO => Dots_yes a N c ns g u hu hr h0 _ rfl W H (W * H) rfl hW hH hW9.1 hW9.2 (by omega) (by omega) V hO, fun a c V hO => (M a c V hO).mono ?_⟩
          rintro e w' ⟨h, h2⟩
          rcases h with ⟨h, _⟩ | ⟨_, h, _⟩ | ⟨_, W', H', n, sa, e0, e1, e2, _, _, h3, h4⟩
          · omega
          · rw [hsd] at h
            cases h
          · obtain rfl : W' = W := by omega
            obtain rfl : H' = H := by omega
            subst e0
            exact ⟨sa, h3, h4, h2⟩
end Go.Proofs.Ytjeiapgniflnaaa.Rs
