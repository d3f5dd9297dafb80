/-
  Layer 7 (raster): the chapter's examples, as numbers alone.
-/
import Derived.Test.YtjeiapgniflnaaaRsO
namespace Go.Proofs.Ytjeiapgniflnaaa.Rs
open Go.RowKit
open Go.Proofs.Ytjeiapgniflnaaa.Ot
open Go.Proofs.Ytjeiapgniflnaaa.Bm (tx)
def sqF (i : Nat) : Int := ([0, 0, 8, 0, 8, 8, 0, 8] : List Int).getD i 0
def bkF (i : Nat) : Int := ([0, 8, 8, 8, 8, 0, 0, 0] : List Int).getD i 0
def trF (i : Nat) : Int := ([0, 0, 16, 0, 0, 16] : List Int).getD i 0
def four : Nat → Nat := fun _ => 4
def three : Nat → Nat := fun _ => 3
def sqG : Nat → Nat → Pt := fun _ => pgP sqF
def bkG : Nat → Nat → Pt := fun _ => pgP bkF
def trG : Nat → Nat → Pt := fun _ => pgP trF
def bsG : Nat → Nat → Pt := fun k => if k = 0 then pgP bkF else pgP sqF
theorem x1 : wdg 1 four sqG 4 4 = -1 ∧ wdg 1 four sqG 0 4 = 0 ∧ wdg 1 four sqG 8 4 = -1 ∧ wdg 1 four sqG 4 0 = -1 ∧ wdg 1 four sqG 4 8 = 0 := by decide +kernel
theorem x2 : wdg 1 four bkG 4 4 = 1 ∧ wdg 2 four bsG 4 4 = 0 ∧ wdg 1 four sqG 4 1073741825 = 0 := by decide +kernel
theorem x3 : cvr 1 four sqG 8 0 0 = 4 ∧ cvr 1 four sqG 8 1 0 = 0 ∧ cvr 1 four sqG 16 0 0 = 1 ∧ cvr 1 four sqG 6 0 0 = 0 := by decide +kernel
theorem x4 : isU 4 = true ∧ isU 16 = true ∧ isU 8 = true ∧ isU 0 = false ∧ allO four sqG 1 = true ∧ allO three trG 1 = true ∧ pre four 1 = 4 ∧ pre three 1 = 3 := by decide +kernel
theorem x5 : bxAll four sqG 1 = ⟨0, 0, 8, 8⟩ ∧ bxAll three trG 1 = ⟨0, 0, 16, 16⟩ := ⟨rfl, rfl⟩
theorem x6 : (⟨(tx 3 3 (dotF 1 four sqG 4 0 0 3) 3).toArray⟩ : ByteArray) = ⟨#[46, 46, 46, 10, 35, 35, 46, 10, 35, 35, 46, 10]⟩ := by
  have : tx 3 3 (dotF 1 four sqG 4 0 0 3) 3 = [46, 46, 46, 10, 35, 35, 46, 10, 35, 35, 46, 10] := by decide +kernel
  rw [this]
theorem x7 : (⟨(tx 1 1 (dotF 1 four sqG 16 0 0 1) 1).toArray⟩ : ByteArray) = ⟨#[46, 10]⟩ := by
  have : tx 1 1 (dotF 1 four sqG 16 0 0 1) 1 = [46, 10] := by decide +kernel
  rw [this]
theorem x8 : (⟨(tx 3 3 (dotF 1 three trG 8 0 0 3) 3).toArray⟩ : ByteArray) = ⟨#[46, 46, 46, 10, 35, 46, 46, 10, 35, 35, 46, 10]⟩ := by
  have : tx 3 3 (dotF 1 three trG 8 0 0 3) 3 = [46, 46, 46, 10, 35, 46, 46, 10, 35, 35, 46, 10] := by decide +kernel
  rw [this]
end Go.Proofs.Ytjeiapgniflnaaa.Rs
