/-
  Layer 2 (wire): what comes in, as lists; the law WireNothing, walked.
-/
import Derived.Test.YtadnkofbgifliaaWrL
import Derived.ProofKit
import Derived.Carry
import Derived.Deep.Strs
namespace Go.Proofs.Ytadnkofbgifliaa.Wr
open Go.RowKit

/-- The bytes of a slice. -/
def BytesAt (w : World) (a : Option Addr) (l : List Int) : Prop := ∀ i x, l[i]? = some x → ∃ b off, a = some ⟨b, off, none⟩ ∧ w.cell? ⟨b, off + i, none⟩ = some (.int .u8 x)

theorem dk (k : Nat) (hk : k < 4) (b : Nat) (bad : Bool) (w : World) (h : RS w b empty bad) :
    Calls Try.prog 38 #[.pointer (some ⟨b, 0, none⟩), .int .i64 k] w fun e w' => e = .returned (.bool true) ∧ RS w' b empty true ∧ w.grownBy w' (some b) :=
  decodes_no k hk b empty bad w h (by decide) (fun _ => rfl) (noK_of_noI k _ (by decide) noI_nil)

set_option maxRecDepth 100000 in
set_option maxHeartbeats 4000000 in
theorem nothing_any (a : Option Addr) (l : List Int) (n c : Nat) (hn : l.length = n) (w : World) (hl : BytesAt w a l) (hb : ∀ x ∈ l, 0 ≤ x ∧ x < 256) (hs : n ≤ 9223372036854775807) :
    Calls Try.prog 9 #[.slice a n c] w fun e w' => e = .returned (.bool true) ∧ Below w.heap.size w w' := by
  have S := Lib.hid sanity_any
  have BN := Lib.hid bad_nil
  have LN := Lib.hid left_nil
  have HL := Lib.hid (And.intro hn (And.intro hl hb))
  clear hn hl hb
  go_enter Try.func9, Try.ntmps9
  go_wp2_with fail
  refine (S.out _).mono ?_
  rintro e w1 ⟨rfl, hB1⟩
  go_wp2_with fail
  refine (BN.out _).mono ?_
  rintro e w2 ⟨rfl, rfl⟩
  have hR : RS (w1.alloc (.cells #[.string ⟨#[]⟩, .bool false] 56)) w1.heap.size ⟨#[]⟩ false := ⟨by go_cell, by go_cell, by go_cell, by go_cell⟩
  replace hR : RS (w1.alloc (.cells #[.string ⟨#[]⟩, .bool false] 56)) w1.heap.size empty false := hR
  have BZ := Lib.hid (bad_any _ _ _ _ hR)
  have LZ : Hid (Calls Try.prog 32 #[.pointer (some ⟨w1.heap.size, 0, none⟩)] (w1.alloc (.cells #[.string ⟨#[]⟩, .bool false] 56)) fun e w' => e = .returned (.int .i64 0) ∧ (w1.alloc (.cells #[.string ⟨#[]⟩, .bool false] 56)) = w') := Lib.hid (left_any _ _ _ _ hR)
  go_wp2_with fail
  refine (LN.out _).mono ?_
  rintro e w2 ⟨rfl, rfl⟩
  go_wp2_with fail
  refine BZ.out.mono ?_
  rintro e w2 ⟨rfl, rfl⟩
  go_wp2_with fail
  refine LZ.out.mono ?_
  rintro e w2 ⟨rfl, rfl⟩
  have hB : Below w.heap.size w (w1.alloc (.cells #[.string ⟨#[]⟩, .bool false] 56)) := hB1.alloc hB1.size _
  have hsz : w.heap.size ≤ w1.heap.size := hB1.size
  have HRB := Lib.hid (And.intro hR hB)
  clear hR hB BZ LZ hB1
  generalize (w1.alloc (.cells #[.string ⟨#[]⟩, .bool false] 56)) = w3 at *
  generalize w1.heap.size = b1 at *
  go_wp2_with fail
  go_loopw [6] (fun s6 wr => ∃ k : Nat, k ≤ n ∧ k ≤ 6 ∧ s6 = .int .i64 k ∧ (∃ bad, RS wr b1 empty bad) ∧ Below w.heap.size w wr) (fun s6 _ => 6 - (intOf s6).toNat)
  case atStart => exact ⟨0, by omega, by omega, rfl, ⟨_, HRB.out.1⟩, HRB.out.2⟩
  case round =>
    obtain ⟨k, hk, hk6, rfl, ⟨bad, hR⟩, hB⟩ := hrel
    rcases Nat.lt_or_ge k n with hlt | hge
    · rcases Nat.lt_or_ge k 6 with h6 | h6
      · have hx : l[k]? = some (l[k]'(by rw [HL.out.1]; exact hlt)) := List.getElem?_eq_getElem _
        obtain ⟨b, off, rfl, hc⟩ := HL.out.2.1 k _ hx
        have hxb := HL.out.2.2 _ (List.getElem_mem (by rw [HL.out.1]; exact hlt : k < l.length))
        have ck : wr.cell? ⟨b, off + k, none⟩ = some (.int .u8 (l[k]'(by rw [HL.out.1]; exact hlt))) := by rw [hB.cell (p := ⟨b, off + k, none⟩) (block_lt_of_cell hc)]; exact hc
        clear hx
        generalize l[k]'(by rw [HL.out.1]; exact hlt) = x at *
        obtain ⟨x0, x1⟩ := hxb
        obtain ⟨X, rfl⟩ := Int.eq_ofNat_of_zero_le x0
        have hX : X % 4 < 4 := Nat.mod_lt _ (by omega)
        have eX : ((X : Int) % 4) = ((X % 4 : Nat) : Int) := by omega
        have DN := Lib.hid (decodes_nil (X % 4) hX)
        have DZ := Lib.hid (dk (X % 4) hX b1 bad wr hR)
        rw [← eX] at DN DZ
        clear eX hR
        have HC := Lib.hid hc
        clear hc
        go_wp2_with fail
        refine (DN.out _).mono ?_
        rintro e w4 ⟨rfl, rfl⟩
        go_wp2_with fail
        refine DZ.out.mono ?_
        rintro e w4 ⟨rfl, hR, hg⟩
        have hB4 : Below w.heap.size w w4 := bg hB hg hsz
        have BZ := Lib.hid (bad_any _ _ _ _ hR)
        have HR := Lib.hid hR
        clear hR hg hB DZ
        go_wp2_with fail
        refine (BN.out _).mono ?_
        rintro e w5 ⟨rfl, rfl⟩
        go_wp2_with fail
        refine BZ.out.mono ?_
        rintro e w5 ⟨rfl, rfl⟩
        go_wp2_with fail
        go_roundw
        case rel => exact ⟨k + 1, by omega, by omega, by congr 1, ⟨_, HR.out⟩, hB4⟩
        case measure => simp [intOf]; omega
      · go_wp2_with fail
        go_ret
        exact ⟨rfl, hB⟩
    · go_wp2_with fail
      go_ret
      exact ⟨rfl, hB⟩
end Go.Proofs.Ytadnkofbgifliaa.Wr
