/-
  Layer 2 (wire): the law's cut.
-/
import Derived.Test.YtadnkofbgifliaaWrS
import Derived.Deep.RegionLaw
import Derived.Deep.AppendLies
namespace Go.Proofs.Ytadnkofbgifliaa.Wr
open Go.RowKit

def cutS (s : ByteArray) : ByteArray := s.extract 0 (min s.size 100)
def cutL (l : List ByteArray) : List ByteArray := (l.take 20).map cutS
theorem cutS_size (s : ByteArray) : (cutS s).size ≤ 100 := by
  unfold cutS; rw [size_list, Lib.extract_data, List.length_take]; omega
theorem cutL_length (l : List ByteArray) : (cutL l).length = min l.length 20 := by unfold cutL; rw [List.length_map, List.length_take]; omega
theorem min_cast (n m : Nat) : (min (n : Int) (m : Int)).toNat = min n m := by omega
theorem cutV_succ (l : List ByteArray) (k : Nat) (hk : k < l.length) (h20 : k < 20) : (((cutL l).take (k + 1)).map Value.string) = ((cutL l).take k).map Value.string ++ [.string (cutS l[k])] := by
  have h : k < (cutL l).length := by rw [cutL_length]; omega
  rw [List.take_succ_eq_append_getElem h, List.map_append]
  congr 1
  unfold cutL
  simp

theorem one_new (W : World) (v : Value) (T : TypeId) : ∀ j u, [v][j]? = some u → (W.alloc (.cells #[v] T)).cell? ((⟨W.heap.size, 0, none⟩ : Addr).add j) = some u := by
  intro j u hj
  match j, hj with
  | 0, hj =>
    simp at hj; subst hj
    simp [Addr.add]

set_option maxRecDepth 100000 in
set_option maxHeartbeats 4000000 in
theorem cut_any (a : Option Addr) (l : List ByteArray) (c n : Nat) (hn : l.length = n) (w : World) (hl : StrsAt w a l) (hs : n ≤ 9223372036854775807) (hz : ∀ x ∈ l, x.size ≤ 9223372036854775807) :
    Calls Try.prog 11 #[.slice a n c] w fun e w' => ∃ v, e = .returned v ∧ w'.ownsRow w.heap.size 9 1 v (cutL l).length ((cutL l).map Value.string) ∧ Below w.heap.size w w' := by
  obtain ⟨i0, hi, hz0, hz1, hz2⟩ := info_parts infoS
  have KI := Lib.hid (And.intro hi (And.intro hz0 (And.intro hz1 hz2)))
  have HL := Lib.hid (And.intro hl (And.intro hn hz))
  clear hi hz0 hz1 hz2 hl hn hz
  go_enter Try.func11, Try.ntmps11
  go_wp2_with fail
  go_loopw [3, 4] (fun s3 s4 wr => ∃ k : Nat, k ≤ n ∧ k ≤ 20 ∧ s4 = .int .i64 k ∧ wr.ownsRow w.heap.size 9 1 s3 k (((cutL l).take k).map Value.string) ∧ Below w.heap.size w wr) (fun _ s4 _ => 20 - (intOf s4).toNat)
  case atStart => exact ⟨0, by omega, by omega, rfl, by simpa using World.ownsRow_nil _ _ _ _, Below.refl _ _⟩
  case round =>
    obtain ⟨k, hk, hk20, rfl, hown, hB⟩ := hrel
    have hsz := hB.size
    by_cases hin : k < n ∧ k < 20
    · obtain ⟨hlt, h20⟩ := hin
      have hx : l[k]? = some (l[k]'(by rw [HL.out.2.1]; exact hlt)) := List.getElem?_eq_getElem _
      obtain ⟨b, off, rfl, hc⟩ := HL.out.1 k _ hx
      have hxz := HL.out.2.2 _ (List.getElem_mem (by rw [HL.out.2.1]; exact hlt : k < l.length))
      have ck : wr.cell? ⟨b, off + k, none⟩ = some (.string (l[k]'(by rw [HL.out.2.1]; exact hlt))) := by rw [hB.cell (p := ⟨b, off + k, none⟩) (block_lt_of_cell hc)]; exact hc
      have HV := Lib.hid (cutV_succ l k (by rw [HL.out.2.1]; exact hlt) h20)
      clear hx hc
      generalize l[k]'(by rw [HL.out.2.1]; exact hlt) = x at *
      have k0 : (0 : Int) ≤ k := by omega
      have kn : (k : Int) < n := by omega
      have m0 : (0 : Int) ≤ min (x.size : Int) 100 := by omega
      have m1 : min (x.size : Int) 100 ≤ (x.size : Int) := by omega
      go_wp2_with fail
      go_region_law (refine step_append_lies _ (by rfl) _ _ 23 (by rfl) w.heap.size 9 i0 (.string ⟨#[]⟩) 1 16 Try.underlying23 KI.out.1 KI.out.2.1 KI.out.2.2.1 KI.out.2.2.2 rfl (by decide) _ k _ (by rfl) (hown.alloc _) ⟨wr.heap.size, 0, none⟩ 1 1 [.string (x.extract 0 (min (x.size : Int) 100).toNat)] (by rfl) rfl (one_new wr _ _) (by intro u hu; simp at hu; subst hu; rfl) (by omega) (by unfold maxLen; omega) (by omega) (by simp; omega) _ (by rfl) ?_; intro g cap w3 hown' hgrow hat hlt2)
      all_goals
        have hB3 : Below w.heap.size w w3 := (show Below w.heap.size w (wr.alloc (.cells #[.string (x.extract 0 (min (x.size : Int) 100).toNat)] 9)).drew from (hB.alloc (by omega) _).drew).grown hgrow (by simp; omega) (fun g hg => (hown.lt g hg).1)
        have R : Hid (∃ k' : Nat, k' ≤ n ∧ k' ≤ 20 ∧ Value.int .i64 ((k : Int) + 1) = .int .i64 k' ∧ w3.ownsRow w.heap.size 9 1 (.slice (some ⟨g, 0, none⟩) (k + 1) cap) k' (((cutL l).take k').map Value.string) ∧ Below w.heap.size w w3) := Lib.hid ⟨k + 1, by omega, by omega, by congr 1, by rw [HV.out]; unfold cutS; rw [← min_cast]; exact hown', hB3⟩
        clear hown hown' hgrow hat hlt2 hB3 hB
        go_wp2_with fail
        go_roundw
        case rel => exact R.out
        case measure => simp [intOf]; omega
    · have hend : k = (cutL l).length := by rw [cutL_length, HL.out.2.1]; omega
      have hw := Lib.hid hown
      have RR : Hid (wr.ownsRow w.heap.size 9 1 u3 (cutL l).length ((cutL l).map Value.string)) := Lib.hid (by
        have := hown
        rw [hend, List.take_length] at this
        exact this)
      rcases Nat.lt_or_ge k n with h1 | h1
      · have h2 : 20 ≤ k := by omega
        clear hown hin hend
        go_wp2_with fail
        go_ret
        exact ⟨_, rfl, RR.out, hB⟩
      · clear hown hin hend
        go_wp2_with fail
        go_ret
        exact ⟨_, rfl, RR.out, hB⟩
end Go.Proofs.Ytadnkofbgifliaa.Wr
