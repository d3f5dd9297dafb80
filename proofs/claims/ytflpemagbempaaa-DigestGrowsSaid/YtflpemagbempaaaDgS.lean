/-
  Layer 3 (digest): the law's list and cut; whether two lists are the same.
-/
import Derived.Test.YtflpemagbempaaaDgR
import Derived.Deep.RegionLaw
import Derived.Deep.AppendLies
import Derived.Lib.MinMax
import Derived.Lib.Strings
namespace Go.Proofs.Ytflpemagbempaaa.Dg
open Go.RowKit
theorem size_list (s : ByteArray) : s.size = s.data.toList.length := (toList_length s).symm
theorem take_eq_succ {α : Type} {l m : List α} {k : Nat} {x y : α} (hx : l[k]? = some x) (hy : m[k]? = some y) (h : l.take k = m.take k) : l.take (k + 1) = m.take (k + 1) ↔ x = y := by
  rw [List.take_add_one, List.take_add_one, h, hx, hy]
  simp

set_option maxRecDepth 100000 in
set_option maxHeartbeats 1000000 in
theorem rSame_any (a a' : Option Addr) (l l' : List ByteArray) (n n' c c' : Nat) (hn : l.length = n) (hn' : l'.length = n') (w : World) (hl : StrsAt w a l) (hl' : StrsAt w a' l') (hs : n ≤ 1000000) (hs' : n' ≤ 1000000) :
    Calls Try.prog 25 #[.slice a n c, .slice a' n' c'] w fun e w' => e = .returned (.bool (decide (l = l'))) ∧ Below w.heap.size w w' := by
  have HN := Lib.hid (And.intro hn hn')
  have HL := Lib.hid (And.intro hl hl')
  have T : l = l' → decide (l = l') = true := fun h => decide_eq_true h
  have F : l ≠ l' → decide (l = l') = false := fun h => decide_eq_false h
  have HT := Lib.hid (And.intro T F)
  clear hn hn' hl hl' T F
  generalize hd : decide (l = l') = r at *
  have HD := Lib.hid hd
  clear hd
  by_cases hnn : n = n'
  · subst hnn
    go_enter Try.func25, Try.ntmps25
    go_wp2_with fail
    go_loopw [5] (fun s5 wr => ∃ k : Nat, k ≤ n ∧ s5 = .int .i64 k ∧ Hid (l.take k = l'.take k) ∧ Below w.heap.size w wr) (fun s5 _ => n - (intOf s5).toNat)
    case atStart => exact ⟨0, by omega, rfl, Lib.hid (by simp), Below.refl _ _⟩
    case round =>
      obtain ⟨k, hk, rfl, hE, hB⟩ := hrel
      rcases Nat.lt_or_ge k n with hlt | hge
      · have hx : l[k]? = some (l[k]'(by rw [HN.out.1]; exact hlt)) := List.getElem?_eq_getElem _
        have hy : l'[k]? = some (l'[k]'(by rw [HN.out.2]; exact hlt)) := List.getElem?_eq_getElem _
        obtain ⟨b, off, rfl, hc⟩ := HL.out.1 k _ hx
        obtain ⟨b', off', rfl, hc'⟩ := HL.out.2 k _ hy
        have hT := Lib.hid (take_eq_succ hx hy hE.out)
        have HXY := Lib.hid (And.intro hx hy)
        clear hx hy
        have ck : wr.cell? ⟨b, off + k, none⟩ = some (Value.string (l[k]'(by rw [HN.out.1]; exact hlt))) := by rw [hB.cell (p := ⟨b, off + k, none⟩) (block_lt_of_cell hc)]; exact hc
        have ck' : wr.cell? ⟨b', off' + k, none⟩ = some (Value.string (l'[k]'(by rw [HN.out.2]; exact hlt))) := by rw [hB.cell (p := ⟨b', off' + k, none⟩) (block_lt_of_cell hc')]; exact hc'
        clear hc hc'
        generalize l[k]'(by rw [HN.out.1]; exact hlt) = x at *
        generalize l'[k]'(by rw [HN.out.2]; exact hlt) = y at *
        have klt : (k : Int) < n := by omega
        have k0 : (0 : Int) ≤ k := by omega
        by_cases hxy : x = y
        · subst hxy
          have hE2 := Lib.hid (hT.out.2 rfl)
          skip
          go_wp2_with fail
          go_quiet (fail)
          go_wp2_with fail
          go_roundw
          case rel => exact ⟨k + 1, by omega, by congr 1, hE2, bd hB _⟩
          case measure => simp [intOf]; omega
        · have hne : l ≠ l' := fun e => hxy (hT.out.1 (by rw [e]))
          have RF := Lib.hid (HT.out.2 hne)
          have hxb := str_ne hxy
          clear hne hxy
          go_wp2_with fail
          go_quiet (fail)
          go_wp2_with fail
          go_ret
          exact ⟨by rw [RF.out]; rfl, bd hB _⟩
      · have hkn : k = n := by omega
        subst hkn
        have he : l = l' := by
          have := hE.out
          rw [List.take_of_length_le (by rw [HN.out.1]; exact Nat.le_refl _), List.take_of_length_le (by rw [HN.out.2]; exact Nat.le_refl _)] at this
          exact this
        have RT := Lib.hid (HT.out.1 he)
        clear he
        go_wp2_with fail
        go_ret
        exact ⟨by rw [RT.out]; rfl, hB⟩
  · have hne : l ≠ l' := fun e => hnn (by rw [← HN.out.1, ← HN.out.2, e])
    have RF := Lib.hid (HT.out.2 hne)
    have hb : ((n : Int) != n') = true := by rw [bne_iff_ne]; omega
    clear hne
    go_enter Try.func25, Try.ntmps25
    go_wp2_with fail
    go_ret
    exact ⟨by rw [RF.out]; rfl, Below.refl _ _⟩
def cutS (s : ByteArray) : ByteArray := s.extract 0 (min s.size 30)
def cutL (l : List ByteArray) : List ByteArray := (l.take 20).map cutS
theorem cutS_size (s : ByteArray) : (cutS s).size ≤ 30 := by
  unfold cutS; rw [size_list, Lib.extract_data, List.length_take]; omega
theorem cutL_length (l : List ByteArray) : (cutL l).length = min l.length 20 := by unfold cutL; rw [List.length_map, List.length_take]; omega
theorem min_cast (n m : Nat) : (min (n : Int) (m : Int)).toNat = min n m := by omega
theorem cutV_succ (l : List ByteArray) (k : Nat) (hk : k < l.length) (h20 : k < 20) : (((cutL l).take (k + 1)).map Value.string) = ((cutL l).take k).map Value.string ++ [.string (cutS l[k])] := by
  have h : k < (cutL l).length := by rw [cutL_length]; omega
  rw [List.take_succ_eq_append_getElem h, List.map_append]
  congr 1
  unfold cutL
  simp

theorem one_new (W : World) (v : Value) (T : TypeId) : ∀ j u, [v][j]? = some u → (W.alloc (.cells #[v] T)).cell? ((⟨W.heap.size, 0, none⟩ : Addr).add j) = some u := by
  intro j u hj
  match j, hj with
  | 0, hj =>
    simp at hj; subst hj
    simp [Addr.add]

set_option maxRecDepth 100000 in
set_option maxHeartbeats 4000000 in
theorem list_any (a : Option Addr) (l : List ByteArray) (c n : Nat) (hn : l.length = n) (w : World) (hl : StrsAt w a l) (hs : n ≤ 9223372036854775807) (hz : ∀ x ∈ l, x.size ≤ 9223372036854775807) :
    Calls Try.prog 22 #[.slice a n c] w fun e w' => ∃ v, e = .returned v ∧ w'.ownsRow w.heap.size 9 1 v (cutL l).length ((cutL l).map Value.string) ∧ Below w.heap.size w w' := by
  obtain ⟨i0, hi, hz0, hz1, hz2⟩ := info_parts infoS
  have KI := Lib.hid (And.intro hi (And.intro hz0 (And.intro hz1 hz2)))
  have HL := Lib.hid (And.intro hl (And.intro hn hz))
  clear hi hz0 hz1 hz2 hl hn hz
  go_enter Try.func22, Try.ntmps22
  go_wp2_with fail
  go_loopw [3, 4] (fun s3 s4 wr => ∃ k : Nat, k ≤ n ∧ k ≤ 20 ∧ s4 = .int .i64 k ∧ wr.ownsRow w.heap.size 9 1 s3 k (((cutL l).take k).map Value.string) ∧ Below w.heap.size w wr) (fun _ s4 _ => 20 - (intOf s4).toNat)
  case atStart => exact ⟨0, by omega, by omega, rfl, by simpa using World.ownsRow_nil _ _ _ _, Below.refl _ _⟩
  case round =>
    obtain ⟨k, hk, hk20, rfl, hown, hB⟩ := hrel
    have hsz := hB.size
    by_cases hin : k < n ∧ k < 20
    · obtain ⟨hlt, h20⟩ := hin
      have hx : l[k]? = some (l[k]'(by rw [HL.out.2.1]; exact hlt)) := List.getElem?_eq_getElem _
      obtain ⟨b, off, rfl, hc⟩ := HL.out.1 k _ hx
      have hxz := HL.out.2.2 _ (List.getElem_mem (by rw [HL.out.2.1]; exact hlt : k < l.length))
      have ck : wr.cell? ⟨b, off + k, none⟩ = some (.string (l[k]'(by rw [HL.out.2.1]; exact hlt))) := by rw [hB.cell (p := ⟨b, off + k, none⟩) (block_lt_of_cell hc)]; exact hc
      have HV := Lib.hid (cutV_succ l k (by rw [HL.out.2.1]; exact hlt) h20)
      clear hx hc
      generalize l[k]'(by rw [HL.out.2.1]; exact hlt) = x at *
      have k0 : (0 : Int) ≤ k := by omega
      have kn : (k : Int) < n := by omega
      have m0 : (0 : Int) ≤ min (x.size : Int) 30 := by omega
      have m1 : min (x.size : Int) 30 ≤ (x.size : Int) := by omega
      go_wp2_with fail
      go_region_law (refine step_append_lies _ (by rfl) _ _ 28 (by rfl) w.heap.size 9 i0 (.string ⟨#[]⟩) 1 16 Try.underlying28 KI.out.1 KI.out.2.1 KI.out.2.2.1 KI.out.2.2.2 rfl (by decide) _ k _ (by rfl) (hown.alloc _) ⟨wr.heap.size, 0, none⟩ 1 1 [.string (x.extract 0 (min (x.size : Int) 30).toNat)] (by rfl) rfl (one_new wr _ _) (by intro u hu; simp at hu; subst hu; rfl) (by omega) (by unfold maxLen; omega) (by omega) (by simp; omega) _ (by rfl) ?_; intro g cap w3 hown' hgrow hat hlt2)
      all_goals
        have hB3 : Below w.heap.size w w3 := (show Below w.heap.size w (wr.alloc (.cells #[.string (x.extract 0 (min (x.size : Int) 30).toNat)] 9)).drew from (hB.alloc (by omega) _).drew).grown hgrow (by simp; omega) (fun g hg => (hown.lt g hg).1)
        have R : Hid (∃ k' : Nat, k' ≤ n ∧ k' ≤ 20 ∧ Value.int .i64 ((k : Int) + 1) = .int .i64 k' ∧ w3.ownsRow w.heap.size 9 1 (.slice (some ⟨g, 0, none⟩) (k + 1) cap) k' (((cutL l).take k').map Value.string) ∧ Below w.heap.size w w3) := Lib.hid ⟨k + 1, by omega, by omega, by congr 1, by rw [HV.out]; unfold cutS; rw [← min_cast]; exact hown', hB3⟩
        clear hown hown' hgrow hat hlt2 hB3 hB
        go_wp2_with fail
        go_roundw
        case rel => exact R.out
        case measure => simp [intOf]; omega
    · have hend : k = (cutL l).length := by rw [cutL_length, HL.out.2.1]; omega
      have hw := Lib.hid hown
      have RR : Hid (wr.ownsRow w.heap.size 9 1 u3 (cutL l).length ((cutL l).map Value.string)) := Lib.hid (by
        have := hown
        rw [hend, List.take_length] at this
        exact this)
      rcases Nat.lt_or_ge k n with h1 | h1
      · have h2 : 20 ≤ k := by omega
        clear hown hin hend
        go_wp2_with fail
        go_ret
        exact ⟨_, rfl, RR.out, hB⟩
      · clear hown hin hend
        go_wp2_with fail
        go_ret
        exact ⟨_, rfl, RR.out, hB⟩
/-- The first bytes of a string. -/
def cut200 (s : ByteArray) : ByteArray := s.extract 0 (min s.size 200)
theorem cut200_size (s : ByteArray) : (cut200 s).size ≤ 200 := by
  unfold cut200; rw [size_list, Lib.extract_data, List.length_take]; omega
set_option maxHeartbeats 1000000 in
theorem cut_any (s : ByteArray) (hs : s.size ≤ 9223372036854775807) (w : World) :
    Calls Try.prog 11 #[.string s] w fun e w' => e = .returned (.string (cut200 s)) ∧ w = w' := by
  have m0 : (0 : Int) ≤ min (s.size : Int) 200 := by omega
  have m1 : min (s.size : Int) 200 ≤ (s.size : Int) := by omega
  have hc : s.extract 0 (min (s.size : Int) 200).toNat = cut200 s := by unfold cut200; rw [show (min (s.size : Int) 200).toNat = min s.size 200 by omega]
  go_enter Try.func11, Try.ntmps11
  go_wp2_with fail
  trace_state
  go_ret
  exact ⟨rfl, rfl⟩
end Go.Proofs.Ytflpemagbempaaa.Dg
