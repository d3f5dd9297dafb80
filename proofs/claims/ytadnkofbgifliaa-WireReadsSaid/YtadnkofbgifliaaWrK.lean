/-
  Layer 2 (wire): the law's malformed, and when lists are the same.
-/
import Derived.Test.YtadnkofbgifliaaWrJ
import Derived.Deep.QuietTactic
import Derived.BigQuiet
namespace Go.Proofs.Ytadnkofbgifliaa.Wr
open Go.RowKit

/-- A cell that is there reads behind a call as before. -/
theorem kc {W w1 : World} (hb : Below W.heap.size W w1) {b o : Nat} {v : Value} (h : W.cell? ⟨b, o, none⟩ = some v) : w1.cell? ⟨b, o, none⟩ = some v := by
  rw [hb.cell (p := ⟨b, o, none⟩) (block_lt_of_cell h)]; exact h
theorem bt {w u v : World} (h1 : Below w.heap.size w u) (h2 : Below u.heap.size u v) : Below w.heap.size w v := h1.trans (h2.mono h1.size)
theorem bg {w u v : World} {r : Nat} (h : Below w.heap.size w u) (g : u.grownBy v (some r)) (hr : w.heap.size ≤ r) : Below w.heap.size w v := gB h g h.size hr
theorem rs_below {w w' : World} {b : Nat} {s : ByteArray} {bad : Bool} (h : RS w b s bad) (hb : Below w.heap.size w w') : RS w' b s bad := rs_kept h (below_grown hb) (by simp)
theorem bd {w u : World} (h : Below w.heap.size w u) (n : Nat) : Below w.heap.size w (u.drewN n) := ⟨h.os, h.tape, h.output, h.size, h.block⟩

set_option maxRecDepth 100000 in
set_option maxHeartbeats 1000000 in
theorem malformed_no (s : ByteArray) (hs : s.size ≤ 1000000) (hn : NoI s) (w : World) :
    Calls Try.prog 40 #[.string s] w fun e w' => e = .returned (.bool true) ∧ Below w.heap.size w w' := by
  have HN := Lib.hid hn
  have NW := Lib.hid (new_any s)
  clear hn
  go_enter Try.func40, Try.ntmps40
  go_wp2_with fail
  go_loopw [3] (fun s3 wr => ∃ k : Nat, k ≤ 4 ∧ s3 = .int .i64 k ∧ Below w.heap.size w wr) (fun s3 _ => 4 - (intOf s3).toNat)
  case atStart => exact ⟨0, by omega, rfl, Below.refl _ _⟩
  case round =>
    obtain ⟨k, hk, rfl, hB⟩ := hrel
    rcases Nat.lt_or_ge k 4 with hlt | hge
    · go_wp2_with fail
      refine (NW.out _).mono ?_
      rintro e w1 ⟨rfl, hR, hB1, hz⟩
      have hBB := bt hB hB1
      have D := Lib.hid (decodes_no k hlt _ s false w1 hR hs (by simp) (noK_of_noI k s hs HN.out))
      have hsz := hB.size
      generalize wr.heap.size = b1 at *
      clear hR hB1 hB
      go_wp2_with fail
      refine D.out.mono ?_
      rintro e w2 ⟨rfl, hR, hG⟩
      have BA := Lib.hid (bad_any _ _ _ _ hR)
      have LA := Lib.hid (left_any _ _ _ _ hR)
      have hB2 := bg hBB hG hsz
      clear hR hG D hBB
      go_wp2_with fail
      refine BA.out.mono ?_
      rintro e w3 ⟨rfl, rfl⟩
      go_wp2_with fail
      refine LA.out.mono ?_
      rintro e w3 ⟨rfl, rfl⟩
      go_wp2_with fail
      go_roundw
      case rel => exact ⟨k + 1, by omega, by congr 1, hB2⟩
      case measure => simp [intOf]; omega
    · go_wp2_with fail
      go_ret
      exact ⟨rfl, hB⟩

theorem str_ne {x y : ByteArray} (h : ¬ x = y) : (x.toList == y.toList) = false := by
  rw [ByteArray.toList_eq, ByteArray.toList_eq, beq_eq_false_iff_ne]
  intro e
  exact h (ByteArray.ext (Array.toList_inj.1 e))
theorem take_eq_succ {α : Type} {l m : List α} {k : Nat} {x y : α} (hx : l[k]? = some x) (hy : m[k]? = some y) (h : l.take k = m.take k) : l.take (k + 1) = m.take (k + 1) ↔ x = y := by
  rw [List.take_add_one, List.take_add_one, h, hx, hy]
  simp

set_option maxRecDepth 100000 in
set_option maxHeartbeats 1000000 in
theorem sameInts_any (a a' : Option Addr) (l l' : List Int) (n n' c c' : Nat) (hn : l.length = n) (hn' : l'.length = n') (w : World) (hl : IntsAt w a l) (hl' : IntsAt w a' l') (hs : n ≤ 1000000) (hs' : n' ≤ 1000000) :
    Calls Try.prog 26 #[.slice a n c, .slice a' n' c'] w fun e w' => e = .returned (.bool (decide (l = l'))) ∧ Below w.heap.size w w' := by
  have HN := Lib.hid (And.intro hn hn')
  have HL := Lib.hid (And.intro hl hl')
  have T : l = l' → decide (l = l') = true := fun h => decide_eq_true h
  have F : l ≠ l' → decide (l = l') = false := fun h => decide_eq_false h
  have HT := Lib.hid (And.intro T F)
  clear hn hn' hl hl' T F
  generalize hd : decide (l = l') = r at *
  have HD := Lib.hid hd
  clear hd
  by_cases hnn : n = n'
  · subst hnn
    go_enter Try.func26, Try.ntmps26
    go_wp2_with fail
    go_loopw [5] (fun s5 wr => ∃ k : Nat, k ≤ n ∧ s5 = .int .i64 k ∧ Hid (l.take k = l'.take k) ∧ Below w.heap.size w wr) (fun s5 _ => n - (intOf s5).toNat)
    case atStart => exact ⟨0, by omega, rfl, Lib.hid (by simp), Below.refl _ _⟩
    case round =>
      obtain ⟨k, hk, rfl, hE, hB⟩ := hrel
      rcases Nat.lt_or_ge k n with hlt | hge
      · have hx : l[k]? = some (l[k]'(by rw [HN.out.1]; exact hlt)) := List.getElem?_eq_getElem _
        have hy : l'[k]? = some (l'[k]'(by rw [HN.out.2]; exact hlt)) := List.getElem?_eq_getElem _
        obtain ⟨b, off, rfl, hc⟩ := HL.out.1 k _ hx
        obtain ⟨b', off', rfl, hc'⟩ := HL.out.2 k _ hy
        have hT := Lib.hid (take_eq_succ hx hy hE.out)
        have HXY := Lib.hid (And.intro hx hy)
        clear hx hy
        have ck : wr.cell? ⟨b, off + k, none⟩ = some (Value.int .i64 (l[k]'(by rw [HN.out.1]; exact hlt))) := by rw [hB.cell (p := ⟨b, off + k, none⟩) (block_lt_of_cell hc)]; exact hc
        have ck' : wr.cell? ⟨b', off' + k, none⟩ = some (Value.int .i64 (l'[k]'(by rw [HN.out.2]; exact hlt))) := by rw [hB.cell (p := ⟨b', off' + k, none⟩) (block_lt_of_cell hc')]; exact hc'
        clear hc hc'
        generalize l[k]'(by rw [HN.out.1]; exact hlt) = x at *
        generalize l'[k]'(by rw [HN.out.2]; exact hlt) = y at *
        have klt : (k : Int) < n := by omega
        have k0 : (0 : Int) ≤ k := by omega
        by_cases hxy : x = y
        · subst hxy
          have hE2 := Lib.hid (hT.out.2 rfl)
          skip
          go_wp2_with fail
          go_quiet (fail)
          go_wp2_with fail
          go_roundw
          case rel => exact ⟨k + 1, by omega, by congr 1, hE2, bd hB _⟩
          case measure => simp [intOf]; omega
        · have hne : l ≠ l' := fun e => hxy (hT.out.1 (by rw [e]))
          have RF := Lib.hid (HT.out.2 hne)
          have hxb : (x != y) = true := by rw [bne_iff_ne]; exact hxy
          clear hne hxy
          go_wp2_with fail
          go_quiet (fail)
          go_wp2_with fail
          go_ret
          exact ⟨by rw [RF.out]; rfl, bd hB _⟩
      · have hkn : k = n := by omega
        subst hkn
        have he : l = l' := by
          have := hE.out
          rw [List.take_of_length_le (by rw [HN.out.1]; exact Nat.le_refl _), List.take_of_length_le (by rw [HN.out.2]; exact Nat.le_refl _)] at this
          exact this
        have RT := Lib.hid (HT.out.1 he)
        clear he
        go_wp2_with fail
        go_ret
        exact ⟨by rw [RT.out]; rfl, hB⟩
  · have hne : l ≠ l' := fun e => hnn (by rw [← HN.out.1, ← HN.out.2, e])
    have RF := Lib.hid (HT.out.2 hne)
    have hb : ((n : Int) != n') = true := by rw [bne_iff_ne]; omega
    clear hne
    go_enter Try.func26, Try.ntmps26
    go_wp2_with fail
    go_ret
    exact ⟨by rw [RF.out]; rfl, Below.refl _ _⟩

set_option maxRecDepth 100000 in
set_option maxHeartbeats 1000000 in
theorem sameTexts_any (a a' : Option Addr) (l l' : List ByteArray) (n n' c c' : Nat) (hn : l.length = n) (hn' : l'.length = n') (w : World) (hl : StrsAt w a l) (hl' : StrsAt w a' l') (hs : n ≤ 1000000) (hs' : n' ≤ 1000000) :
    Calls Try.prog 29 #[.slice a n c, .slice a' n' c'] w fun e w' => e = .returned (.bool (decide (l = l'))) ∧ Below w.heap.size w w' := by
  have HN := Lib.hid (And.intro hn hn')
  have HL := Lib.hid (And.intro hl hl')
  have T : l = l' → decide (l = l') = true := fun h => decide_eq_true h
  have F : l ≠ l' → decide (l = l') = false := fun h => decide_eq_false h
  have HT := Lib.hid (And.intro T F)
  clear hn hn' hl hl' T F
  generalize hd : decide (l = l') = r at *
  have HD := Lib.hid hd
  clear hd
  by_cases hnn : n = n'
  · subst hnn
    go_enter Try.func29, Try.ntmps29
    go_wp2_with fail
    go_loopw [5] (fun s5 wr => ∃ k : Nat, k ≤ n ∧ s5 = .int .i64 k ∧ Hid (l.take k = l'.take k) ∧ Below w.heap.size w wr) (fun s5 _ => n - (intOf s5).toNat)
    case atStart => exact ⟨0, by omega, rfl, Lib.hid (by simp), Below.refl _ _⟩
    case round =>
      obtain ⟨k, hk, rfl, hE, hB⟩ := hrel
      rcases Nat.lt_or_ge k n with hlt | hge
      · have hx : l[k]? = some (l[k]'(by rw [HN.out.1]; exact hlt)) := List.getElem?_eq_getElem _
        have hy : l'[k]? = some (l'[k]'(by rw [HN.out.2]; exact hlt)) := List.getElem?_eq_getElem _
        obtain ⟨b, off, rfl, hc⟩ := HL.out.1 k _ hx
        obtain ⟨b', off', rfl, hc'⟩ := HL.out.2 k _ hy
        have hT := Lib.hid (take_eq_succ hx hy hE.out)
        have HXY := Lib.hid (And.intro hx hy)
        clear hx hy
        have ck : wr.cell? ⟨b, off + k, none⟩ = some (Value.string (l[k]'(by rw [HN.out.1]; exact hlt))) := by rw [hB.cell (p := ⟨b, off + k, none⟩) (block_lt_of_cell hc)]; exact hc
        have ck' : wr.cell? ⟨b', off' + k, none⟩ = some (Value.string (l'[k]'(by rw [HN.out.2]; exact hlt))) := by rw [hB.cell (p := ⟨b', off' + k, none⟩) (block_lt_of_cell hc')]; exact hc'
        clear hc hc'
        generalize l[k]'(by rw [HN.out.1]; exact hlt) = x at *
        generalize l'[k]'(by rw [HN.out.2]; exact hlt) = y at *
        have klt : (k : Int) < n := by omega
        have k0 : (0 : Int) ≤ k := by omega
        by_cases hxy : x = y
        · subst hxy
          have hE2 := Lib.hid (hT.out.2 rfl)
          skip
          go_wp2_with fail
          go_quiet (fail)
          go_wp2_with fail
          go_roundw
          case rel => exact ⟨k + 1, by omega, by congr 1, hE2, bd hB _⟩
          case measure => simp [intOf]; omega
        · have hne : l ≠ l' := fun e => hxy (hT.out.1 (by rw [e]))
          have RF := Lib.hid (HT.out.2 hne)
          have hxb := str_ne hxy
          clear hne hxy
          go_wp2_with fail
          go_quiet (fail)
          go_wp2_with fail
          go_ret
          exact ⟨by rw [RF.out]; rfl, bd hB _⟩
      · have hkn : k = n := by omega
        subst hkn
        have he : l = l' := by
          have := hE.out
          rw [List.take_of_length_le (by rw [HN.out.1]; exact Nat.le_refl _), List.take_of_length_le (by rw [HN.out.2]; exact Nat.le_refl _)] at this
          exact this
        have RT := Lib.hid (HT.out.1 he)
        clear he
        go_wp2_with fail
        go_ret
        exact ⟨by rw [RT.out]; rfl, hB⟩
  · have hne : l ≠ l' := fun e => hnn (by rw [← HN.out.1, ← HN.out.2, e])
    have RF := Lib.hid (HT.out.2 hne)
    have hb : ((n : Int) != n') = true := by rw [bne_iff_ne]; omega
    clear hne
    go_enter Try.func29, Try.ntmps29
    go_wp2_with fail
    go_ret
    exact ⟨by rw [RF.out]; rfl, Below.refl _ _⟩
end Go.Proofs.Ytadnkofbgifliaa.Wr
