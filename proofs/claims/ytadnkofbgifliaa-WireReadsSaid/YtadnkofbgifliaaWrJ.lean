/-
  Layer 2 (wire): readers by what their bytes begin with, nil readers, and the law's decodes and malformed.
-/
import Derived.Test.YtadnkofbgifliaaWrI
namespace Go.Proofs.Ytadnkofbgifliaa.Wr
open Go.RowKit

theorem rint_no (b : Nat) (s : ByteArray) (bad : Bool) (w : World) (h : RS w b s bad) (hs : s.size ≤ 140737488355327) (hn : NoI s) :
    Calls Try.prog 22 #[.pointer (some ⟨b, 0, none⟩)] w fun e w' => e = .returned (.int .i64 0) ∧ RS w' b empty true ∧ w.grownBy w' (some b) :=
  (rint_any b s bad w h hs).mono fun e w' H => by
    rcases H with ⟨n, t, h1, h2, _⟩ | ⟨_, h⟩
    · exact absurd h2 (hn n t h1)
    · exact h
theorem rtext_no (b : Nat) (s : ByteArray) (bad : Bool) (w : World) (h : RS w b s bad) (hs : s.size ≤ 140737488355327) (hbad : bad = true → s.size = 0) (hn : NoT s) :
    Calls Try.prog 24 #[.pointer (some ⟨b, 0, none⟩)] w fun e w' => e = .returned (.string ⟨#[]⟩) ∧ RS w' b empty true ∧ w.grownBy w' (some b) :=
  (rtext_any b s bad w h hs hbad).mono fun e w' H => by
    rcases H with ⟨x, t, h2, _⟩ | ⟨_, h⟩
    · exact absurd h2 (hn x t)
    · exact h
theorem rints_no (b : Nat) (s : ByteArray) (bad : Bool) (w : World) (h : RS w b s bad) (hs : s.size ≤ 1000000) (hbad : bad = true → s.size = 0) (hn : NoIs s) :
    Calls Try.prog 27 #[.pointer (some ⟨b, 0, none⟩)] w fun e w' => e = .returned (.slice none 0 0) ∧ RS w' b empty true ∧ w.grownBy w' (some b) :=
  (rints_any b s bad w h hs hbad).mono fun e w' H => by
    rcases H with ⟨l, t, v, hp, h2, _⟩ | ⟨_, h⟩
    · exact absurd h2 (hn l t hp)
    · exact h
theorem rtexts_no (b : Nat) (s : ByteArray) (bad : Bool) (w : World) (h : RS w b s bad) (hs : s.size ≤ 1000000) (hbad : bad = true → s.size = 0) (hn : NoTs s) :
    Calls Try.prog 30 #[.pointer (some ⟨b, 0, none⟩)] w fun e w' => e = .returned (.slice none 0 0) ∧ RS w' b empty true ∧ w.grownBy w' (some b) :=
  (rtexts_any b s bad w h hs hbad).mono fun e w' H => by
    rcases H with ⟨l, t, v, hp, h2, _⟩ | ⟨_, h⟩
    · exact absurd h2 (hn l t hp)
    · exact h

theorem rint_ok (b : Nat) (s : ByteArray) (bad : Bool) (w : World) (h : RS w b s bad) (hs : s.size ≤ 140737488355327) (n : Int) (t : List UInt8) (hn : inI n) (he : s.data.toList = encI n ++ t) :
    Calls Try.prog 22 #[.pointer (some ⟨b, 0, none⟩)] w fun e w' => e = .returned (.int .i64 n) ∧ RS w' b ⟨t.toArray⟩ bad ∧ w.grownBy w' (some b) :=
  (rint_any b s bad w h hs).mono fun e w' H => by
    rcases H with ⟨n', t', h1, h2, h3⟩ | ⟨h, _⟩
    · obtain ⟨rfl, rfl⟩ := encI_prefix (he.symm.trans h2)
      exact h3
    · exact absurd he (h n t hn)
theorem rtext_ok (b : Nat) (s : ByteArray) (bad : Bool) (w : World) (h : RS w b s bad) (hs : s.size ≤ 140737488355327) (hbad : bad = true → s.size = 0) (x t : List UInt8) (he : s.data.toList = encT x ++ t) :
    Calls Try.prog 24 #[.pointer (some ⟨b, 0, none⟩)] w fun e w' => e = .returned (.string ⟨x.toArray⟩) ∧ RS w' b ⟨t.toArray⟩ bad ∧ w.grownBy w' (some b) :=
  (rtext_any b s bad w h hs hbad).mono fun e w' H => by
    rcases H with ⟨x', t', h2, h3⟩ | ⟨h, _⟩
    · obtain ⟨rfl, rfl⟩ := encT_prefix (he.symm.trans h2)
      exact h3
    · exact absurd he (h x t)
theorem list_prefix {α : Type} {f : α → List UInt8} (hf : ∀ x y s t, f x ++ s = f y ++ t → x = y ∧ s = t) {l l' : List α} {s t : List UInt8} (e : (encI l.length ++ l.flatMap f) ++ s = (encI l'.length ++ l'.flatMap f) ++ t) : l = l' ∧ s = t := by
  rw [List.append_assoc, List.append_assoc] at e
  obtain ⟨h1, h2⟩ := encI_prefix e
  exact flat_same f hf l l' s t (by omega) h2
theorem rints_ok (b : Nat) (s : ByteArray) (bad : Bool) (w : World) (h : RS w b s bad) (hs : s.size ≤ 1000000) (hbad : bad = true → s.size = 0) (l : List Int) (t : List UInt8) (hl : ∀ x ∈ l, inI x) (he : s.data.toList = encIs l ++ t) :
    Calls Try.prog 27 #[.pointer (some ⟨b, 0, none⟩)] w fun e w' => ∃ v, e = .returned v ∧ w'.ownsRow w.heap.size 3 1 v l.length (l.map (Value.int .i64)) ∧ RS w' b ⟨t.toArray⟩ bad ∧ w.grownBy w' (some b) :=
  (rints_any b s bad w h hs hbad).mono fun e w' H => by
    rcases H with ⟨l', t', v, hp, h2, h3⟩ | ⟨h, _⟩
    · obtain ⟨rfl, rfl⟩ := list_prefix (fun _ _ _ _ => encI_prefix) (he.symm.trans h2)
      exact ⟨v, h3⟩
    · exact absurd he (h l t hl)
theorem rtexts_ok (b : Nat) (s : ByteArray) (bad : Bool) (w : World) (h : RS w b s bad) (hs : s.size ≤ 1000000) (hbad : bad = true → s.size = 0) (l : List (List UInt8)) (t : List UInt8) (he : s.data.toList = encTs l ++ t) :
    Calls Try.prog 30 #[.pointer (some ⟨b, 0, none⟩)] w fun e w' => ∃ v, e = .returned v ∧ w'.ownsRow w.heap.size 9 1 v l.length (l.map valT) ∧ RS w' b ⟨t.toArray⟩ bad ∧ w.grownBy w' (some b) :=
  (rtexts_any b s bad w h hs hbad).mono fun e w' H => by
    rcases H with ⟨l', t', v, hp, h2, h3⟩ | ⟨h, _⟩
    · obtain ⟨rfl, rfl⟩ := list_prefix (fun _ _ _ _ => encT_prefix) (he.symm.trans h2)
      exact ⟨v, h3⟩
    · exact absurd he (h l t (fun _ _ => trivial))

/-! nil readers -/

set_option maxRecDepth 100000 in
set_option maxHeartbeats 1000000 in
theorem rint_nil (w : World) : Calls Try.prog 22 #[.pointer none] w fun e w' => e = .returned (.int .i64 0) ∧ w = w' := by
  have L := Lib.hid left_nil
  have F := Lib.hid fail_nil
  go_enter Try.func22, Try.ntmps22
  go_wp2_with fail
  go_step3
  go_wp2_with fail
  refine (L.out _).mono ?_
  rintro e w' ⟨rfl, rfl⟩
  go_wp2_with fail
  refine wp_loop_rounds 1 ?_
  rw [rounds_succ]
  go_wp2_with fail
  go_step3
  go_wp2_with fail
  refine (F.out _).mono ?_
  rintro e w' ⟨rfl, rfl⟩
  go_wp2_with fail
  (try rw [Exit.noGoto_ret])
  go_ret
  exact ⟨rfl, rfl⟩
set_option maxRecDepth 100000 in
set_option maxHeartbeats 1000000 in
theorem rtext_nil (w : World) : Calls Try.prog 24 #[.pointer none] w fun e w' => e = .returned (.string ⟨#[]⟩) ∧ w = w' := by
  have I := Lib.hid rint_nil
  have B := Lib.hid bad_nil
  have F := Lib.hid fail_nil
  go_enter Try.func24, Try.ntmps24
  go_wp2_with fail
  refine wp_scope_jumps 0 (fun a' w' => w' = w ∧ JF 37 (.pointer none) a') (fun _ _ => 0) rfl ?_ ?_
  · go_wp2_with fail
    refine (I.out _).mono ?_
    rintro e w' ⟨rfl, rfl⟩
    go_wp2_with fail
    refine (B.out _).mono ?_
    rintro e w' ⟨rfl, rfl⟩
    go_wp2_with fail
    go_step3
    exact ⟨rfl, rfl, rfl, rfl, rfl⟩
  · rintro a' w' ⟨rfl, hJ⟩
    obtain ⟨u1,u2,u3,u4,u5,u6,u7,u8,u9,u10,u11,u12,u13,u14,u15,u16,u17,u18,u19,u20,u21,u22,u23,u24,u25,u26,u27,u28,u29,u30,u31,u32,u33,u34,u35,u36, rfl⟩ := fr37 _ _ hJ
    clear hJ
    go_wp2_with fail
    refine (F.out _).mono ?_
    rintro e w3 ⟨rfl, rfl⟩
    go_wp2_with fail
    simp only [Exit.jump]
    go_ret
    exact ⟨rfl, rfl⟩

set_option maxRecDepth 100000 in
set_option maxHeartbeats 1000000 in
theorem elements_int_nil (w : World) : Calls Try.prog 48 #[.pointer none, .func (.func 22) #[.pointer none] #[]] w fun e w' => e = .returned (.slice none 0 0) ∧ w = w' := by
  have I := Lib.hid rint_nil
  have L := Lib.hid left_nil
  go_enter Try.func48, Try.ntmps48
  go_wp2_with fail
  go_step3
  go_wp2_with fail
  refine (I.out _).mono ?_
  rintro e w' ⟨rfl, rfl⟩
  go_wp2_with fail
  refine (L.out _).mono ?_
  rintro e w' ⟨rfl, rfl⟩
  go_wp2_with fail
  refine wp_loop_rounds 1 ?_
  rw [rounds_succ]
  go_wp2_with fail
  (try rw [Exit.noGoto_ret])
  go_ret
  exact ⟨rfl, rfl⟩
set_option maxRecDepth 100000 in
set_option maxHeartbeats 1000000 in
theorem rints_nil (w : World) : Calls Try.prog 27 #[.pointer none] w fun e w' => e = .returned (.slice none 0 0) ∧ w = w' := by
  have I := Lib.hid elements_int_nil
  go_enter Try.func27, Try.ntmps27
  go_wp2_with fail
  refine (I.out _).mono ?_
  rintro e w' ⟨rfl, rfl⟩
  go_wp2_with fail
  go_ret
  exact ⟨rfl, rfl⟩

set_option maxRecDepth 100000 in
set_option maxHeartbeats 1000000 in
theorem elements_str_nil (w : World) : Calls Try.prog 49 #[.pointer none, .func (.func 24) #[.pointer none] #[]] w fun e w' => e = .returned (.slice none 0 0) ∧ w = w' := by
  have I := Lib.hid rint_nil
  have L := Lib.hid left_nil
  go_enter Try.func49, Try.ntmps49
  go_wp2_with fail
  go_step3
  go_wp2_with fail
  refine (I.out _).mono ?_
  rintro e w' ⟨rfl, rfl⟩
  go_wp2_with fail
  refine (L.out _).mono ?_
  rintro e w' ⟨rfl, rfl⟩
  go_wp2_with fail
  refine wp_loop_rounds 1 ?_
  rw [rounds_succ]
  go_wp2_with fail
  (try rw [Exit.noGoto_ret])
  go_ret
  exact ⟨rfl, rfl⟩
set_option maxRecDepth 100000 in
set_option maxHeartbeats 1000000 in
theorem rtexts_nil (w : World) : Calls Try.prog 30 #[.pointer none] w fun e w' => e = .returned (.slice none 0 0) ∧ w = w' := by
  have I := Lib.hid elements_str_nil
  go_enter Try.func30, Try.ntmps30
  go_wp2_with fail
  refine (I.out _).mono ?_
  rintro e w' ⟨rfl, rfl⟩
  go_wp2_with fail
  go_ret
  exact ⟨rfl, rfl⟩

/-- What no call of a kind reads. -/
def NoK (k : Nat) (s : ByteArray) : Prop := if k = 0 then NoI s else if k = 1 then NoT s else if k = 2 then NoIs s else NoTs s
theorem noK_of_noI (k : Nat) (s : ByteArray) (hs : s.size ≤ 1000000) (h : NoI s) : NoK k s := by
  unfold NoK
  split
  · exact h
  · split
    · exact noT_of_noI s (by omega) h
    · split
      · exact noL_of_noI (fun x => encI_pos x) s (by omega) h
      · exact noL_of_noI (fun x => encT_pos x) s (by omega) h

set_option maxHeartbeats 1000000 in
theorem decodes_no0 (b : Nat) (s : ByteArray) (bad : Bool) (w : World) (h : RS w b s bad) (hs : s.size ≤ 1000000) (hbad : bad = true → s.size = 0) (hn : NoK 0 s) :
    Calls Try.prog 38 #[.pointer (some ⟨b, 0, none⟩), .int .i64 0] w fun e w' => e = .returned (.bool true) ∧ RS w' b empty true ∧ w.grownBy w' (some b) := by
  have I := Lib.hid (rint_no b s bad w h (by omega) hn)
  clear h hbad hn
  go_enter Try.func38, Try.ntmps38
  go_wp2_with fail
  refine I.out.mono ?_
  rintro e w' ⟨rfl, hR⟩
  go_wp2_with fail
  go_ret
  exact ⟨rfl, hR⟩
set_option maxHeartbeats 1000000 in
theorem decodes_nil0 (w : World) : Calls Try.prog 38 #[.pointer none, .int .i64 0] w fun e w' => e = .returned (.bool true) ∧ w = w' := by
  have I := Lib.hid rint_nil
  go_enter Try.func38, Try.ntmps38
  go_wp2_with fail
  refine (I.out _).mono ?_
  rintro e w' ⟨rfl, rfl⟩
  go_wp2_with fail
  go_ret
  exact ⟨rfl, rfl⟩

set_option maxHeartbeats 1000000 in
theorem decodes_no1 (b : Nat) (s : ByteArray) (bad : Bool) (w : World) (h : RS w b s bad) (hs : s.size ≤ 1000000) (hbad : bad = true → s.size = 0) (hn : NoK 1 s) :
    Calls Try.prog 38 #[.pointer (some ⟨b, 0, none⟩), .int .i64 1] w fun e w' => e = .returned (.bool true) ∧ RS w' b empty true ∧ w.grownBy w' (some b) := by
  have I := Lib.hid (rtext_no b s bad w h (by omega) hbad hn)
  clear h hbad hn
  go_enter Try.func38, Try.ntmps38
  go_wp2_with fail
  refine I.out.mono ?_
  rintro e w' ⟨rfl, hR⟩
  go_wp2_with fail
  go_ret
  exact ⟨rfl, hR⟩
set_option maxHeartbeats 1000000 in
theorem decodes_nil1 (w : World) : Calls Try.prog 38 #[.pointer none, .int .i64 1] w fun e w' => e = .returned (.bool true) ∧ w = w' := by
  have I := Lib.hid rtext_nil
  go_enter Try.func38, Try.ntmps38
  go_wp2_with fail
  refine (I.out _).mono ?_
  rintro e w' ⟨rfl, rfl⟩
  go_wp2_with fail
  go_ret
  exact ⟨rfl, rfl⟩

set_option maxHeartbeats 1000000 in
theorem decodes_no2 (b : Nat) (s : ByteArray) (bad : Bool) (w : World) (h : RS w b s bad) (hs : s.size ≤ 1000000) (hbad : bad = true → s.size = 0) (hn : NoK 2 s) :
    Calls Try.prog 38 #[.pointer (some ⟨b, 0, none⟩), .int .i64 2] w fun e w' => e = .returned (.bool true) ∧ RS w' b empty true ∧ w.grownBy w' (some b) := by
  have I := Lib.hid (rints_no b s bad w h (by omega) hbad hn)
  clear h hbad hn
  go_enter Try.func38, Try.ntmps38
  go_wp2_with fail
  refine I.out.mono ?_
  rintro e w' ⟨rfl, hR⟩
  go_wp2_with fail
  go_ret
  exact ⟨rfl, hR⟩
set_option maxHeartbeats 1000000 in
theorem decodes_nil2 (w : World) : Calls Try.prog 38 #[.pointer none, .int .i64 2] w fun e w' => e = .returned (.bool true) ∧ w = w' := by
  have I := Lib.hid rints_nil
  go_enter Try.func38, Try.ntmps38
  go_wp2_with fail
  refine (I.out _).mono ?_
  rintro e w' ⟨rfl, rfl⟩
  go_wp2_with fail
  go_ret
  exact ⟨rfl, rfl⟩

set_option maxHeartbeats 1000000 in
theorem decodes_no3 (b : Nat) (s : ByteArray) (bad : Bool) (w : World) (h : RS w b s bad) (hs : s.size ≤ 1000000) (hbad : bad = true → s.size = 0) (hn : NoK 3 s) :
    Calls Try.prog 38 #[.pointer (some ⟨b, 0, none⟩), .int .i64 3] w fun e w' => e = .returned (.bool true) ∧ RS w' b empty true ∧ w.grownBy w' (some b) := by
  have I := Lib.hid (rtexts_no b s bad w h (by omega) hbad hn)
  clear h hbad hn
  go_enter Try.func38, Try.ntmps38
  go_wp2_with fail
  refine I.out.mono ?_
  rintro e w' ⟨rfl, hR⟩
  go_wp2_with fail
  go_ret
  exact ⟨rfl, hR⟩
set_option maxHeartbeats 1000000 in
theorem decodes_nil3 (w : World) : Calls Try.prog 38 #[.pointer none, .int .i64 3] w fun e w' => e = .returned (.bool true) ∧ w = w' := by
  have I := Lib.hid rtexts_nil
  go_enter Try.func38, Try.ntmps38
  go_wp2_with fail
  refine (I.out _).mono ?_
  rintro e w' ⟨rfl, rfl⟩
  go_wp2_with fail
  go_ret
  exact ⟨rfl, rfl⟩

theorem four (k : Nat) (h : k < 4) : k = 0 ∨ k = 1 ∨ k = 2 ∨ k = 3 := by omega
theorem decodes_no (k : Nat) (hk : k < 4) (b : Nat) (s : ByteArray) (bad : Bool) (w : World) (h : RS w b s bad) (hs : s.size ≤ 1000000) (hbad : bad = true → s.size = 0) (hn : NoK k s) :
    Calls Try.prog 38 #[.pointer (some ⟨b, 0, none⟩), .int .i64 k] w fun e w' => e = .returned (.bool true) ∧ RS w' b empty true ∧ w.grownBy w' (some b) := by
  rcases four k hk with rfl | rfl | rfl | rfl
  · exact decodes_no0 b s bad w h hs hbad hn
  · exact decodes_no1 b s bad w h hs hbad hn
  · exact decodes_no2 b s bad w h hs hbad hn
  · exact decodes_no3 b s bad w h hs hbad hn
theorem decodes_nil (k : Nat) (hk : k < 4) (w : World) : Calls Try.prog 38 #[.pointer none, .int .i64 k] w fun e w' => e = .returned (.bool true) ∧ w = w' := by
  rcases four k hk with rfl | rfl | rfl | rfl
  · exact decodes_nil0 w
  · exact decodes_nil1 w
  · exact decodes_nil2 w
  · exact decodes_nil3 w
end Go.Proofs.Ytadnkofbgifliaa.Wr
