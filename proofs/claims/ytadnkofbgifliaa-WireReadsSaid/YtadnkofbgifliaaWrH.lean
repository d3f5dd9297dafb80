/-
  Layer 2 (wire): a reader's list of integers.
-/
import Derived.Test.YtadnkofbgifliaaWrG
namespace Go.Proofs.Ytadnkofbgifliaa.Wr
open Go.RowKit

abbrev NoIs (s : ByteArray) : Prop := NoL encI inI s
def RInts (s : ByteArray) (bad : Bool) (b : Nat) (w : World) (e : Ending) (w' : World) : Prop := RList encI inI 3 (Value.int .i64) s bad b w e w'
def IRel (s : ByteArray) (b : Nat) (w : World) (n : Nat) (s5 s18 : Value) (wr : World) : Prop := ElRel encI inI 3 (Value.int .i64) s b w n s5 s18 wr

set_option maxRecDepth 100000 in
set_option maxHeartbeats 4000000 in
theorem elements_int (b : Nat) (s : ByteArray) (bad : Bool) (w : World) (h : RS w b s bad) (hs : s.size ≤ 1000000) (hbad : bad = true → s.size = 0) :
    Calls Try.prog 48 #[.pointer (some ⟨b, 0, none⟩), .func (.func 22) #[.pointer (some ⟨b, 0, none⟩)] #[]] w fun e w' => RInts s bad b w e w' := by
  have I := Lib.hid (rint_any b s bad w h (by omega))
  have HBad := Lib.hid hbad
  have hbw := rs_lt h
  obtain ⟨i0, hi, hz0, hz1, hz2⟩ := info_parts infoI
  have KI := Lib.hid (And.intro hi (And.intro hz0 (And.intro hz1 hz2)))
  clear h hbad hi hz0 hz1 hz2
  go_enter Try.func48, Try.ntmps48
  go_wp2_with fail
  refine wp_scope_jumps 0 (fun a' w' => Hid (NoIs s ∧ w.grownBy w' (some b) ∧ ∃ s' bad', RS w' b s' bad') ∧ JF 31 (.pointer (some ⟨b, 0, none⟩)) a') (fun _ _ => 0) rfl ?_ ?_
  · go_wp2_with fail
    refine I.out.mono ?_
    rintro e w1 H
    clear I
    rcases H with ⟨n, t, hn, he, rfl, hR, hG⟩ | ⟨hN, rfl, hR, hG⟩
    · obtain rfl := bad_false HBad.out he
      have HR := Lib.hid hR
      have HG := Lib.hid hG
      have HE := Lib.hid he
      have hts : t.length ≤ 1000000 := by
        have : s.size = (encI n ++ t).length := by rw [← he, size_list]
        rw [List.length_append] at this; omega
      obtain ⟨hn0, hn1⟩ := hn
      have LA := Lib.hid (left_any b ⟨t.toArray⟩ false w1 hR)
      rw [mk_size] at LA
      clear hR hG he
      rcases Int.lt_or_le n 0 with h0 | h0
      · have HN : Hid (NoIs s) := Lib.hid (noL_of (fun x => encI_pos x) s n t HE.out (Or.inl h0))
        go_wp2_with fail
        go_step3
        exact ⟨rfl, Lib.hid ⟨HN.out, HG.out, _, _, HR.out⟩, rfl, rfl, rfl⟩
      · obtain ⟨m, rfl⟩ := Int.eq_ofNat_of_zero_le h0
        rcases Nat.lt_or_ge t.length m with h1 | h1
        · have HN : Hid (NoIs s) := Lib.hid (noL_of (fun x => encI_pos x) s m t HE.out (Or.inr (by omega)))
          have h1' : ¬ ((m : Int) ≤ (t.length : Int)) := by omega
          go_wp2_with fail
          refine LA.out.mono ?_
          rintro e w2 ⟨rfl, rfl⟩
          go_wp2_with fail
          go_step3
          exact ⟨rfl, Lib.hid ⟨HN.out, HG.out, _, _, HR.out⟩, rfl, rfl, rfl⟩
        · have h1' : ((m : Int) ≤ (t.length : Int)) := by omega
          have d1 : decide (t.length < m) = false := decide_eq_false (by omega)
          have d2 : decide ((m : Int) < 0) = false := decide_eq_false (by omega)
          go_wp2_with fail
          refine LA.out.mono ?_
          rintro e w2 ⟨rfl, rfl⟩
          clear LA
          go_wp2_with fail
          go_loopw [5, 18] (fun s5 s18 wr => IRel s b w m s5 s18 wr) (fun _ s18 _ => m - (intOf s18).toNat)
          case atStart => exact ⟨[], t, Lib.hid (by simp), Lib.hid (by simpa using HE.out), by simp, rfl, World.ownsRow_nil _ _ _ _, HR.out, HG.out⟩
          case round =>
            clear HR HG HE
            obtain ⟨l, t', hp, he, hl, rfl, hown, hR, hG⟩ := hrel
            generalize hk : l.length = k at *
            have HK := Lib.hid hk
            clear hk
            have ht' : t'.length ≤ 1000000 := by
              have := congrArg List.length he.out
              rw [← size_list, List.length_append, List.length_append] at this; omega
            rcases Nat.lt_or_ge k m with hlt | hge
            · have I := Lib.hid (rint_any b ⟨t'.toArray⟩ false wr hR (by rw [mk_size]; omega))
              go_wp2_with fail
              refine I.out.mono ?_
              rintro e w2 H
              clear I
              have hsub : w.heap.size ≤ wr.heap.size := hG.size
              rcases H with ⟨x, t2, hx, ht, rfl, hR2, hG2⟩ | ⟨hN2, rfl, hR2, hG2⟩
              · have hown2 := row_kept hown hbw hG2
                have hG3 := gg hG hG2
                clear hown hR hG hG2
                have HX := Lib.hid (And.intro hx ht)
                clear hx ht
                have hz3 : w.heap.size ≤ w2.heap.size := hG3.size
                go_wp2_with (at_builtin; refine wpList_append_own _ rfl _ _ 22 rfl w.heap.size 3 i0 (.int .i64 0) 1 8 Try.underlying22 KI.out.1 KI.out.2.1 KI.out.2.2.1 KI.out.2.2.2 rfl (by decide) _ _ _ rfl (hown2.alloc _) ⟨w2.heap.size, 0, none⟩ 1 1 [.int .i64 x] rfl rfl ?c1 ?c2 ?c3 ?c4 ?c5 ?_)
                case c1 =>
                  intro j u hj
                  match j, hj with
                  | 0, hj => simp at hj; subst hj; simp [Addr.add]
                case c2 => intro u hu; simp at hu; subst hu; rfl
                case c3 => unfold maxLen; omega
                case c4 => omega
                case c5 => simp; omega
                intro v' w3 hown' hgrow _
                have hne : u5.ownBlock ≠ some b := fun e => by have := (hown2.lt b e).1; omega
                have hR3 : RS w3 b ⟨t2.toArray⟩ false := rs_kept (rs_kept hR2 (World.grownBy_alloc w2 _ none) (by simp)) hgrow hne
                have hG4 : w.grownBy w3 (some b) := gown (gg hG3 (World.grownBy_alloc w2 _ _)) hgrow (fun g hg => (hown2.lt g hg).1)
                have BA := Lib.hid (bad_any b ⟨t2.toArray⟩ false w3 hR3)
                have RR : Hid (IRel s b w m v' (.int .i64 ((k : Int) + 1)) w3) := Lib.hid ⟨l ++ [x], t2, Lib.hid (fun y hy => by
                    rcases List.mem_append.1 hy with h | h
                    · exact hp.out y h
                    · simp at h; subst h; exact HX.out.1), Lib.hid (by
                    have e2 : t' = encI x ++ t2 := by have := HX.out.2; simpa using this
                    rw [he.out, e2, List.flatMap_append]; simp), by rw [List.length_append, HK.out]; simp; omega, by rw [List.length_append, HK.out]; rfl, by
                    rw [List.length_append, HK.out, List.map_append]; exact hown', hR3, hG4⟩
                clear hown2 hown' hgrow hR2 hR3 hG3 hG4 hne
                go_wp2_with fail
                refine BA.out.mono ?_
                rintro e w4 ⟨rfl, rfl⟩
                clear BA
                go_wp2_with fail
                go_roundw
                case rel => exact RR.out
                case measure => simp [intOf]; omega
              · have hown2 := row_kept hown hbw hG2
                have hG3 := gg hG hG2
                have HN : Hid (NoIs s) := Lib.hid (noL_at (fun _ _ _ _ => encI_prefix) s m l t' he.out (by rw [HK.out]; exact hlt) (fun x t2 hx e2 => hN2 x t2 hx (by simpa using e2)))
                clear hown hR hG hG2 hN2
                have hz3 : w.heap.size ≤ w2.heap.size := hG3.size
                go_wp2_with (at_builtin; refine wpList_append_own _ rfl _ _ 22 rfl w.heap.size 3 i0 (.int .i64 0) 1 8 Try.underlying22 KI.out.1 KI.out.2.1 KI.out.2.2.1 KI.out.2.2.2 rfl (by decide) _ _ _ rfl (hown2.alloc _) ⟨w2.heap.size, 0, none⟩ 1 1 [.int .i64 0] rfl rfl ?d1 ?d2 ?d3 ?d4 ?d5 ?_)
                case d1 =>
                  intro j u hj
                  match j, hj with
                  | 0, hj => simp at hj; subst hj; simp [Addr.add]
                case d2 => intro u hu; simp at hu; subst hu; rfl
                case d3 => unfold maxLen; omega
                case d4 => omega
                case d5 => simp; omega
                intro v' w3 hown' hgrow _
                have hne : u5.ownBlock ≠ some b := fun e => by have := (hown2.lt b e).1; omega
                have hR3 : RS w3 b empty true := rs_kept (rs_kept hR2 (World.grownBy_alloc w2 _ none) (by simp)) hgrow hne
                have hG4 : w.grownBy w3 (some b) := gown (gg hG3 (World.grownBy_alloc w2 _ _)) hgrow (fun g hg => (hown2.lt g hg).1)
                have BA := Lib.hid (bad_any b empty true w3 hR3)
                have RR : Hid (NoIs s ∧ w.grownBy w3 (some b) ∧ ∃ s' bad', RS w3 b s' bad') := Lib.hid ⟨HN.out, hG4, _, _, hR3⟩
                clear hown2 hown' hgrow hR2 hR3 hG3 hG4 hne HN
                go_wp2_with fail
                refine BA.out.mono ?_
                rintro e w4 ⟨rfl, rfl⟩
                clear BA
                go_wp2_with fail
                go_step3
                exact ⟨rfl, RR, rfl, rfl, rfl⟩
            · have hkm : k = m := by omega
              have RR : Hid (RInts s false b w (.returned u5) wr) := Lib.hid (Or.inl ⟨l, t', u5, hp.out, by rw [he.out, HK.out, hkm, List.append_assoc], rfl, by rw [HK.out]; exact hown, hR, hG⟩)
              clear hown hR hG
              subst hkm
              go_wp2_with fail
              simp only [Exit.jump]
              go_ret
              exact RR.out
    · have LA := Lib.hid (left_any b empty true w1 hR)
      have RR : Hid (RInts s bad b w (.returned (.slice none 0 0)) w1) := Lib.hid (Or.inr ⟨noL_of_noI (fun x => encI_pos x) s (by omega) hN, rfl, hR, hG⟩)
      clear hN hR hG
      go_wp2_with fail
      refine LA.out.mono ?_
      rintro e w2 ⟨rfl, rfl⟩
      go_wp2_with fail
      refine wp_loop_rounds 1 ?_
      rw [rounds_succ]
      go_wp2_with fail
      simp only [Exit.jump]
      go_ret
      exact RR.out
  · rintro a' w' ⟨hN, hJ⟩
    obtain ⟨u1,u2,u3,u4,u5,u6,u7,u8,u9,u10,u11,u12,u13,u14,u15,u16,u17,u18,u19,u20,u21,u22,u23,u24,u25,u26,u27,u28,u29,u30, rfl⟩ := fr31 _ _ hJ
    clear hJ
    obtain ⟨hNT, hG, s', bad', hR⟩ := hN.out
    have FA := Lib.hid (fail_any b s' bad' w' hR)
    have HH := Lib.hid (And.intro hNT hG)
    clear hN hNT hG hR
    go_wp2_with fail
    refine FA.out.mono ?_
    rintro e w3 ⟨rfl, hR, hG⟩
    have RR : Hid (RInts s bad b w (.returned (.slice none 0 0)) w3) := Lib.hid (Or.inr ⟨HH.out.1, rfl, hR, gg HH.out.2 hG⟩)
    clear hR hG
    go_wp2_with fail
    simp only [Exit.jump]
    go_ret
    exact RR.out
end Go.Proofs.Ytadnkofbgifliaa.Wr
