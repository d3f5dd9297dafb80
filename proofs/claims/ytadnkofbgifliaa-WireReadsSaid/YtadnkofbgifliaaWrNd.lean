/-
  Layer 2 (wire): the document's own reader: its list (int).
-/
import Derived.Test.YtadnkofbgifliaaWrNe
namespace Go.Proofs.Ytadnkofbgifliaa.Wr
open Go.RowKit

abbrev ZIs (s : ByteArray) (bad : Bool) (b : Nat) (w : World) (e : Ending) (w' : World) : Prop := ZList encI inI 3 (Value.int .i64) s bad b w e w'
def ZIsRel (s : ByteArray) (b : Nat) (w : World) (n : Nat) (sv sk : Value) (wr : World) : Prop := ZRel encI inI 3 (Value.int .i64) s b w n sv sk wr

theorem zIs_step (b : Nat) (s : ByteArray) (n k : Nat) (vs : List Value) (wr : World) (hk : k < n) (h : ZSt encI inI (Value.int .i64) s b n k vs wr) :
    Calls Try.prog 23 #[.pointer (some ⟨b, 0, none⟩)] wr fun e w' => ∃ y, e = .returned (.int .i64 y) ∧ ZSt encI inI (Value.int .i64) s b n (k + 1) (vs ++ [.int .i64 y]) w' ∧ wr.grownBy w' (some b) := by
  rcases h with ⟨l, t, h1, h2, h3, h4, h5⟩ | ⟨h1, h2⟩
  · refine (zint_any b ⟨t.toArray⟩ false wr h5).mono fun e w' H => ?_
    rcases H with ⟨x, t2, hx, e2, rfl, hR, hg⟩ | ⟨hN, rfl, hR, hg⟩
    · refine ⟨x, rfl, Or.inl ⟨l ++ [x], t2, ?_, ?_, ?_, ?_, hR⟩, hg⟩
      · intro y hy
        rcases List.mem_append.1 hy with h | h
        · exact h1 y h
        · simp at h; subst h; exact hx
      · have e3 : t = encI x ++ t2 := by simpa using e2
        rw [h2, e3, List.flatMap_append]; simp
      · rw [h3, List.map_append]; rfl
      · rw [List.length_append, h4]; rfl
    · exact ⟨0, rfl, Or.inr ⟨noL_at (fun _ _ _ _ => encI_prefix) s n l t h2 (by omega) (fun x t2 hx e2 => hN x t2 hx (by simpa using e2)), hR⟩, hg⟩
  · refine (zint_any b empty true wr h2).mono fun e w' H => ?_
    rcases H with ⟨x, t2, hx, e2, _⟩ | ⟨hN, rfl, hR, hg⟩
    · exact absurd e2 (noI_nil x t2 hx)
    · exact ⟨0, rfl, Or.inr ⟨h1, hR⟩, hg⟩

set_option maxRecDepth 100000 in
set_option maxHeartbeats 4000000 in
theorem zIs_any (b : Nat) (s : ByteArray) (bad : Bool) (w : World) (h : RZ w b s bad) :
    Calls Try.prog 28 #[.pointer (some ⟨b, 0, none⟩)] w fun e w' => ZIs s bad b w e w' := by
  have I := Lib.hid (zint_any b s bad w h)
  obtain ⟨hz, hb⟩ := rz_size h
  have HBad := Lib.hid hb
  have hbw := rz_lt h
  obtain ⟨i0, hi, hz0, hz1, hz2⟩ := info_parts infoI
  have KI := Lib.hid (And.intro hi (And.intro hz0 (And.intro hz1 hz2)))
  clear h hb hi hz0 hz1 hz2
  go_enter Try.func28, Try.ntmps28
  go_wp2_with fail
  refine I.out.mono ?_
  rintro e w1 H
  clear I
  rcases H with ⟨n, t, hn, he, rfl, hR, hG⟩ | ⟨hN, rfl, hR, hG⟩
  · obtain rfl := bad_false HBad.out he
    have HZ := Lib.hid hR
    have BA := Lib.hid (fun (k : Nat) => (zbad_any b _ false (w1.drewN k) (rz_kept hR (gd (gr w1 none) k) (by simp))).mono fun _ _ ⟨h1, h2⟩ => And.intro h1 h2.symm)
    have FA := Lib.hid (fun (W : World) (h : RZ W b ⟨t.toArray⟩ false) => zfail_any b _ false W h)
    obtain ⟨S, p, hRR, hp, hs, hrs⟩ := hR
    have hd := Lib.hid (rest_same hrs)
    have hts : t.length = S.size - p := by rw [← hd.out, List.length_drop, ← size_list]
    have HG := Lib.hid hG
    have HE := Lib.hid he
    obtain ⟨c0, c1, c2, f1, f2⟩ := hRR
    have b0 : (0 : Int) ≤ (S.size : Int) - p := by omega
    have b1 : (S.size : Int) - p ≤ 1000000 := by omega
    obtain ⟨hn0, hn1⟩ := hn
    clear hrs hG he HBad
    rcases Int.lt_or_le n 0 with h0 | h0
    · have HN : Hid (NoL encI inI s) := Lib.hid (noL_of (fun x => encI_pos x) s n t HE.out (Or.inl h0))
      have d0 : decide (n < 0) = true := decide_eq_true h0
      go_wp2_with fail
      go_quiet ((go_at_call 35; exact Calls.quiet_of_same (BA.out _)))
      go_wp2_with fail
      refine (FA.out _ (rz_kept HZ.out (gd (gr w1 none) _) (by simp))).mono ?_
      rintro e w2 ⟨rfl, hR2, hG2⟩
      have RR : Hid (ZIs s false b w (.returned (.slice none 0 0)) w2) := Lib.hid (Or.inr ⟨HN.out, rfl, hR2, gg (gd HG.out _) hG2⟩)
      clear hR2 hG2 c0 c1 c2 f1 f2
      go_wp2_with fail
      go_ret
      exact RR.out
    · obtain ⟨m, rfl⟩ := Int.eq_ofNat_of_zero_le h0
      have hm0 : decide ((m : Int) < 0) = false := decide_eq_false (by omega)
      rcases Nat.lt_or_ge t.length m with h1 | h1
      · have HN : Hid (NoL encI inI s) := Lib.hid (noL_of (fun x => encI_pos x) s m t HE.out (Or.inr (by omega)))
        have h1' : decide ((S.size : Int) - p < m) = true := decide_eq_true (by omega)
        go_wp2_with fail
        go_quiet ((go_at_call 35; exact Calls.quiet_of_same (BA.out _)))
        go_wp2_with fail
        refine (FA.out _ (rz_kept HZ.out (gd (gr w1 none) _) (by simp))).mono ?_
        rintro e w2 ⟨rfl, hR2, hG2⟩
        have RR : Hid (ZIs s false b w (.returned (.slice none 0 0)) w2) := Lib.hid (Or.inr ⟨HN.out, rfl, hR2, gg (gd HG.out _) hG2⟩)
        clear hR2 hG2 c0 c1 c2 f1 f2
        go_wp2_with fail
        go_ret
        exact RR.out
      · have h1' : decide ((S.size : Int) - p < m) = false := decide_eq_false (by omega)
        have hm6 : m ≤ 1000000 := by omega
        go_wp2_with fail
        go_quiet ((go_at_call 35; exact Calls.quiet_of_same (BA.out _)))
        have HS : Hid (RZ (w1.drewN nq) b ⟨t.toArray⟩ false ∧ w.grownBy (w1.drewN nq) (some b)) := Lib.hid ⟨rz_kept HZ.out (gd (gr w1 none) _) (by simp), gd HG.out _⟩
        clear c0 c1 c2 f1 f2 BA FA HZ HG hd hts b0 b1 hm0 h1' hp hs
        generalize w1.drewN nq = W at *
        go_wp2_with fail
        go_loopw [4, 5] (fun sv sk wr => ZIsRel s b w m sv sk wr) (fun _ sk _ => m - (intOf sk).toNat)
        case atStart => exact ⟨0, [], by omega, rfl, World.ownsRow_nil _ _ _ _, HS.out.2, Lib.hid (Or.inl ⟨[], t, by simp, by simpa using HE.out, rfl, rfl, HS.out.1⟩)⟩
        case round =>
          clear HS HE
          obtain ⟨k, vs, hk, rfl, hown, hG, hst⟩ := hrel
          rcases Nat.lt_or_ge k m with hlt | hge
          · have I := Lib.hid (zIs_step b s m k vs wr hlt hst.out)
            clear hst
            go_wp2_with fail
            refine I.out.mono ?_
            rintro e w2 ⟨y, rfl, hst, hG2⟩
            clear I
            have hsub : w.heap.size ≤ wr.heap.size := hG.size
            have hown2 := row_kept hown hbw hG2
            have hG3 := gg hG hG2
            have HST := Lib.hid hst
            clear hown hG hG2 hst
            have hz3 : w.heap.size ≤ w2.heap.size := hG3.size
            go_wp2_with (at_builtin; refine wpList_append_own _ rfl _ _ 22 rfl w.heap.size 3 i0 (.int .i64 0) 1 8 Try.underlying22 KI.out.1 KI.out.2.1 KI.out.2.2.1 KI.out.2.2.2 rfl (by decide) _ _ _ rfl (hown2.alloc _) ⟨w2.heap.size, 0, none⟩ 1 1 [.int .i64 y] rfl rfl ?c1 ?c2 ?c3 ?c4 ?c5 ?_)
            case c1 =>
              intro j u hj
              match j, hj with
              | 0, hj => simp at hj; subst hj; simp [Addr.add]
            case c2 => intro u hu; simp at hu; subst hu; rfl
            case c3 => unfold maxLen; omega
            case c4 => omega
            case c5 => simp; omega
            intro v' w3 hown' hgrow _
            have hne : u4.ownBlock ≠ some b := fun e => by have := (hown2.lt b e).1; omega
            have hst3 := zst_kept (zst_kept HST.out (World.grownBy_alloc w2 _ none) (by simp)) hgrow hne
            have hG4 : w.grownBy w3 (some b) := gown (gg hG3 (World.grownBy_alloc w2 _ _)) hgrow (fun g hg => (hown2.lt g hg).1)
            have RR : Hid (ZIsRel s b w m v' (.int .i64 ((k : Int) + 1)) w3) := Lib.hid ⟨k + 1, _, by omega, rfl, hown', hG4, Lib.hid hst3⟩
            clear hown2 hown' hgrow hst3 hG3 hG4 hne HST
            go_wp2_with fail
            go_roundw
            case rel => exact RR.out
            case measure => simp [intOf]; omega
          · have hkm : k = m := by omega
            subst hkm
            rcases hst.out with ⟨l, t', h1, h2, h3, h4, h5⟩ | ⟨h1, h2⟩
            · have BA := Lib.hid (zbad_any b _ false wr h5)
              have RR : Hid (ZIs s false b w (.returned u4) wr) := Lib.hid (Or.inl ⟨l, t', u4, h1, by rw [h2, h4, List.append_assoc], rfl, by rw [h4, ← h3]; exact hown, h5, hG⟩)
              clear hst hown hG h1 h2 h3 h4 h5
              go_wp2_with fail
              refine BA.out.mono ?_
              rintro e w2 ⟨rfl, rfl⟩
              go_wp2_with fail
              go_ret
              exact RR.out
            · have BA := Lib.hid (zbad_any b _ true wr h2)
              have RR : Hid (ZIs s false b w (.returned (.slice none 0 0)) wr) := Lib.hid (Or.inr ⟨h1, rfl, h2, hG⟩)
              clear hst hown hG h1 h2
              go_wp2_with fail
              refine BA.out.mono ?_
              rintro e w2 ⟨rfl, rfl⟩
              go_wp2_with fail
              go_ret
              exact RR.out
  · have HN : Hid (NoL encI inI s) := Lib.hid (noL_of_noI (fun x => encI_pos x) s (by omega) hN)
    have BA := Lib.hid (fun (k : Nat) => (zbad_any b empty true (w1.drewN k) (rz_kept hR (gd (gr w1 none) k) (by simp))).mono fun _ _ ⟨h1, h2⟩ => And.intro h1 h2.symm)
    have HZ := Lib.hid hR
    have FA := Lib.hid (fun (W : World) (h : RZ W b empty true) => zfail_any b empty true W h)
    have HG := Lib.hid hG
    clear hN hR hG
    go_wp2_with fail
    go_quiet ((go_at_call 35; exact Calls.quiet_of_same (BA.out _)))
    go_wp2_with fail
    refine (FA.out _ (rz_kept HZ.out (gd (gr w1 none) _) (by simp))).mono ?_
    rintro e w2 ⟨rfl, hR2, hG2⟩
    have RR : Hid (ZIs s bad b w (.returned (.slice none 0 0)) w2) := Lib.hid (Or.inr ⟨HN.out, rfl, hR2, gg (gd HG.out _) hG2⟩)
    clear hR2 hG2
    go_wp2_with fail
    go_ret
    exact RR.out
end Go.Proofs.Ytadnkofbgifliaa.Wr
