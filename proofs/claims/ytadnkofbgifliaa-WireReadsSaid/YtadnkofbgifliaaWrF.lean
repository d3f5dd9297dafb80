/-
  Layer 2 (wire): a reader's string.
-/
import Derived.Test.YtadnkofbgifliaaWrE
import Derived.RegionTactic
import Derived.ChangeAlike
import Derived.BigRegion
namespace Go.Proofs.Ytadnkofbgifliaa.Wr
open Go.RowKit

/-- What reading a string answers and leaves. -/
def RText (s : ByteArray) (bad : Bool) (b : Nat) (w : World) (e : Ending) (w' : World) : Prop :=
  (∃ x t, s.data.toList = encT x ++ t ∧ e = .returned (.string ⟨x.toArray⟩) ∧ RS w' b ⟨t.toArray⟩ bad ∧ w.grownBy w' (some b)) ∨
    ((∀ x t, s.data.toList ≠ encT x ++ t) ∧ e = .returned (.string ⟨#[]⟩) ∧ RS w' b empty true ∧ w.grownBy w' (some b))

set_option maxRecDepth 100000 in
set_option maxHeartbeats 2000000 in
theorem fr37 (p : Value) (a : Act) (h : JF 37 p a) : ∃ u1 u2 u3 u4 u5 u6 u7 u8 u9 u10 u11 u12 u13 u14 u15 u16 u17 u18 u19 u20 u21 u22 u23 u24 u25 u26 u27 u28 u29 u30 u31 u32 u33 u34 u35 u36 : Value, a = { tmps := #[p, u1, u2, u3, u4, u5, u6, u7, u8, u9, u10, u11, u12, u13, u14, u15, u16, u17, u18, u19, u20, u21, u22, u23, u24, u25, u26, u27, u28, u29, u30, u31, u32, u33, u34, u35, u36], defers := [] } := by
  obtain ⟨⟨l⟩, d⟩ := a
  obtain ⟨h1, h2, h3⟩ := h
  simp only at h1 h2 h3
  subst h1
  have h2' : l.length = 37 := h2
  clear h2
  iterate 37 (rcases l with _ | ⟨x, l⟩; (· simp at h2'); simp only [List.length_cons, Nat.add_right_cancel_iff] at h2')
  have : l = [] := List.eq_nil_of_length_eq_zero (by omega)
  subst this
  have h3' : _ = p := h3
  subst h3'
  exact ⟨_, _, _, _, _, _, _, _, _, _, _, _, _, _, _, _, _, _, _, _, _, _, _, _, _, _, _, _, _, _, _, _, _, _, _, _, rfl⟩

def NoT (s : ByteArray) : Prop := ∀ x t, s.data.toList ≠ encT x ++ t
theorem len_in (x t : List UInt8) (s : ByteArray) (hs : s.size ≤ 140737488355327) (h : s.data.toList = encT x ++ t) : inI (x.length : Int) := by
  have : s.size = (encT x ++ t).length := by rw [← h, size_list]
  unfold encT at this
  simp only [List.length_append] at this
  unfold inI; omega
theorem noT_of_noI (s : ByteArray) (hs : s.size ≤ 140737488355327) (h : NoI s) : NoT s := by
  intro x t e
  have hb := len_in x t s hs e
  unfold encT at e
  rw [List.append_assoc] at e
  exact h _ _ hb e
theorem noT_of (s : ByteArray) (n : Int) (t : List UInt8) (e : s.data.toList = encI n ++ t) (h : n < 0 ∨ (t.length : Int) < n) : NoT s := by
  intro x t' e'
  rw [e'] at e
  unfold encT at e
  rw [List.append_assoc] at e
  obtain ⟨h1, h2⟩ := encI_prefix e
  rw [← h2, ← h1] at h
  simp only [List.length_append] at h
  omega
theorem mk_size (t : List UInt8) : (⟨t.toArray⟩ : ByteArray).size = t.length := by rw [size_list]
theorem take_list (t : List UInt8) (m : Nat) (hm : m ≤ t.length) : (⟨t.toArray⟩ : ByteArray).extract 0 m = ⟨(t.take m).toArray⟩ := by
  apply ByteArray.ext
  apply Array.toList_inj.1
  rw [Lib.extract_data]
  simp
theorem drop_list (t : List UInt8) (m : Nat) : (⟨t.toArray⟩ : ByteArray).extract m (⟨t.toArray⟩ : ByteArray).size = ⟨(t.drop m).toArray⟩ := extract_list _ _

theorem bad_false {s : ByteArray} {bad : Bool} (hb : bad = true → s.size = 0) {n : Int} {t : List UInt8} (h : s.data.toList = encI n ++ t) : bad = false := by
  cases bad with
  | false => rfl
  | true =>
    have h0 := hb rfl
    rw [size_list, h, List.length_append] at h0
    have := encI_pos n
    omega

theorem fail_any' (b : Nat) (s : ByteArray) (bad : Bool) (w : World) : Hid (RS w b s bad) → Calls Try.prog 45 #[.pointer (some ⟨b, 0, none⟩)] w fun e w' => e = .returned (.tuple #[]) ∧ RS w' b empty true ∧ w.grownBy w' (some b) := fun h => fail_any b s bad w h.out

set_option maxRecDepth 100000 in
set_option maxHeartbeats 4000000 in
theorem rtext_any (b : Nat) (s : ByteArray) (bad : Bool) (w : World) (h : RS w b s bad) (hs : s.size ≤ 140737488355327) (hbad : bad = true → s.size = 0) :
    Calls Try.prog 24 #[.pointer (some ⟨b, 0, none⟩)] w fun e w' => RText s bad b w e w' := by
  have I := Lib.hid (rint_any b s bad w h hs)
  have HBad := Lib.hid hbad
  clear h hbad
  go_enter Try.func24, Try.ntmps24
  go_wp2_with fail
  refine wp_scope_jumps 0 (fun a' w' => Hid (NoT s ∧ w.grownBy w' (some b) ∧ ∃ s' bad', RS w' b s' bad') ∧ JF 37 (.pointer (some ⟨b, 0, none⟩)) a') (fun _ _ => 0) rfl ?_ ?_
  · go_wp2_with fail
    refine I.out.mono ?_
    rintro e w1 H
    clear I
    rcases H with ⟨n, t, hn, he, rfl, hR, hG⟩ | ⟨hN, rfl, hR, hG⟩
    · obtain rfl := bad_false HBad.out he
      have HR := Lib.hid hR
      have HG := Lib.hid hG
      have HE := Lib.hid he
      have hts : t.length ≤ 140737488355327 := by
        have : s.size = (encI n ++ t).length := by rw [← he, size_list]
        rw [List.length_append] at this; omega
      obtain ⟨hn0, hn1⟩ := hn
      have BA := Lib.hid (bad_any b ⟨t.toArray⟩ false w1 hR)
      have LA := Lib.hid (left_any b ⟨t.toArray⟩ false w1 hR)
      rw [mk_size] at LA
      clear hR hG he
      rcases Int.lt_or_le n 0 with h0 | h0
      · have HN := Lib.hid (noT_of s n t HE.out (Or.inl h0))
        go_wp2_with fail
        refine BA.out.mono ?_
        rintro e w2 ⟨rfl, rfl⟩
        go_wp2_with fail
        go_step3
        exact ⟨rfl, Lib.hid ⟨HN.out, HG.out, _, _, HR.out⟩, rfl, rfl, rfl⟩
      · obtain ⟨m, rfl⟩ := Int.eq_ofNat_of_zero_le h0
        rcases Nat.lt_or_ge t.length m with h1 | h1
        · have HN := Lib.hid (noT_of s m t HE.out (Or.inr (by omega)))
          have h1' : ¬ ((m : Int) ≤ (t.length : Int)) := by omega
          go_wp2_with fail
          refine BA.out.mono ?_
          rintro e w2 ⟨rfl, rfl⟩
          go_wp2_with fail
          refine LA.out.mono ?_
          rintro e w2 ⟨rfl, rfl⟩
          go_wp2_with fail
          go_step3
          exact ⟨rfl, Lib.hid ⟨HN.out, HG.out, _, _, HR.out⟩, rfl, rfl, rfl⟩
        · have h1' : ((m : Int) ≤ (t.length : Int)) := by omega
          go_wp2_with fail
          refine BA.out.mono ?_
          rintro e w2 ⟨rfl, rfl⟩
          go_wp2_with fail
          refine LA.out.mono ?_
          rintro e w2 ⟨rfl, rfl⟩
          clear BA LA
          obtain ⟨c0, c1, f0, f1⟩ := HR.out
          have hz := mk_size t
          generalize hS : (⟨t.toArray⟩ : ByteArray) = S at *
          have HSS := Lib.hid hS
          clear hS
          have h2 : m ≤ S.size := by omega
          have HZ := Lib.hid hz
          clear hz
          go_wp2_with fail
          go_region
          go_wp2_with fail
          simp only [Exit.jump]
          go_ret
          have hS := HSS.out
          subst hS
          refine Or.inl ⟨t.take m, t.drop m, ?_, ?_, ?_, ?_⟩
          · rw [HE.out]; unfold encT
            rw [List.length_take, Nat.min_eq_left h1, List.append_assoc, List.take_append_drop]
          · rw [← take_list t m h1]; rfl
          · rw [drop_list]
            exact ⟨sc_same c0 _, (sc_off w1 (b := b) (o := 0) (o' := 1) (by omega) _).trans c1, (sc_fz w1 ⟨b, 0, none⟩ b 0 _).trans f0, (sc_fz w1 ⟨b, 0, none⟩ b 1 _).trans f1⟩
          · exact gd (gs HG.out _) 1
    · have HN := Lib.hid (noT_of_noI s hs hN)
      have BA := Lib.hid (bad_any b empty true w1 hR)
      have HR := Lib.hid hR
      have HG := Lib.hid hG
      clear hN hR hG
      go_wp2_with fail
      refine BA.out.mono ?_
      rintro e w2 ⟨rfl, rfl⟩
      go_wp2_with fail
      go_step3
      exact ⟨rfl, Lib.hid ⟨HN.out, HG.out, _, _, HR.out⟩, rfl, rfl, rfl⟩
  · rintro a' w' ⟨hN, hJ⟩
    obtain ⟨u1,u2,u3,u4,u5,u6,u7,u8,u9,u10,u11,u12,u13,u14,u15,u16,u17,u18,u19,u20,u21,u22,u23,u24,u25,u26,u27,u28,u29,u30,u31,u32,u33,u34,u35,u36, rfl⟩ := fr37 _ _ hJ
    clear hJ
    obtain ⟨hNT, hG, s', bad', hR⟩ := hN.out
    have FA := Lib.hid (fail_any b s' bad' w' hR)
    have HH := Lib.hid (And.intro hNT hG)
    clear hN hNT hG hR
    go_wp2_with fail
    refine FA.out.mono ?_
    rintro e w3 ⟨rfl, hR, hG⟩
    have RR : Hid (RText s bad b w (.returned (.string ⟨#[]⟩)) w3) := Lib.hid (Or.inr ⟨HH.out.1, rfl, hR, gg HH.out.2 hG⟩)
    clear hR hG
    go_wp2_with fail
    simp only [Exit.jump]
    go_ret
    exact RR.out
end Go.Proofs.Ytadnkofbgifliaa.Wr
