/-
  Layer 2 (wire): the document's own reader: its string.
-/
import Derived.Test.YtadnkofbgifliaaWrNb
namespace Go.Proofs.Ytadnkofbgifliaa.Wr
open Go.RowKit

/-- What reading a string answers and leaves. -/
def ZText (s : ByteArray) (bad : Bool) (b : Nat) (w : World) (e : Ending) (w' : World) : Prop :=
  (∃ x t, s.data.toList = encT x ++ t ∧ e = .returned (.string ⟨x.toArray⟩) ∧ RZ w' b ⟨t.toArray⟩ bad ∧ w.grownBy w' (some b)) ∨
    (NoT s ∧ e = .returned (.string ⟨#[]⟩) ∧ RZ w' b empty true ∧ w.grownBy w' (some b))
theorem rest_same {S : ByteArray} {p : Nat} {t : List UInt8} (h : (⟨t.toArray⟩ : ByteArray) = rest S p false) : S.data.toList.drop p = t := by
  have := congrArg (fun x : ByteArray => x.data.toList) h
  simp only [rest_ok] at this
  simpa using this.symm
theorem drop_extract (S : ByteArray) (p m : Nat) (h : p + m ≤ S.size) : S.extract p (p + m) = ⟨((S.data.toList.drop p).take m).toArray⟩ := bytes_eq (by
  rw [Lib.extract_data]; simp [List.drop_take])

set_option maxRecDepth 100000 in
set_option maxHeartbeats 4000000 in
theorem ztext_any (b : Nat) (s : ByteArray) (bad : Bool) (w : World) (h : RZ w b s bad) :
    Calls Try.prog 25 #[.pointer (some ⟨b, 0, none⟩)] w fun e w' => ZText s bad b w e w' := by
  have I := Lib.hid (zint_any b s bad w h)
  obtain ⟨hz, hb⟩ := rz_size h
  have HBad := Lib.hid hb
  clear h hb
  go_enter Try.func25, Try.ntmps25
  go_wp2_with fail
  refine I.out.mono ?_
  rintro e w1 H
  clear I
  rcases H with ⟨n, t, hn, he, rfl, hR, hG⟩ | ⟨hN, rfl, hR, hG⟩
  · obtain rfl := bad_false HBad.out he
    have HZ := Lib.hid hR
    have BA := Lib.hid (fun (k : Nat) => (zbad_any b _ false (w1.drewN k) (rz_kept hR (gd (gr w1 none) k) (by simp))).mono fun _ _ ⟨h1, h2⟩ => And.intro h1 h2.symm)
    have FA := Lib.hid (fun (W : World) (h : RZ W b ⟨t.toArray⟩ false) => zfail_any b _ false W h)
    obtain ⟨S, p, hRR, hp, hs, hrs⟩ := hR
    have hd := Lib.hid (rest_same hrs)
    have hts : t.length = S.size - p := by rw [← hd.out, List.length_drop, ← size_list]
    have HRR := Lib.hid hRR
    have HG := Lib.hid hG
    have HE := Lib.hid he
    obtain ⟨c0, c1, c2, f1, f2⟩ := hRR
    have b0 : (0 : Int) ≤ (S.size : Int) - p := by omega
    have b1 : (S.size : Int) - p ≤ 1000000 := by omega
    obtain ⟨hn0, hn1⟩ := hn
    clear hrs hG he HBad
    rcases Int.lt_or_le n 0 with h0 | h0
    · have HN := Lib.hid (noT_of s n t HE.out (Or.inl h0))
      have d0 : decide (n < 0) = true := decide_eq_true h0
      go_wp2_with fail
      go_quiet ((go_at_call 35; exact Calls.quiet_of_same (BA.out _)))
      go_wp2_with fail
      refine (FA.out _ (rz_kept HZ.out (gd (gr w1 none) _) (by simp))).mono ?_
      rintro e w2 ⟨rfl, hR2, hG2⟩
      have RR : Hid (ZText s false b w (.returned (.string ⟨#[]⟩)) w2) := Lib.hid (Or.inr ⟨HN.out, rfl, hR2, gg (gd HG.out _) hG2⟩)
      clear hR2 hG2 c0 c1 c2 f1 f2
      go_wp2_with fail
      go_ret
      exact RR.out
    · obtain ⟨m, rfl⟩ := Int.eq_ofNat_of_zero_le h0
      have hm0 : decide ((m : Int) < 0) = false := decide_eq_false (by omega)
      rcases Nat.lt_or_ge t.length m with h1 | h1
      · have HN := Lib.hid (noT_of s m t HE.out (Or.inr (by omega)))
        have h1' : decide ((S.size : Int) - p < m) = true := decide_eq_true (by omega)
        go_wp2_with fail
        go_quiet ((go_at_call 35; exact Calls.quiet_of_same (BA.out _)))
        go_wp2_with fail
        refine (FA.out _ (rz_kept HZ.out (gd (gr w1 none) _) (by simp))).mono ?_
        rintro e w2 ⟨rfl, hR2, hG2⟩
        have RR : Hid (ZText s false b w (.returned (.string ⟨#[]⟩)) w2) := Lib.hid (Or.inr ⟨HN.out, rfl, hR2, gg (gd HG.out _) hG2⟩)
        clear hR2 hG2 c0 c1 c2 f1 f2
        go_wp2_with fail
        go_ret
        exact RR.out
      · have h1' : decide ((S.size : Int) - p < m) = false := decide_eq_false (by omega)
        obtain ⟨q, hq⟩ : ∃ q : Nat, p + m = q := ⟨_, rfl⟩
        have hq1 : (p : Int) + m = (q : Int) := by omega
        have hq2 : (q : Int) - m = (p : Int) := by omega
        have hqs : q ≤ S.size := by omega
        have hpq : p ≤ q := by omega
        have HX := Lib.hid (drop_extract S p m (by omega))
        rw [hq, hd.out] at HX
        have HT : Hid ((⟨(t.drop m).toArray⟩ : ByteArray) = rest S q false) := Lib.hid (bytes_eq (by rw [rest_ok, ← hq, ← List.drop_drop, hd.out]))
        clear hq
        go_wp2_with fail
        go_quiet ((go_at_call 35; exact Calls.quiet_of_same (BA.out _)))
        go_wp2_with fail
        have k0 : ((w1.drewN nq).setCell ⟨b, 1, none⟩ (.int .i64 (q : Int))).cell? ⟨b, 0, none⟩ = some (.string S) := by go_cell
        have k1 : ((w1.drewN nq).setCell ⟨b, 1, none⟩ (.int .i64 (q : Int))).cell? ⟨b, 1, none⟩ = some (.int .i64 q) := by go_cell
        have HF : Hid (RZ ((w1.drewN nq).setCell ⟨b, 1, none⟩ (.int .i64 (q : Int))) b ⟨(t.drop m).toArray⟩ false ∧ w.grownBy ((w1.drewN nq).setCell ⟨b, 1, none⟩ (.int .i64 (q : Int))) (some b)) :=
          Lib.hid ⟨⟨S, q, ⟨by go_cell, by go_cell, by go_cell, by go_cell, by go_cell⟩, hqs, hs, HT.out⟩, gs (gd HG.out _) _⟩
        generalize (w1.drewN nq).setCell ⟨b, 1, none⟩ (.int .i64 (q : Int)) = W at *
        clear c0 c1 c2 f1 f2 HG BA FA HZ
        go_quiet (fail)
        go_wp2_with fail
        go_ret
        refine Or.inl ⟨t.take m, t.drop m, ?_, ?_, rz_kept HF.out.1 (gd (gr W none) _) (by simp), gd HF.out.2 _⟩
        · rw [HE.out]; unfold encT
          rw [List.length_take, Nat.min_eq_left h1, List.append_assoc, List.take_append_drop]
        · rw [← HX.out]; rfl
  · have HN := Lib.hid (noT_of_noI s (by omega) hN)
    have BA := Lib.hid (fun (k : Nat) => (zbad_any b empty true (w1.drewN k) (rz_kept hR (gd (gr w1 none) k) (by simp))).mono fun _ _ ⟨h1, h2⟩ => And.intro h1 h2.symm)
    have HZ := Lib.hid hR
    have FA := Lib.hid (fun (W : World) (h : RZ W b empty true) => zfail_any b empty true W h)
    have HG := Lib.hid hG
    clear hN hR hG
    go_wp2_with fail
    go_quiet ((go_at_call 35; exact Calls.quiet_of_same (BA.out _)))
    go_wp2_with fail
    refine (FA.out _ (rz_kept HZ.out (gd (gr w1 none) _) (by simp))).mono ?_
    rintro e w2 ⟨rfl, hR2, hG2⟩
    have RR : Hid (ZText s bad b w (.returned (.string ⟨#[]⟩)) w2) := Lib.hid (Or.inr ⟨HN.out, rfl, hR2, gg (gd HG.out _) hG2⟩)
    clear hR2 hG2
    go_wp2_with fail
    go_ret
    exact RR.out
end Go.Proofs.Ytadnkofbgifliaa.Wr
