/-
  Layer 7 (raster): Moved of the document's own.
-/
import Derived.Test.YtjeiapgniflnaaaRsS
namespace Go.Proofs.Ytjeiapgniflnaaa.Rs
open Go.RowKit
open Go.Proofs.Ytjeiapgniflnaaa.Ot
/-- A point that is scaled and shifted. -/
def mvP (t x y : Int) (p : Pt) : Pt := ⟨wrap64 (wrap64 (t * p.x) + x), wrap64 (wrap64 (t * p.y) + y), p.o⟩
def MvRel (w : World) (N : Nat) (ns : Nat → Nat) (g : Nat → Nat → Pt) (s9 s10 : Value) (V : World) : Prop := ∃ (k : Nat) (xs : List Value) (B : Nat → Nat), s10 = .int .i64 (k : Int) ∧ k ≤ N ∧ MO w V s9 k xs ns B g
def MvI (V : World) (n : Nat) (f : Nat → Pt) (s11 s12 : Value) (V' : World) : Prop := ∃ i : Nat, s12 = .int .i64 (i : Int) ∧ i ≤ n ∧ V'.ownsRow V.heap.size 63 3 s11 i (vals (lst f i)) ∧ Below V.heap.size V V'
theorem lst_next (f : Nat → Pt) (i : Nat) : lst f (i + 1) = lst f i ++ [f i] := by unfold lst; rw [List.range_succ, List.map_append]; rfl
theorem iwz (x : Int) : IntKind.i64.wrap x = wrap64 x := by unfold wrap64; rw [IntKind.wrap_i64]
theorem small3 {i n : Nat} (h : i < n) (h2 : n ≤ 1000000) : i + 1 ≤ maxLen ∧ (i + 1) * 24 ≤ 140737488355328 := by unfold maxLen; omega
set_option maxRecDepth 100000 in
set_option maxHeartbeats 16000000 in
theorem Moved_any (a : Option Addr) (N c : Nat) (ns : Nat → Nat) (g : Nat → Nat → Pt) (t x y : Int) (hN : N ≤ 1000000) (hs : ∀ k, k < N → ns k ≤ 1000000) (w : World) (hA : OT w a N ns g) :
    Calls Try.prog 11 #[.slice a N c, .int .i64 t, .int .i64 x, .int .i64 y] w fun e w' => ∃ v xs B, e = .returned v ∧ MO w w' v N xs ns B (fun k i => mvP t x y (g k i)) := by
  have HA := Lib.hid hA
  obtain ⟨i0, ki1, ki2, ki3, ki4⟩ := info_parts infoS
  obtain ⟨i1, li1, li2, li3, li4⟩ := info_parts infoP
  have KI := Lib.hid (And.intro ki1 (And.intro ki2 (And.intro ki3 ki4)))
  have KJ := Lib.hid (And.intro li1 (And.intro li2 (And.intro li3 li4)))
  have HS := Lib.hid hs
  clear hA ki1 ki2 ki3 ki4 li1 li2 li3 li4 hs
  go_enter Try.func11, Try.ntmps11
  go_wp2_with fail
  go_loopw [9, 10] (fun s9 s10 V => MvRel w N ns (fun k i => mvP t x y (g k i)) s9 s10 V) (fun _ s10 _ => N - (intOf s10).toNat)
  case atStart => exact ⟨0, [], fun _ => 0, rfl, by omega, mo_nil w _ _⟩
  case round =>
    obtain ⟨k, xs, B, rfl, hk, hM⟩ := hrel
    rename World => V
    rcases Nat.lt_or_ge k N with hkN | hkN
    · obtain ⟨b, off, a', c', rfl, hc, h1, h2, hp⟩ := ot_below HA.out hM.be k hkN
      have hbl : b < V.heap.size := block_lt_of_cell hc
      have hn6 := Lib.hid (HS.out k hkN)
      have HP := Lib.hid hp
      have k2 : (0 : Int) ≤ (k : Int) := by omega
      have k3 : (k : Int) < (N : Int) := by omega
      have hVs := hM.be.size
      have hlx := hM.ow.1
      have HM := Lib.hid hM
      have CK : Hid (∀ W, Below V.heap.size V W → W.cell? ⟨b, off + k, none⟩ = some (.slice a' (ns k) c')) := Lib.hid (fun W h => kc h hc)
      obtain ⟨n, hn⟩ : ∃ n, ns k = n := ⟨_, rfl⟩
      rw [hn] at CK HP hn6 h1 hc
      have Hn := Lib.hid hn
      clear hp hM hn
      go_wp2_with fail
      go_loopw [11, 12] (fun s11 s12 V' => MvI V n (fun i => mvP t x y (g k i)) s11 s12 V') (fun _ s12 _ => n - (intOf s12).toNat)
      case atStart => exact ⟨0, rfl, by omega, by simpa [lst, vals] using World.ownsRow_nil _ _ _ _, Below.refl _ _⟩
      case round =>
        clear hc
        obtain ⟨i, rfl, hi, hown, hB⟩ := hrel
        rename World => V2
        have hc := CK.out V2 hB
        have i2 := nat0 i
        rcases Nat.lt_or_ge i n with hin | hin
        · have i3 := natlt hin
          obtain ⟨pb, po, e, x0, x1, x2⟩ := HP.out i hin
          have hpl : pb < V.heap.size := block_lt_of_cell x0
          replace x0 := kc hB x0
          replace x1 := kc hB x1
          replace x2 := kc hB x2
          have hn7 := hn6.out
          subst e
          obtain ⟨px, hpx⟩ : ∃ px, (g k i).x = px := ⟨_, rfl⟩
          obtain ⟨py, hpy⟩ : ∃ py, (g k i).y = py := ⟨_, rfl⟩
          obtain ⟨qo, hqo⟩ : ∃ qo, (g k i).o = qo := ⟨_, rfl⟩
          rw [hpx] at x0
          rw [hpy] at x1
          rw [hqo] at x2
          have hq : Hid (mvP t x y (g k i) = ⟨IntKind.i64.wrap (IntKind.i64.wrap (t * px) + x), IntKind.i64.wrap (IntKind.i64.wrap (t * py) + y), qo⟩) := Lib.hid (by unfold mvP; rw [hpx, hpy, hqo]; simp only [iwz])
          clear hpx hpy hqo
          have hrow : Hid (∀ q, u11.ownBlock = some q → V.heap.size ≤ q) := Lib.hid (fun q hq => (hown.lt q hq).1)
          have hV2 := hB.size
          have SX : ∀ w', V2.grownBy w' u11.ownBlock → w'.cell? ⟨b, off + k, none⟩ = some (.slice (some ⟨pb, po, none⟩) n c') := fun _ h => far h (fun e => by have := hrow.out _ e; omega) hc
          have S0 : ∀ w', V2.grownBy w' u11.ownBlock → w'.cell? ⟨pb, po + i * 3, none⟩ = some (.int .i64 px) := fun _ h => far h (fun e => by have := hrow.out _ e; omega) x0
          have S1 : ∀ w', V2.grownBy w' u11.ownBlock → w'.cell? ⟨pb, po + i * 3 + 1, none⟩ = some (.int .i64 py) := fun _ h => far h (fun e => by have := hrow.out _ e; omega) x1
          have S2 : ∀ w', V2.grownBy w' u11.ownBlock → w'.cell? ⟨pb, po + i * 3 + 2, none⟩ = some (.bool qo) := fun _ h => far h (fun e => by have := hrow.out _ e; omega) x2
          have hR : Hid (∀ v' V', V'.ownsRow V.heap.size 63 3 v' (i + 1) (vals (lst (fun i => mvP t x y (g k i)) i) ++ ptVs ⟨IntKind.i64.wrap (IntKind.i64.wrap (t * px) + x), IntKind.i64.wrap (IntKind.i64.wrap (t * py) + y), qo⟩) → V2.grownBy V' u11.ownBlock → MvI V n (fun i => mvP t x y (g k i)) v' (.int .i64 ((i : Int) + 1)) V') :=
            Lib.hid (fun v' V' h3 h4 => ⟨i + 1, rfl, hin, by rw [lst_next, vals_app, hq.out]; simpa [vals] using h3, gBo hB h4 hrow.out⟩)
          obtain ⟨li1, li2, li3, li4⟩ := KJ.out
          obtain ⟨sm1, sm2⟩ := small3 hin hn7
          have hin0 := hin
          clear x0 x1 x2 hn7
          go_upto_region 9 with (fail)
          clear hc
          have NW : ∀ j u, (ptVs ⟨IntKind.i64.wrap (IntKind.i64.wrap (t * px) + x), IntKind.i64.wrap (IntKind.i64.wrap (t * py) + y), qo⟩)[j]? = some u → ((V2.alloc (.cells #[.int .i64 (IntKind.i64.wrap (IntKind.i64.wrap (t * px) + x)), .int .i64 (IntKind.i64.wrap (IntKind.i64.wrap (t * py) + y)), .bool qo] 63)).drew).cell? ((⟨V2.heap.size, 0, none⟩ : Addr).add j) = some u := news_pt V2 ⟨IntKind.i64.wrap (IntKind.i64.wrap (t * px) + x), IntKind.i64.wrap (IntKind.i64.wrap (t * py) + y), qo⟩ 63
          go_region_held_law (fun w' => V2.grownBy w' u11.ownBlock) (first
            | (with_reducible exact gd1 (grO _ _))
            | (with_reducible exact gaO (by assumption) _)
            | (with_reducible exact gd1 (gaO (grO _ _) _))
            | (with_reducible assumption)
            | (with_reducible exact World.grownBy.trans (by assumption) hgrow9))
            (first
            | (refine step_append_lies _ (by rfl) _ _ 49 (by rfl) V.heap.size 63 i1 _ 3 24 Try.underlying49 li1 li2 li3 li4 rfl (by decide) _ i _ (by rfl) ((own_drew hown).alloc _) ⟨V2.heap.size, 0, none⟩ 1 1 (ptVs ⟨IntKind.i64.wrap (IntKind.i64.wrap (t * px) + x), IntKind.i64.wrap (IntKind.i64.wrap (t * py) + y), qo⟩) (by rfl) rfl NW (by intro u hu; simp [ptVs] at hu; rcases hu with rfl | rfl | rfl <;> rfl) (by omega) sm1 sm2 (by simp; omega) _ rfl ?_; intro g9 cap9 w9 hown9 hgrow9 hat9 hlt9))
          have R := Lib.hid (hR.out _ _ hown9 (World.grownBy.trans (gaO (gd1 (grO _ _)) _) hgrow9))
          clear hown9 hgrow9 hat9 NW hR SX S0 S1 S2 hown
          go_wp2_with fail
          exact ⟨R.out, ltn' hin0⟩
        · obtain rfl : i = n := by omega
          obtain ⟨ki1, ki2, ki3, ki4⟩ := KI.out
          obtain ⟨ap, cp, bp, rfl, q1, q2, q3, q4, q5⟩ := own_po (l := lst (fun j => mvP t x y (g k j)) i) (by rw [lst_len]; exact hown)
          rw [lst_len] at q1 q3 q4 q5
          rw [lst_len]
          have hR : Hid (∀ v' V' xs' B', MO w V' v' (k + 1) xs' ns B' (fun k i => mvP t x y (g k i)) → MvRel w N ns (fun k i => mvP t x y (g k i)) v' (.int .i64 ((k : Int) + 1)) V') := Lib.hid (fun v' V' xs' B' h3 => ⟨k + 1, xs', B', rfl, hkN, h3⟩)
          have NW := news_one V2 (.slice ap i cp) 49
          have hi0 : True := trivial
          have hBd : Below V.heap.size V V2 := hB
          have hlow := (mo_below HM.out (ba hBd (.cells #[.slice ap i cp] 49))).ow
          obtain ⟨sm1, sm2⟩ := small3 hkN hN
          have hsz2 : w.heap.size ≤ (V2.alloc (.cells #[.slice ap i cp] 49)).heap.size := by rw [World.size_alloc]; exact Nat.le_succ_of_le (Nat.le_trans hVs hBd.size)
          have HM2 := Lib.hid HM.out
          obtain rfl := Hn.out
          clear hown hi Hn
          go_wp2_with (at_builtin; refine wpList_append_lies _ rfl _ _ 23 rfl w.heap.size 49 i0 _ 1 24 Try.underlying23 ki1 ki2 ki3 ki4 rfl (by decide) _ k xs rfl hlow ⟨V2.heap.size, 0, none⟩ 1 1 [.slice ap (ns k) cp] rfl rfl NW (by intro u hu; simp at hu; subst hu; rfl) (Nat.succ_pos 0) sm1 sm2 hsz2 _ rfl ?_; intro s cap W2 hown2 hg2 hat2 hlt2)
          have R := Lib.hid (hR.out _ _ _ _ (mo_app (n := ns k) (b := bp) HM2.out (ba hBd _) rfl q1 q2 q4 q5 (po_congr (po_below q3 (ba (Below.refl _ _) _)) (fun i hi => lst_get _ _ _ hi)) hown2 hg2 hat2))
          clear hown2 hg2 hat2 HM2 hR q3 q4 q5 NW hlow
          go_wp2_with fail
          exact ⟨R.out, ltn' hkN⟩
    · obtain rfl : k = N := by omega
      have hO := Lib.hid hM
      clear hM
      go_wp2_with fail
      go_ret
      exact ⟨_, _, _, rfl, hO.out⟩
end Go.Proofs.Ytjeiapgniflnaaa.Rs
