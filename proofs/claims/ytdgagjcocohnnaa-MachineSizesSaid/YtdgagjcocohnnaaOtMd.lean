/-
  Layer 6 (outline): Made of the document's own.
-/
import Derived.Test.YtdgagjcocohnnaaOtX
import Derived.Test.YtdgagjcocohnnaaAxOne
namespace Go.Proofs.Ytdgagjcocohnnaa.Ot
open Go.RowKit
open Go.Proofs.Ytdgagjcocohnnaa.Ax (LA DW MI mi_next mi_alloc mi_start mi_lt mi_app Next_w dw_below)
/-- Lists of numbers in memory. -/
def LX (w : World) (a : Option Addr) (N : Nat) (L : Nat → Nat) (l : Nat → Nat → Int) : Prop :=
  ∀ k, k < N → ∃ b off a' c', a = some ⟨b, off, none⟩ ∧ w.cell? ⟨b, off + k, none⟩ = some (.slice a' (L k) c') ∧ L k ≤ c' ∧ c' ≤ 9223372036854775807 ∧ LA w a' (L k) (l k) ∧ ∀ i, i < L k → R64 (l k i)
theorem lx_below {w W : World} {a : Option Addr} {N : Nat} {L : Nat → Nat} {l : Nat → Nat → Int} (h : LX w a N L l) (hB : Below w.heap.size w W) : LX W a N L l := fun k hk => by
  obtain ⟨b, off, a', c', e, hc, h1, h2, h3, h4⟩ := h k hk
  exact ⟨b, off, a', c', e, kc hB hc, h1, h2, Ax.la_below h3 hB, h4⟩
theorem mo_congr {w V : World} {v : Value} {k : Nat} {xs : List Value} {ns ns' B : Nat → Nat} {g g' : Nat → Nat → Pt} (h : MO w V v k xs ns B g) (e1 : ∀ j, j < k → ns j = ns' j) (e2 : ∀ j, j < k → ∀ i, i < ns j → g j i = g' j i) : MO w V v k xs ns' B g' :=
  ⟨h.ow, fun j hj => by rw [← e1 j hj]; exact h.li j hj, fun j hj => by rw [← e1 j hj]; exact po_congr (h.pt j hj) (e2 j hj), fun j hj h0 => h.far j hj (by rw [e1 j hj]; exact h0), fun j l hj hl h0 h1 => h.own j l hj hl (by rw [e1 j hj]; exact h0) (by rw [e1 l hl]; exact h1), h.be⟩
/-- What a made contour is like. -/
def okC (n : Nat) (f : Nat → Pt) : Prop := 3 ≤ n ∧ n ≤ 6 ∧ (f 0).o = true ∧ ∀ i, i < n → 0 ≤ (f i).x ∧ (f i).x ≤ 48 ∧ 0 ≤ (f i).y ∧ (f i).y ≤ 48
def okPs (P : List Pt) : Prop := ∀ i, i < P.length → (i = 0 → (P.getD i p0).o = true) ∧ 0 ≤ (P.getD i p0).x ∧ (P.getD i p0).x ≤ 48 ∧ 0 ≤ (P.getD i p0).y ∧ (P.getD i p0).y ≤ 48
theorem okPs_next {P : List Pt} (h : okPs P) {q : Pt} (hq : (P.length = 0 → q.o = true) ∧ 0 ≤ q.x ∧ q.x ≤ 48 ∧ 0 ≤ q.y ∧ q.y ≤ 48) : okPs (P ++ [q]) := by
  intro i hi
  rw [List.length_append] at hi
  simp only [List.length_cons, List.length_nil] at hi
  by_cases e : i = P.length
  · have : (P ++ [q]).getD i p0 = q := by
      rw [List.getD_eq_getElem?_getD, List.getElem?_append_right (by omega), e, Nat.sub_self]; rfl
    rw [this]
    exact ⟨fun h0 => hq.1 (by omega), hq.2⟩
  · have : (P ++ [q]).getD i p0 = P.getD i p0 := by
      rw [List.getD_eq_getElem?_getD, List.getElem?_append_left (by omega), ← List.getD_eq_getElem?_getD]
    rw [this]
    exact h i (by omega)
def MdRel (w : World) (m : Nat) (s3 s4 : Value) (V : World) : Prop := ∃ (k : Nat) (xs : List Value) (ns B : Nat → Nat) (g : Nat → Nat → Pt), s4 = .int .i64 (k : Int) ∧ k ≤ m ∧ MO w V s3 k xs ns B g ∧ ∀ j, j < k → okC (ns j) (g j)
def MjRel (V0 : World) (a : Option Addr) (L c : Nat) (l : Nat → Int) (n : Nat) (s6 s8 : Value) (V : World) : Prop := ∃ (i : Nat) (P : List Pt), s8 = .int .i64 (i : Int) ∧ i ≤ n ∧ P.length = i ∧ MI V0 V 53 3 a L c l s6 i (vals P) ∧ okPs P
theorem w6 {x : Int} (h : -1000000 ≤ x ∧ x ≤ 1000000) : wrap64 x = x := w_in ⟨by omega, by omega⟩
theorem add3 {v n : Nat} (h : (v : Int) < 4) (e : 3 + v = n) : wrap64 (3 + (v : Int)) = (n : Int) := by rw [w6 ⟨by omega, by omega⟩]; omega
theorem mul4 {v : Nat} (h : (v : Int) < 13) : wrap64 (4 * (v : Int)) = 4 * (v : Int) := w6 ⟨by omega, by omega⟩
theorem n36 {v n : Nat} (h : (v : Int) < 4) (e : 3 + v = n) : 3 ≤ n ∧ n ≤ 6 := by omega
theorem in48 {px py : Nat} (h1 : (px : Int) < 13) (h2 : (py : Int) < 13) : 0 ≤ 4 * (px : Int) ∧ 4 * (px : Int) ≤ 48 ∧ 0 ≤ 4 * (py : Int) ∧ 4 * (py : Int) ≤ 48 := by omega
theorem nat0 (i : Nat) : (0 : Int) ≤ (i : Int) := by omega
theorem natlt {i n : Nat} (h : i < n) : (i : Int) < (n : Int) := by omega
theorem small1 {i n : Nat} (h1 : i < n) (h2 : 3 ≤ n ∧ n ≤ 6) : i + 1 ≤ maxLen ∧ (i + 1) * 24 ≤ 140737488355328 := by unfold maxLen; omega
theorem small2 {k m N : Nat} (h : k < m) (h2 : min N 2 = m) : k + 1 ≤ maxLen ∧ (k + 1) * 24 ≤ 140737488355328 := by unfold maxLen; omega
theorem ltn {i n : Nat} (h : i < n) : n - (intOf (.int .i64 ((i : Int) + 1))).toNat < n - (intOf (.int .i64 (i : Int))).toNat := by simp [intOf]; omega
theorem beq0 {i : Nat} (h : 0 < i) : ((i : Int) == 0) = false := beq_eq_false_iff_ne.2 (by omega)
theorem okC_of {n : Nat} {P : List Pt} (h1 : 3 ≤ n ∧ n ≤ 6) (h2 : P.length = n) (h : okPs P) : okC n (fun i => P.getD i p0) :=
  ⟨h1.1, h1.2, (h 0 (by omega)).1 rfl, fun i hi => (h i (by omega)).2⟩
set_option maxRecDepth 100000 in
set_option maxHeartbeats 16000000 in
theorem Made_any (a : Option Addr) (N c : Nat) (L : Nat → Nat) (l : Nat → Nat → Int) (w : World) (hA : LX w a N L l) :
    Calls Try.prog 18 #[.slice a N c] w fun e w' => ∃ v xs ns B g, e = .returned v ∧ MO w w' v (min N 2) xs ns B g ∧ ∀ j, j < min N 2 → okC (ns j) (g j) := by
  have HA := Lib.hid hA
  obtain ⟨i0, ki1, ki2, ki3, ki4⟩ := info_parts infoS
  obtain ⟨i1, li1, li2, li3, li4⟩ := info_parts infoP
  have KI := Lib.hid (And.intro ki1 (And.intro ki2 (And.intro ki3 ki4)))
  have KJ := Lib.hid (And.intro li1 (And.intro li2 (And.intro li3 li4)))
  clear hA ki1 ki2 ki3 ki4 li1 li2 li3 li4
  obtain ⟨m, hm⟩ : ∃ m, min N 2 = m := ⟨_, rfl⟩
  rw [hm]
  have Hm := Lib.hid hm
  clear hm
  go_enter Try.func18, Try.ntmps18
  go_wp2_with fail
  go_loopw [3, 4] (fun s3 s4 V => MdRel w m s3 s4 V) (fun _ s4 _ => m - (intOf s4).toNat)
  case atStart => exact ⟨0, [], fun _ => 0, fun _ => 0, fun _ _ => p0, rfl, by omega, mo_nil w _ _, fun j hj => absurd hj (by omega)⟩
  case round =>
    obtain ⟨k, xs, ns, B, g, rfl, hk, hM, hok⟩ := hrel
    rename World => V
    rcases Nat.lt_or_ge k m with hkm | hkm
    · have hkN : k < N ∧ k < 2 := by
        have := Hm.out
        omega
      obtain ⟨b, off, a', c', rfl, hc, h1, h2, hp, hr⟩ := lx_below HA.out hM.be k hkN.1
      have hne : ∀ q, a' = some q → 0 < L k → q.block ≠ V.heap.size := by
        intro q hq h0
        obtain ⟨b, o, e, hc⟩ := hp 0 h0
        rw [hq] at e
        cases e
        have := block_lt_of_cell hc
        simp only at this ⊢
        omega
      have NX : Hid (∀ (n : Int), 1 ≤ n → n ≤ 1000000 → ∀ V', DW V' V.heap.size a' (L k) c' (l k) → _) := Lib.hid (fun n h3 h4 V' h => Next_w V.heap.size a' (L k) c' (l k) n ⟨h3, h4⟩ (by omega) hr hne V' h)
      have N4 := Lib.hid (NX.out 4 (by omega) (by omega))
      have N13 := Lib.hid (NX.out 13 (by omega) (by omega))
      have N3 := Lib.hid (NX.out 3 (by omega) (by omega))
      have HP := Lib.hid hp
      have k2 : (0 : Int) ≤ (k : Int) := by omega
      have k3 : (k : Int) < (N : Int) := by omega
      have k4 : (k : Int) < 2 := by omega
      have hMI := mi_start V 53 3 a' (L k) c' (l k) hp 80
      have hVs := hM.be.size
      have HM := Lib.hid hM
      have HOK := Lib.hid hok
      have hlx := hM.ow.1
      clear NX hp hr hne hM hok
      go_wp2_with fail
      refine (N4.out _ hMI.dw).mono ?_
      rintro e V1 ⟨v4, rfl, hv4, hd, hg⟩
      replace hMI := mi_next hMI hd hg
      clear hd hg
      obtain ⟨n, hn⟩ : ∃ n, 3 + v4 = n := ⟨_, rfl⟩
      have e1 : wrap64 (3 + (v4 : Int)) = (n : Int) := add3 hv4 hn
      have hn6 : Hid (3 ≤ n ∧ n ≤ 6) := Lib.hid (n36 hv4 hn)
      clear hn hv4 hkN
      go_wp2_with fail
      rw [e1]
      go_loopw [6, 8] (fun s6 s8 V' => MjRel V a' (L k) c' (l k) n s6 s8 V') (fun _ s8 _ => n - (intOf s8).toNat)
      case atStart => exact ⟨0, [], rfl, by omega, rfl, hMI, fun i hi => absurd hi (by simp)⟩
      case round =>
        clear hMI
        obtain ⟨i, P, rfl, hi, hPl, hMI, hP⟩ := hrel
        rename World => V2
        rcases Nat.lt_or_ge i n with hin | hin
        · obtain ⟨li1, li2, li3, li4⟩ := KJ.out
          have hin0 := hin
          have i2 := nat0 i
          have i3 := natlt hin
          have hP' := Lib.hid hP
          clear hP
          go_wp2_with fail
          refine (N13.out _ hMI.dw).mono ?_
          rintro e V3 ⟨px, rfl, hpx, hd, hg⟩
          replace hMI := mi_next hMI hd hg
          clear hd hg
          have e2 := mul4 hpx
          go_wp2_with fail
          refine (N13.out _ hMI.dw).mono ?_
          rintro e V4 ⟨py, rfl, hpy, hd, hg⟩
          replace hMI := mi_next hMI hd hg
          clear hd hg
          have e3 := mul4 hpy
          have hR : Hid (∀ (q : Pt) (v' : Value) (V' : World) (xs' : List Value), xs' = vals P ++ ptVs q → (P.length = 0 → q.o = true) ∧ 0 ≤ q.x ∧ q.x ≤ 48 ∧ 0 ≤ q.y ∧ q.y ≤ 48 → MI V V' 53 3 a' (L k) c' (l k) v' (i + 1) xs' → MjRel V a' (L k) c' (l k) n v' (.int .i64 ((i : Int) + 1)) V') :=
            Lib.hid (fun q v' V' xs' h3 h4 h5 => ⟨i + 1, P ++ [q], rfl, hin, by rw [List.length_append, hPl]; rfl, by rw [vals_app]; rw [h3] at h5; simpa [vals] using h5, okPs_next hP'.out h4⟩)
          rcases Nat.eq_zero_or_pos i with hi0 | hi0
          · subst hi0
            obtain ⟨qo, hqo⟩ : ∃ qo : Bool, true = qo := ⟨_, rfl⟩
            have hR1 := Lib.hid (hR.out ⟨4 * (px : Int), 4 * (py : Int), qo⟩)
            have NW := news_pt V4 ⟨4 * (px : Int), 4 * (py : Int), qo⟩ 53
            have hM2 := mi_alloc hMI (.cells #[.int .i64 (4 * (px : Int)), .int .i64 (4 * (py : Int)), .bool qo] 53)
            have hlt := mi_lt hMI
            have hlt2 : V.heap.size + 1 ≤ (V4.alloc (.cells #[.int .i64 (4 * (px : Int)), .int .i64 (4 * (py : Int)), .bool qo] 53)).heap.size := by rw [World.size_alloc]; exact Nat.le_succ_of_le hlt
            obtain ⟨sm1, sm2⟩ := small1 hin hn6.out
            subst hqo
            clear hR hMI hlt e1 e2 e3 i2 i3 hin
            go_wp2_with (at_builtin; refine wpList_append_lies _ rfl _ _ 32 rfl (V.heap.size + 1) 53 i1 _ 3 24 Try.underlying32 li1 li2 li3 li4 rfl (by decide) _ 0 _ rfl hM2.ow ⟨V4.heap.size, 0, none⟩ 1 1 _ rfl rfl NW (by intro u hu; simp [ptVs] at hu; rcases hu with rfl | rfl | rfl <;> rfl) (Nat.succ_pos 0) sm1 sm2 hlt2 _ rfl ?_; intro g' cap' w9 hown9 hgrow9 hat9 hlt9)
            have R := Lib.hid (hR1.out _ _ _ rfl ⟨fun h0 => by first | rfl | trivial, in48 hpx hpy⟩ (mi_app hM2 HP.out hown9 hgrow9))
            clear hR1 hown9 hgrow9 hat9 NW hM2 sm1 sm2
            go_wp2_with fail
            exact ⟨R.out, ltn hin0⟩
          · have hi1 := hi0
            have q0 := beq0 hi0
            clear hi0
            go_wp2_with fail
            refine (N3.out _ hMI.dw).mono ?_
            rintro e V5 ⟨pv, rfl, hpv, hd, hg⟩
            replace hMI := mi_next hMI hd hg
            clear hd hg hpv
            obtain ⟨qo, hqo⟩ : ∃ qo : Bool, decide (0 < pv) = qo := ⟨_, rfl⟩
            have hR1 := Lib.hid (hR.out ⟨4 * (px : Int), 4 * (py : Int), qo⟩)
            have NW := news_pt V5 ⟨4 * (px : Int), 4 * (py : Int), qo⟩ 53
            have hM2 := mi_alloc hMI (.cells #[.int .i64 (4 * (px : Int)), .int .i64 (4 * (py : Int)), .bool qo] 53)
            have hlt := mi_lt hMI
            have hlt2 : V.heap.size + 1 ≤ (V5.alloc (.cells #[.int .i64 (4 * (px : Int)), .int .i64 (4 * (py : Int)), .bool qo] 53)).heap.size := by rw [World.size_alloc]; exact Nat.le_succ_of_le hlt
            obtain ⟨sm1, sm2⟩ := small1 hin hn6.out
            skip
            clear hR hMI hlt e1 e2 e3 i2 i3 hin
            go_wp2_with (at_builtin; refine wpList_append_lies _ rfl _ _ 32 rfl (V.heap.size + 1) 53 i1 _ 3 24 Try.underlying32 li1 li2 li3 li4 rfl (by decide) _ i _ rfl hM2.ow ⟨V5.heap.size, 0, none⟩ 1 1 _ rfl rfl NW (by intro u hu; simp [ptVs] at hu; rcases hu with rfl | rfl | rfl <;> rfl) (Nat.succ_pos 0) sm1 sm2 hlt2 _ rfl ?_; intro g' cap' w9 hown9 hgrow9 hat9 hlt9)
            have R := Lib.hid (hR1.out _ _ _ rfl ⟨fun h0 => absurd (hPl.symm.trans h0) (Nat.ne_of_gt hi1), in48 hpx hpy⟩ (mi_app hM2 HP.out hown9 hgrow9))
            clear hR1 hown9 hgrow9 hat9 NW hM2 sm1 sm2
            go_wp2_with fail
            exact ⟨R.out, ltn hin0⟩
        · obtain rfl : i = n := by omega
          obtain ⟨ki1, ki2, ki3, ki4⟩ := KI.out
          have hown6 : V2.ownsRow (V.heap.size + 1) 53 3 u6 P.length (vals P) := by rw [hPl]; exact hMI.ow
          obtain ⟨ap, cp, bp, rfl, q1, q2, q3, q4, q5⟩ := own_po hown6
          rw [hPl] at q1 q3 q4 q5
          have hB2 := hMI.be
          have hok2 := okC_of hn6.out hPl hP
          have hR : Hid (∀ v' V' xs' B' ns' g', MO w V' v' (k + 1) xs' ns' B' g' → (∀ j, j < k + 1 → okC (ns' j) (g' j)) → MdRel w m v' (.int .i64 ((k : Int) + 1)) V') := Lib.hid (fun v' V' xs' B' ns' g' h3 h4 => ⟨k + 1, xs', ns', B', g', rfl, hkm, h3, h4⟩)
          have HM2 := Lib.hid (mo_congr (ns' := fun j => if j = k then i else ns j) (g' := fun j => if j = k then (fun x => P.getD x p0) else g j) HM.out (fun j hj => (if_neg (Nat.ne_of_lt hj)).symm) (fun j hj x _ => by simp only [if_neg (Nat.ne_of_lt hj)]))
          have NW := news_one V2 (.slice ap i cp) 32
          have hlow := (mo_below HM.out (ba hB2 (.cells #[.slice ap i cp] 32))).ow
          obtain ⟨sm1, sm2⟩ := small2 hkm Hm.out
          have hsz2 : w.heap.size ≤ (V2.alloc (.cells #[.slice ap i cp] 32)).heap.size := by rw [World.size_alloc]; exact Nat.le_succ_of_le (Nat.le_trans hVs hB2.size)
          have HP2 := Lib.hid hP
          rw [hPl]
          clear hMI hown6 hP hPl
          go_wp2_with (at_builtin; refine wpList_append_lies _ rfl _ _ 28 rfl w.heap.size 32 i0 _ 1 24 Try.underlying28 ki1 ki2 ki3 ki4 rfl (by decide) _ k xs rfl hlow ⟨V2.heap.size, 0, none⟩ 1 1 [.slice ap i cp] rfl rfl NW (by intro u hu; simp at hu; subst hu; rfl) (Nat.succ_pos 0) sm1 sm2 hsz2 _ rfl ?_; intro s cap W2 hown2 hg2 hat2 hlt2)
          have R := Lib.hid (hR.out _ _ _ _ _ _ (mo_app (n := i) (b := bp) HM2.out (ba hB2 _) (if_pos rfl).symm q1 q2 q4 (fun h0 => Nat.le_of_succ_le (q5 h0)) (by simp only [if_true]; exact po_below q3 (ba (Below.refl _ _) _)) hown2 hg2 hat2) (fun j hj => by
            by_cases e : j = k
            · subst e
              simp only [if_true]
              exact hok2
            · simp only [if_neg e]
              exact HOK.out j (by omega)))
          clear hown2 hg2 hat2 HM2 hR q3 q4 q5 NW hlow hok2
          go_wp2_with fail
          exact ⟨R.out, ltn hkm⟩
    · obtain rfl : k = m := by omega
      have hO := Lib.hid hM
      have hO2 := Lib.hid hok
      clear hM hok
      have hmm := Hm.out
      rcases Nat.lt_or_ge N 2 with h2 | h2
      · obtain rfl : k = N := by omega
        clear hmm
        go_wp2_with fail
        go_ret
        exact ⟨_, _, _, _, _, rfl, hO.out, hO2.out⟩
      · obtain rfl : k = 2 := by omega
        clear hmm Hm
        rcases Nat.eq_or_lt_of_le h2 with h11 | h11
        · subst h11
          go_wp2_with fail
          go_ret
          exact ⟨_, _, _, _, _, rfl, hO.out, hO2.out⟩
        · have k5 : (2 : Int) < (N : Int) := by omega
          go_wp2_with fail
          go_ret
          exact ⟨_, _, _, _, _, rfl, hO.out, hO2.out⟩
end Go.Proofs.Ytdgagjcocohnnaa.Ot
