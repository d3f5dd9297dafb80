/-
  Layer 7 (raster): turned of the law.
-/
import Derived.Test.YtjeiapgniflnaaaRsT
import Derived.Test.YtjeiapgniflnaaaRsSm
namespace Go.Proofs.Ytjeiapgniflnaaa.Rs
open Go.RowKit
open Go.Proofs.Ytjeiapgniflnaaa.Ot
theorem own_row {V V' : World} {S : Nat} {T : TypeId} {sz : Nat} {v : Value} {k : Nat} {xs : List Value} {row : Option Nat} (h : V.ownsRow S T sz v k xs) (hG : V.grownBy V' row) (h2 : ∀ q, v.ownBlock = some q → row ≠ some q) : V'.ownsRow S T sz v k xs := by
  refine h.kept hG ?_
  rcases e : v.ownBlock with _ | q
  · exact .inl rfl
  · right
    intro h'
    exact h2 q e (by first | exact h' | exact h'.symm)
theorem mo_row {w V V' : World} {v : Value} {k : Nat} {xs : List Value} {ns B : Nat → Nat} {g : Nat → Nat → Pt} {row : Option Nat} (h : MO w V v k xs ns B g) (hG : V.grownBy V' row) (h1 : ∀ q, row = some q → w.heap.size ≤ q) (h2 : ∀ q, v.ownBlock = some q → row ≠ some q) (h3 : ∀ j, j < k → 0 < ns j → row ≠ some (B j)) : MO w V' v k xs ns B g :=
  ⟨own_row h.ow hG h2, h.li, fun j hj => po_row (h.pt j hj) hG (h3 j hj), h.far, h.own, gBo h.be hG h1⟩
def bkP (ns : Nat → Nat) (g : Nat → Nat → Pt) (k i : Nat) : Pt := g k (ns k - 1 - i)
def rtP (z : Int) (ns : Nat → Nat) (g : Nat → Nat → Pt) (k i : Nat) : Pt := g k ((i + (z % (ns k : Int)).toNat) % ns k)
/-- Two outlines that are made side by side. -/
def TuR (w : World) (N : Nat) (ns : Nat → Nat) (g g' : Nat → Nat → Pt) (s6 s7 s14 : Value) (V : World) : Prop :=
  ∃ (k : Nat) (xs xs' : List Value) (B B' : Nat → Nat), s14 = .int .i64 (k : Int) ∧ k ≤ N ∧ MO w V s6 k xs ns B g ∧ MO w V s7 k xs' ns B' g' ∧
    (∀ q, s6.ownBlock = some q → s7.ownBlock ≠ some q) ∧ (∀ j, j < k → 0 < ns j → s6.ownBlock ≠ some (B' j)) ∧ (∀ j, j < k → 0 < ns j → s7.ownBlock ≠ some (B j))
def TuI (V : World) (n : Nat) (f f' : Nat → Pt) (s9 s10 s22 : Value) (V' : World) : Prop :=
  ∃ i : Nat, s22 = .int .i64 (i : Int) ∧ i ≤ n ∧ V'.ownsRow V.heap.size 63 3 s9 i (vals (lst f i)) ∧ V'.ownsRow V.heap.size 63 3 s10 i (vals (lst f' i)) ∧ (∀ q, s9.ownBlock = some q → s10.ownBlock ≠ some q) ∧ Below V.heap.size V V'
theorem ix_back {n i : Nat} (h : i < n) (h2 : n ≤ 1000000) : ∃ j, n - 1 - i = j ∧ j < n ∧ (n : Int) - 1 - (i : Int) = (j : Int) := ⟨_, rfl, by omega, by omega⟩
theorem ix_rot {n i : Nat} (z : Int) (h : i < n) (h2 : n ≤ 1000000) : ∃ m j : Nat, z % (n : Int) = (m : Int) ∧ (z % (n : Int)).toNat = m ∧ m < n ∧ (i + m) % n = j ∧ j < n ∧ ((i : Int) + (m : Int)).tmod (n : Int) = (j : Int) := by
  have h0 : (n : Int) ≠ 0 := by omega
  have h3 := Int.emod_nonneg z h0
  have h4 := Int.emod_lt_of_pos z (show (0 : Int) < n by omega)
  obtain ⟨m, hm⟩ : ∃ m : Nat, z % (n : Int) = (m : Int) := ⟨(z % (n : Int)).toNat, by omega⟩
  refine ⟨m, (i + m) % n, hm, by omega, by omega, rfl, Nat.mod_lt _ (by omega), ?_⟩
  rw [Int.tmod_eq_emod_of_nonneg (by omega), Int.natCast_emod, Int.natCast_add]
theorem mo_app2 {w W W' : World} {v : Value} {k s cap : Nat} {xs : List Value} {ns B : Nat → Nat} {g : Nat → Nat → Pt} {a : Option Addr} {n c b : Nat} (h : MO w W v k xs ns B g)
    (hn : n = ns k) (hc : n ≤ c) (hc2 : c ≤ 9223372036854775807) (ha : 0 < n → a = some ⟨b, 0, none⟩) (hb1 : 0 < n → w.heap.size ≤ b) (hb2 : 0 < n → v.ownBlock ≠ some b) (hb3 : 0 < n → ∀ x, x < k → 0 < ns x → B x ≠ b) (hP : PO W b n (g k))
    (hown : W'.ownsRow w.heap.size 49 1 (.slice (some ⟨s, 0, none⟩) (k + 1) cap) (k + 1) (xs ++ [.slice a n c])) (hg : W.grownBy W' v.ownBlock) (hs : v.ownBlock = some s ∨ s = W.heap.size) :
    MO w W' (.slice (some ⟨s, 0, none⟩) (k + 1) cap) (k + 1) (xs ++ [.slice a n c]) ns (fun j => if j = k then b else B j) g := by
  subst hn
  have hlen : xs.length = k := by have := h.ow.1; omega
  have old : ∀ x, x < k → 0 < ns x → B x < W.heap.size := fun x hx h0 => block_lt_of_cell (h.pt x hx 0 h0).1.1
  have hrow : ∀ q, v.ownBlock = some q → w.heap.size ≤ q ∧ q < W.heap.size := fun q hq => h.ow.lt q hq
  have hw := h.be.size
  refine ⟨hown, fun j hj => ?_, fun j hj => ?_, fun j hj h0 => ?_, fun j l hj hl h0 h1 e => ?_, gBo h.be hg (fun q hq => (hrow q hq).1)⟩
  · by_cases e : j = k
    · subst e
      exact ⟨a, c, by rw [List.getElem?_append_right (by omega), hlen, Nat.sub_self]; rfl, hc, hc2, by simpa using ha⟩
    · obtain ⟨a', c', e1, h1, h2, h3⟩ := h.li j (by omega)
      exact ⟨a', c', by rw [List.getElem?_append_left (by omega)]; exact e1, h1, h2, by simpa only [if_neg e] using h3⟩
  · by_cases e : j = k
    · subst e
      simp only [if_true]
      exact po_row hP hg hb2
    · simp only [if_neg e]
      exact po_row (h.pt j (by omega)) hg (fun h0 => (h.far j (by omega) h0).2)
  · have hne : ∀ q, q < W.heap.size → v.ownBlock ≠ some q → (Value.slice (some ⟨s, 0, none⟩) (k + 1) cap).ownBlock ≠ some q := by
      intro q hq hq2 he
      have : s = q := by simpa [Value.ownBlock] using he
      subst this
      rcases hs with h1 | h1
      · exact hq2 h1
      · omega
    by_cases e : j = k
    · subst e
      simp only [if_true]
      exact ⟨hb1 h0, hne b (block_lt_of_cell (hP 0 h0).1.1) (hb2 h0)⟩
    · simp only [if_neg e]
      obtain ⟨f1, f2⟩ := h.far j (by omega) h0
      exact ⟨f1, hne _ (old j (by omega) h0) f2⟩
  · by_cases ej : j = k
    · by_cases el : l = k
      · omega
      · subst ej
        simp only [if_true, if_neg el] at e
        exact absurd e.symm (hb3 h0 l (by omega) h1)
    · by_cases el : l = k
      · subst el
        simp only [if_true, if_neg ej] at e
        exact absurd e (hb3 h1 j (by omega) h0)
      · simp only [if_neg ej, if_neg el] at e
        exact h.own j l (by omega) (by omega) h0 h1 e
theorem own_slice {s n c q : Nat} : (Value.slice (some ⟨s, 0, none⟩) n c).ownBlock = some q ↔ s = q := by simp [Value.ownBlock]
theorem tu_mid {w V V2 W2 : World} {v6 v7 : Value} {k : Nat} {xs' : List Value} {ns B' : Nat → Nat} {g' : Nat → Nat → Pt} (hM' : MO w V v7 k xs' ns B' g')
    (X1 : ∀ q, v6.ownBlock = some q → v7.ownBlock ≠ some q) (hB : Below V.heap.size V V2) (o1 o2 : Obj) (hg2 : (V2.alloc o1).grownBy W2 v6.ownBlock) :
    (W2.alloc o2).ownsRow w.heap.size 49 1 v7 k xs' :=
  (own_row (mo_below hM' (ba hB o1)).ow hg2 (fun q hq h6 => X1 q h6 hq)).alloc _
theorem tu_next {w V V2 W2 W4 : World} {v6 v7 : Value} {k N : Nat} {xs xs' : List Value} {ns B B' : Nat → Nat} {g g' : Nat → Nat → Pt} {ap ap' : Option Addr} {cp cp' bp bp' s s' cap cap' n : Nat}
    (hM : MO w V v6 k xs ns B g) (hM' : MO w V v7 k xs' ns B' g')
    (X1 : ∀ q, v6.ownBlock = some q → v7.ownBlock ≠ some q) (X2 : ∀ j, j < k → 0 < ns j → v6.ownBlock ≠ some (B' j)) (X3 : ∀ j, j < k → 0 < ns j → v7.ownBlock ≠ some (B j))
    (hB : Below V.heap.size V V2) (hn : n = ns k)
    (q1 : n ≤ cp) (q2 : cp ≤ 9223372036854775807) (q3 : PO V2 bp n (g k)) (q4 : 0 < n → ap = some ⟨bp, 0, none⟩) (q5 : 0 < n → V.heap.size ≤ bp)
    (r1 : n ≤ cp') (r2 : cp' ≤ 9223372036854775807) (r3 : PO V2 bp' n (g' k)) (r4 : 0 < n → ap' = some ⟨bp', 0, none⟩) (r5 : 0 < n → V.heap.size ≤ bp')
    (o1 o2 : Obj)
    (hown2 : W2.ownsRow w.heap.size 49 1 (.slice (some ⟨s, 0, none⟩) (k + 1) cap) (k + 1) (xs ++ [.slice ap n cp])) (hg2 : (V2.alloc o1).grownBy W2 v6.ownBlock) (hat2 : v6.ownBlock = some s ∨ s = (V2.alloc o1).heap.size) (hlt2 : s < W2.heap.size)
    (hown4 : W4.ownsRow w.heap.size 49 1 (.slice (some ⟨s', 0, none⟩) (k + 1) cap') (k + 1) (xs' ++ [.slice ap' n cp'])) (hg4 : (W2.alloc o2).grownBy W4 v7.ownBlock) (hat4 : v7.ownBlock = some s' ∨ s' = (W2.alloc o2).heap.size) (hk : k < N) :
    TuR w N ns g g' (.slice (some ⟨s, 0, none⟩) (k + 1) cap) (.slice (some ⟨s', 0, none⟩) (k + 1) cap') (.int .i64 ((k : Int) + 1)) W4 := by
  have hw := hM.be.size
  have l6 : ∀ q, v6.ownBlock = some q → w.heap.size ≤ q ∧ q < V.heap.size := fun q hq => hM.ow.lt q hq
  have l7 : ∀ q, v7.ownBlock = some q → w.heap.size ≤ q ∧ q < V.heap.size := fun q hq => hM'.ow.lt q hq
  have o6 : ∀ x, x < k → 0 < ns x → B x < V.heap.size := fun x hx h0 => block_lt_of_cell (hM.pt x hx 0 h0).1.1
  have o7 : ∀ x, x < k → 0 < ns x → B' x < V.heap.size := fun x hx h0 => block_lt_of_cell (hM'.pt x hx 0 h0).1.1
  have lp : 0 < n → bp < V2.heap.size := fun h0 => block_lt_of_cell (q3 0 h0).1.1
  have lp' : 0 < n → bp' < V2.heap.size := fun h0 => block_lt_of_cell (r3 0 h0).1.1
  have hV := hB.size
  have z1 : (V2.alloc o1).heap.size = V2.heap.size + 1 := World.size_alloc _ _
  have z2 : (W2.alloc o2).heap.size = W2.heap.size + 1 := World.size_alloc _ _
  have z3 := hg2.size
  have M1 := mo_app (W := V2.alloc o1) hM (ba hB o1) hn q1 q2 q4 q5 (po_below q3 (ba (Below.refl _ _) o1)) hown2 hg2 hat2
  have M2 := mo_row (mo_below hM' (ba hB o1)) hg2 (fun q hq => (l6 q hq).1) (fun q hq h6 => X1 q h6 hq) X2
  have P2 := po_row (po_below r3 (ba (Below.refl _ _) o1)) hg2 (fun h0 h6 => by have := (l6 _ h6).2; have := r5 h0; omega)
  have M3 := mo_app2 (mo_below M2 (ba (Below.refl _ _) o2)) hn r1 r2 r4 (fun h0 => by have := r5 h0; omega) (fun h0 h7 => by have := (l7 _ h7).2; have := r5 h0; omega) (fun h0 x hx hx0 e => by have := o7 x hx hx0; have := r5 h0; omega) (po_below P2 (ba (Below.refl _ _) o2)) hown4 hg4 hat4
  have hs : v6.ownBlock = some s ∨ V.heap.size < s := by
    rcases hat2 with h | h
    · exact .inl h
    · right; omega
  have M4 := mo_row (mo_below M1 (ba (Below.refl _ _) o2)) hg4 (fun q hq => (l7 q hq).1) (fun q hq h7 => by
    rw [own_slice] at hq
    subst hq
    rcases hs with h | h
    · exact X1 _ h h7
    · have := (l7 _ h7).2; omega) (fun j hj h0 h7 => by
    by_cases e : j = k
    · subst e
      simp only [if_true] at h7
      have := (l7 _ h7).2; have := q5 (by omega); omega
    · simp only [if_neg e] at h7
      exact X3 j (by omega) h0 h7)
  refine ⟨k + 1, _, _, _, _, rfl, hk, M4, M3, fun q hq h7 => ?_, fun j hj h0 h6 => ?_, fun j hj h0 h7 => ?_⟩
  · rw [own_slice] at hq h7
    subst hq h7
    rcases hat4 with h | h
    · rcases hs with h' | h'
      · exact X1 _ h' h
      · have := (l7 _ h).2; omega
    · omega
  · rw [own_slice] at h6
    by_cases e : j = k
    · subst e
      simp only [if_true] at h6
      have := lp' (by omega); have := r5 (by omega)
      rcases hat2 with h | h
      · have := (l6 _ h).2; omega
      · omega
    · simp only [if_neg e] at h6
      have := o7 j (by omega) h0
      rcases hat2 with h | h
      · exact X2 j (by omega) h0 (by rw [← h6]; exact h)
      · omega
  · rw [own_slice] at h7
    by_cases e : j = k
    · subst e
      simp only [if_true] at h7
      have := lp (by omega); have := q5 (by omega)
      rcases hat4 with h | h
      · have := (l7 _ h).2; omega
      · omega
    · simp only [if_neg e] at h7
      have := o6 j (by omega) h0
      rcases hat4 with h | h
      · exact X3 j (by omega) h0 (by rw [← h7]; exact h)
      · omega
theorem npos {i n : Nat} (h : i < n) : (1 : Int) ≤ (n : Int) := by omega
theorem nne {i n : Nat} (h : i < n) : ((n : Int) == 0) = false ∧ ¬ (n : Int) = 0 := ⟨beq_eq_false_iff_ne.2 (by omega), by omega⟩
theorem ixs {n i j m j' : Nat} (h : i < n) (h2 : n ≤ 1000000) (hj : j < n) (hm : m < n) (hj' : j' < n) (e : (n : Int) - 1 - (i : Int) = (j : Int)) :
    IntKind.i64.wrap ((n : Int) - 1) = (n : Int) - 1 ∧ IntKind.i64.wrap ((j : Int)) = (j : Int) ∧ IntKind.i64.wrap ((i : Int) + (m : Int)) = (i : Int) + (m : Int) ∧ IntKind.i64.wrap ((j' : Int)) = (j' : Int) :=
  ⟨IntWalk.i64_in _ (by omega), IntWalk.i64_in _ (by omega), IntWalk.i64_in _ (by omega), IntWalk.i64_in _ (by omega)⟩
theorem far_lt {q B S : Nat} (h1 : B ≤ q) (h2 : S < B) (e : q = S) : False := by omega
set_option maxRecDepth 100000 in
set_option maxHeartbeats 16000000 in
theorem turned_any (a : Option Addr) (N c : Nat) (ns : Nat → Nat) (g : Nat → Nat → Pt) (z : Int) (hz : R64 z) (hN : N ≤ 1000000) (hs : ∀ k, k < N → ns k ≤ 1000000) (w : World) (hA : OT w a N ns g) :
    Calls Try.prog 20 #[.slice a N c, .int .i64 z] w fun e w' => ∃ (a1 a2 : Option Addr) (c1 c2 : Nat), e = .returned (.tuple #[.slice a1 N c1, .slice a2 N c2]) ∧ OT w' a1 N ns (bkP ns g) ∧ OT w' a2 N ns (rtP z ns g) ∧ Below w.heap.size w w' := by
  have HA := Lib.hid hA
  obtain ⟨i0, ki1, ki2, ki3, ki4⟩ := info_parts infoS
  obtain ⟨i1, li1, li2, li3, li4⟩ := info_parts infoP
  have KI := Lib.hid (And.intro ki1 (And.intro ki2 (And.intro ki3 ki4)))
  have KJ := Lib.hid (And.intro li1 (And.intro li2 (And.intro li3 li4)))
  have HS := Lib.hid hs
  have HZ := Lib.hid hz
  clear hA ki1 ki2 ki3 ki4 li1 li2 li3 li4 hs hz
  go_enter Try.func20, Try.ntmps20
  go_wp2_with fail
  go_loopw [6, 7, 14] (fun s6 s7 s14 V => TuR w N ns (bkP ns g) (rtP z ns g) s6 s7 s14 V) (fun _ _ s14 _ => N - (intOf s14).toNat)
  case atStart => exact ⟨0, [], [], fun _ => 0, fun _ => 0, rfl, by omega, mo_nil w _ _, mo_nil w _ _, (fun q h => by cases h), fun j hj => absurd hj (by omega), fun j hj => absurd hj (by omega)⟩
  case round =>
    obtain ⟨k, xs, xs', B, B', rfl, hk, hM, hM', X1, X2, X3⟩ := hrel
    rename World => V
    rcases Nat.lt_or_ge k N with hkN | hkN
    · obtain ⟨b, off, a', c', rfl, hc, h1, h2, hp⟩ := ot_below HA.out hM.be k hkN
      have hbl : b < V.heap.size := block_lt_of_cell hc
      have hn6 := Lib.hid (HS.out k hkN)
      have HP := Lib.hid hp
      have k2 : (0 : Int) ≤ (k : Int) := by omega
      have k3 : (k : Int) < (N : Int) := by omega
      have hVs := hM.be.size
      have hlx := hM.ow.1
      have HM := Lib.hid hM
      have HM' := Lib.hid hM'
      have HX := Lib.hid (And.intro X1 (And.intro X2 X3))
      have CK : Hid (∀ W, Below V.heap.size V W → W.cell? ⟨b, off + k, none⟩ = some (.slice a' (ns k) c')) := Lib.hid (fun W h => kc h hc)
      obtain ⟨n, hn⟩ : ∃ n, ns k = n := ⟨_, rfl⟩
      have F1 : bkP ns g k = fun i => g k (n - 1 - i) := by funext i; unfold bkP; rw [hn]
      have F2 : rtP z ns g k = fun i => g k ((i + (z % (n : Int)).toNat) % n) := by funext i; unfold rtP; rw [hn]
      have FF := Lib.hid (And.intro F1 F2)
      rw [hn] at CK HP hn6 h1 hc
      have Hn := Lib.hid hn
      clear hp hM hM' hn X1 X2 X3 F1 F2
      go_wp2_with fail
      go_loopw [9, 10, 22] (fun s9 s10 s22 V' => TuI V n (bkP ns g k) (rtP z ns g k) s9 s10 s22 V') (fun _ _ s22 _ => n - (intOf s22).toNat)
      case atStart => exact ⟨0, rfl, by omega, by simpa [lst, vals] using World.ownsRow_nil _ _ _ _, by simpa [lst, vals] using World.ownsRow_nil _ _ _ _, (fun q h => by cases h), Below.refl _ _⟩
      case round =>
        clear hc
        obtain ⟨i, rfl, hi, hown, hown', hX, hB⟩ := hrel
        rename World => V2
        have hc := CK.out V2 hB
        have i2 := nat0 i
        rcases Nat.lt_or_ge i n with hin | hin
        · have i3 := natlt hin
          have hn7 := hn6.out
          obtain ⟨j, hj, hjn, ej⟩ := ix_back hin hn7
          obtain ⟨m, j', em, em2, hmn, hj', hjn', ej'⟩ := ix_rot z hin hn7
          have j2 := nat0 j
          have j3 := natlt hjn
          have j4 := nat0 j'
          have j5 := natlt hjn'
          have m2 := nat0 m
          have m3 := natlt hmn
          have n6 : (n : Int) ≤ 1000000 := by omega
          obtain ⟨n8, n7⟩ := nne hin
          obtain ⟨w1, w2, w3, w4⟩ := ixs hin hn7 hjn hmn hjn' ej
          obtain ⟨pb, po, e, x0, x1, x2⟩ := HP.out j hjn
          obtain ⟨pb', po', e', z0, z1, z2⟩ := HP.out j' hjn'
          rw [e] at e'
          cases e'
          have hpl : pb < V.heap.size := block_lt_of_cell x0
          replace x0 := kc hB x0
          replace x1 := kc hB x1
          replace x2 := kc hB x2
          replace z0 := kc hB z0
          replace z1 := kc hB z1
          replace z2 := kc hB z2
          subst e
          have MM : Hid (∀ W, Calls Try.prog 12 #[.int .i64 z, .int .i64 (n : Int)] W fun e w' => e = .returned (.int .i64 (m : Int)) ∧ w' = W) := Lib.hid (fun W => by rw [← em]; exact Ax.mod_any z n HZ.out ⟨npos hin, n6⟩ W)
          have hf1 : Hid (bkP ns g k i = g k j) := Lib.hid (by rw [FF.out.1]; show g k (n - 1 - i) = g k j; rw [hj])
          have hf2 : Hid (rtP z ns g k i = g k j') := Lib.hid (by rw [FF.out.2]; show g k ((i + (z % (n : Int)).toNat) % n) = g k j'; rw [em2, hj'])
          generalize g k j = P1 at *
          generalize g k j' = P2 at *
          obtain ⟨px, py, qo⟩ := P1
          obtain ⟨px', py', qo'⟩ := P2
          simp only at x0 x1 x2 z0 z1 z2
          clear hj em em2 hj'
          have hrow : Hid (∀ q, u9.ownBlock = some q → V.heap.size ≤ q) := Lib.hid (fun q hq => (hown.lt q hq).1)
          have hrow' : Hid (∀ q, u10.ownBlock = some q → V.heap.size ≤ q ∧ q < V2.heap.size) := Lib.hid (fun q hq => hown'.lt q hq)
          have HXX := Lib.hid hX
          have hV2 := hB.size
          have SX : ∀ w', V2.grownBy w' u9.ownBlock → w'.cell? ⟨b, off + k, none⟩ = some (.slice (some ⟨pb, po, none⟩) n c') := fun _ h => far h (fun e => by have := hrow.out _ e; omega) hc
          have S0 : ∀ w', V2.grownBy w' u9.ownBlock → w'.cell? ⟨pb, po + j * 3, none⟩ = some (.int .i64 px) := fun _ h => far h (fun e => by have := hrow.out _ e; omega) x0
          have S1 : ∀ w', V2.grownBy w' u9.ownBlock → w'.cell? ⟨pb, po + j * 3 + 1, none⟩ = some (.int .i64 py) := fun _ h => far h (fun e => by have := hrow.out _ e; omega) x1
          have S2 : ∀ w', V2.grownBy w' u9.ownBlock → w'.cell? ⟨pb, po + j * 3 + 2, none⟩ = some (.bool qo) := fun _ h => far h (fun e => by have := hrow.out _ e; omega) x2
          have HC := Lib.hid (And.intro hc (And.intro z0 (And.intro z1 z2)))
          obtain ⟨li1, li2, li3, li4⟩ := KJ.out
          obtain ⟨sm1, sm2⟩ := small3 hin hn7
          have hin0 := hin
          clear x0 x1 x2 z0 z1 z2 hX
          go_upto_region 9 with (fail)
          clear hc
          have NW : ∀ j u, (ptVs ⟨px, py, qo⟩)[j]? = some u → ((V2.alloc (.cells #[.int .i64 px, .int .i64 py, .bool qo] 63)).drew).cell? ((⟨V2.heap.size, 0, none⟩ : Addr).add j) = some u := news_pt V2 ⟨px, py, qo⟩ 63
          go_region_held_law (fun w' => V2.grownBy w' u9.ownBlock) (first
            | (with_reducible exact gd1 (grO _ _))
            | (with_reducible exact gaO (by assumption) _)
            | (with_reducible exact gd1 (gaO (grO _ _) _))
            | (with_reducible assumption)
            | (with_reducible exact World.grownBy.trans (by assumption) hgrow9))
            (first
            | (refine step_append_lies _ (by rfl) _ _ 49 (by rfl) V.heap.size 63 i1 _ 3 24 Try.underlying49 li1 li2 li3 li4 rfl (by decide) _ i _ (by rfl) ((own_drew hown).alloc _) ⟨V2.heap.size, 0, none⟩ 1 1 (ptVs ⟨px, py, qo⟩) (by rfl) rfl NW (by intro u hu; simp [ptVs] at hu; rcases hu with rfl | rfl | rfl <;> rfl) (by omega) sm1 sm2 (by simp; omega) _ rfl ?_; intro g9 cap9 w9 hown9 hgrow9 hat9 hlt9))
          have hG9 := World.grownBy.trans (gaO (gd1 (grO _ _)) _) hgrow9
          have hr9 := hrow.out
          have hb9 : Below V.heap.size V w9 := gBo hB hG9 hr9
          have hown10 := own_row hown' hG9 (fun q hq h9 => HXX.out q h9 hq)
          have hX9 : ∀ q, (Value.slice (some ⟨g9, 0, none⟩) (i + 1) cap9).ownBlock = some q → u10.ownBlock ≠ some q := fun q hq h10 => by
            have e9 : g9 = q := by simpa [Value.ownBlock] using hq
            subst e9
            rcases hat9 with h | h
            · exact HXX.out _ h h10
            · have := (hrow'.out _ h10).2
              exact absurd (h ▸ this) (by simp)
          have hown11 : w9.ownsRow V.heap.size 63 3 (.slice (some ⟨g9, 0, none⟩) (i + 1) cap9) (i + 1) (vals (lst (bkP ns g k) (i + 1))) := by
            rw [lst_next, vals_app, hf1.out]
            simpa [vals] using hown9
          have hrow2 : Hid (∀ q, u10.ownBlock = some q → V.heap.size ≤ q) := Lib.hid (fun q hq => (hrow'.out q hq).1)
          obtain ⟨c0, z0, z1, z2⟩ := HC.out
          have cc : ∀ {x : Nat} {o : Nat} {v : Value}, x < V.heap.size → V2.cell? ⟨x, o, none⟩ = some v → w9.cell? ⟨x, o, none⟩ = some v := fun hx h => far hG9 (fun e => by have := hr9 _ e; omega) h
          replace c0 := cc hbl c0
          replace z0 := cc hpl z0
          replace z1 := cc hpl z1
          replace z2 := cc hpl z2
          have OO9 := Lib.hid (And.intro hown11 hX9)
          clear hown9 hgrow9 hat9 hown hown' NW SX S0 S1 S2 hG9 hr9 cc hown11 hX9 HC
          go_upto_region 10 with (fail)
          have SX : ∀ w', w9.grownBy w' u10.ownBlock → w'.cell? ⟨b, off + k, none⟩ = some (.slice (some ⟨pb, po, none⟩) n c') := fun _ h => far h (fun e => by have := hrow2.out _ e; omega) c0
          have S0 : ∀ w', w9.grownBy w' u10.ownBlock → w'.cell? ⟨pb, po + j' * 3, none⟩ = some (.int .i64 px') := fun _ h => far h (fun e => by have := hrow2.out _ e; omega) z0
          have S1 : ∀ w', w9.grownBy w' u10.ownBlock → w'.cell? ⟨pb, po + j' * 3 + 1, none⟩ = some (.int .i64 py') := fun _ h => far h (fun e => by have := hrow2.out _ e; omega) z1
          have S2 : ∀ w', w9.grownBy w' u10.ownBlock → w'.cell? ⟨pb, po + j' * 3 + 2, none⟩ = some (.bool qo') := fun _ h => far h (fun e => by have := hrow2.out _ e; omega) z2
          clear c0 z0 z1 z2
          have NW : ∀ j u, (ptVs ⟨px', py', qo'⟩)[j]? = some u → ((w9.alloc (.cells #[.int .i64 px', .int .i64 py', .bool qo'] 63)).drew).cell? ((⟨w9.heap.size, 0, none⟩ : Addr).add j) = some u := news_pt w9 ⟨px', py', qo'⟩ 63
          have hw9 := hb9.size
          go_region_held_law (fun w' => w9.grownBy w' u10.ownBlock) (first
            | (with_reducible exact gd1 (grO _ _))
            | (with_reducible exact gaO (by assumption) _)
            | (with_reducible exact gd1 (gaO (grO _ _) _))
            | (with_reducible assumption)
            | (with_reducible exact World.grownBy.trans (by assumption) hgrow10))
            (first
            | ((with_reducible refine (MM.out _).mono ?_); rintro en wa ⟨rfl, rfl⟩)
            | (refine step_append_lies _ (by rfl) _ _ 49 (by rfl) V.heap.size 63 i1 _ 3 24 Try.underlying49 li1 li2 li3 li4 rfl (by decide) _ i _ (by rfl) ((own_drew hown10).alloc _) ⟨w9.heap.size, 0, none⟩ 1 1 (ptVs ⟨px', py', qo'⟩) (by rfl) rfl NW (by intro u hu; simp [ptVs] at hu; rcases hu with rfl | rfl | rfl <;> rfl) (by omega) sm1 sm2 (by simp; omega) _ rfl ?_; intro g10 cap10 w10 hown12 hgrow10 hat10 hlt10))
          have hG10 := World.grownBy.trans (gaO (gd1 (grO _ _)) _) hgrow10
          obtain ⟨hown11, hX9⟩ := OO9.out
          have hb10 := gBo hb9 hG10 hrow2.out
          have hown13 := own_row hown11 hG10 (fun q hq h9 => hX9 q hq h9)
          have hown14 : w10.ownsRow V.heap.size 63 3 (.slice (some ⟨g10, 0, none⟩) (i + 1) cap10) (i + 1) (vals (lst (rtP z ns g k) (i + 1))) := by
            rw [lst_next, vals_app, hf2.out]
            simpa [vals] using hown12
          have hlt := fun q hq => (hown11.lt q hq).2
          have hX10 : ∀ q, (Value.slice (some ⟨g9, 0, none⟩) (i + 1) cap9).ownBlock = some q → (Value.slice (some ⟨g10, 0, none⟩) (i + 1) cap10).ownBlock ≠ some q := fun q hq h10 => by
            have e10 : g10 = q := by simpa [Value.ownBlock] using h10
            subst e10
            rcases hat10 with h | h
            · exact hX9 _ hq h
            · have := hlt _ hq
              exact absurd (h ▸ this) (by simp)
          have R : Hid (TuI V n (bkP ns g k) (rtP z ns g k) (.slice (some ⟨g9, 0, none⟩) (i + 1) cap9) (.slice (some ⟨g10, 0, none⟩) (i + 1) cap10) (.int .i64 ((i : Int) + 1)) w10) := Lib.hid ⟨i + 1, rfl, hin, hown13, hown14, hX10, hb10⟩
          clear hown12 hgrow10 hat10 NW SX S0 S1 S2 hG10 hown13 hown14 hX10 hown10 hown11 hX9 w1 w2 w3 w4 ej ej'
          go_wp2_with fail
          exact ⟨R.out, ltn' hin0⟩
        · obtain rfl : i = n := by omega
          obtain ⟨ki1, ki2, ki3, ki4⟩ := KI.out
          obtain ⟨ap, cp, bp, rfl, q1, q2, q3, q4, q5⟩ := own_po (l := lst (bkP ns g k) i) (by rw [lst_len]; exact hown)
          obtain ⟨ap', cp', bp', rfl, r1, r2, r3, r4, r5⟩ := own_po (l := lst (rtP z ns g k) i) (by rw [lst_len]; exact hown')
          rw [lst_len] at q1 q3 q4 q5 r1 r3 r4 r5
          rw [lst_len, lst_len]
          replace q3 := po_congr q3 (fun x hx => lst_get _ _ _ hx)
          replace r3 := po_congr r3 (fun x hx => lst_get _ _ _ hx)
          have QR := Lib.hid (And.intro q1 (And.intro q2 (And.intro q3 (And.intro q4 (And.intro q5 (And.intro r1 (And.intro r2 (And.intro r3 (And.intro r4 r5)))))))))
          have NW := news_one V2 (.slice ap i cp) 49
          have hlow := (mo_below HM.out (ba hB (.cells #[.slice ap i cp] 49))).ow
          obtain ⟨sm1, sm2⟩ := small3 hkN hN
          have hsz2 : w.heap.size ≤ (V2.alloc (.cells #[.slice ap i cp] 49)).heap.size := by rw [World.size_alloc]; exact Nat.le_succ_of_le (Nat.le_trans hVs hB.size)
          have hkN0 := hkN
          have HB := Lib.hid hB
          have hsz := Nat.le_trans hVs hB.size
          clear hown hown' hX q1 q2 q3 q4 q5 r1 r2 r3 r4 r5 hB
          go_upto_region 13 with (at_builtin; refine wpList_append_lies _ rfl _ _ 23 rfl w.heap.size 49 i0 _ 1 24 Try.underlying23 ki1 ki2 ki3 ki4 rfl (by decide) _ k xs rfl hlow ⟨V2.heap.size, 0, none⟩ 1 1 [.slice ap i cp] rfl rfl NW (by intro u hu; simp at hu; subst hu; rfl) (Nat.succ_pos 0) sm1 sm2 hsz2 _ rfl ?_; intro s cap W2 hown2 hg2 hat2 hlt2)
          have hlow2 := tu_mid HM'.out HX.out.1 HB.out (.cells #[.slice ap i cp] 49) (.cells #[.slice ap' i cp'] 49) hg2
          have NW2 := news_one W2 (.slice ap' i cp') 49
          have hsz3 : w.heap.size ≤ (W2.alloc (.cells #[.slice ap' i cp'] 49)).heap.size := by rw [World.size_alloc]; exact Nat.le_succ_of_le (Nat.le_trans hsz2 hg2.size)
          have H2 := Lib.hid (And.intro hown2 (And.intro hg2 (And.intro hat2 hlt2)))
          clear NW hlow hown2 hg2 hat2 hlt2
          go_wp2_with (at_builtin; refine wpList_append_lies _ rfl _ _ 23 rfl w.heap.size 49 i0 _ 1 24 Try.underlying23 ki1 ki2 ki3 ki4 rfl (by decide) _ k xs' rfl hlow2 ⟨W2.heap.size, 0, none⟩ 1 1 [.slice ap' i cp'] rfl rfl NW2 (by intro u hu; simp at hu; subst hu; rfl) (Nat.succ_pos 0) sm1 sm2 hsz3 _ rfl ?_; intro s' cap' W4 hown4 hg4 hat4 hlt4)
          obtain ⟨q1, q2, q3, q4, q5, r1, r2, r3, r4, r5⟩ := QR.out
          have R := Lib.hid (tu_next (N := N) HM.out HM'.out HX.out.1 HX.out.2.1 HX.out.2.2 HB.out Hn.out.symm q1 q2 q3 q4 q5 r1 r2 r3 r4 r5 _ _ H2.out.1 H2.out.2.1 H2.out.2.2.1 H2.out.2.2.2 hown4 hg4 hat4 hkN0)
          clear hown4 hg4 hat4 hlow2 NW2 q1 q2 q3 q4 q5 r1 r2 r3 r4 r5
          go_wp2_with fail
          exact ⟨R.out, ltn' hkN0⟩
    · obtain rfl : k = N := by omega
      obtain ⟨a1, c1, S1, rfl, _, _, ha1, hO1, _⟩ := mo_oo hM
      obtain ⟨a2, c2, S2, rfl, _, _, ha2, hO2, _⟩ := mo_oo hM'
      have R := Lib.hid (And.intro (oo_ot2 hO1 ha1) (And.intro (oo_ot2 hO2 ha2) hM.be))
      clear hM hM' X1 X2 X3 hO1 hO2 ha1 ha2
      go_wp2_with fail
      refine bodyPost_ret (v := .tuple #[.slice a1 k c1, .slice a2 k c2]) (by simp [results, Try.results20, go_sem, *]) rfl ?_
      exact ⟨_, _, _, _, rfl, R.out.1, R.out.2.1, R.out.2.2⟩
end Go.Proofs.Ytjeiapgniflnaaa.Rs
