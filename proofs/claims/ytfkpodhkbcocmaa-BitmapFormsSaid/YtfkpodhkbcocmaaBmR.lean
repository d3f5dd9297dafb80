/-
  Layer 4 (bitmap): Made of the document's own: what it makes.
-/
import Derived.Test.YtfkpodhkbcocmaaBmQ
namespace Go.Proofs.Ytfkpodhkbcocmaa.Bm
open Go.RowKit
/-- A column of a rectangle. -/
def fj (W i y : Nat) (on : Bool) (g : Nat → Bool) : Nat → Nat → Bool
  | 0 => g
  | m + 1 => fun t => if t = (y + m) * W + i then on else fj W i y on g m t
/-- Columns of a rectangle. -/
def fi (W x y nj : Nat) (on : Bool) (g : Nat → Bool) : Nat → Nat → Bool
  | 0 => g
  | m + 1 => fj W (x + m) y on (fi W x y nj on g m) nj
def cnt (lim y q : Nat) : Nat := min (lim - y) (q + 1)
def mstep (L : Nat) (l : Nat → Int) (W H : Nat) (s : Nat × (Nat → Bool)) : Nat × (Nat → Bool) :=
  if s.1 < L ∧ 0 < W * H then
    (nxA L (nxA L (nxA L (nxA L s.1))),
      fi W (nxV L l s.1 W).toNat (nxV L l (nxA L s.1) H).toNat (cnt H (nxV L l (nxA L s.1) H).toNat ((nxV L l (nxA L (nxA L s.1)) 16).toNat / 4)) (decide (0 < nxV L l (nxA L (nxA L (nxA L s.1))) 4)) s.2
        (cnt W (nxV L l s.1 W).toNat ((nxV L l (nxA L (nxA L s.1)) 16).toNat % 4)))
  else s
def mst (L : Nat) (l : Nat → Int) (W H : Nat) (k0 : Nat) : Nat → Nat × (Nat → Bool)
  | 0 => (k0, fun _ => false)
  | k + 1 => mstep L l W H (mst L l W H k0 k)
theorem mstep_yes {L : Nat} {l : Nat → Int} {W H : Nat} {s : Nat × (Nat → Bool)} (h1 : s.1 < L) (h2 : 0 < W * H) {x y sz : Nat} {k1 k2 k3 k4 : Nat} (e1 : nxA L s.1 = k1) (e2 : nxA L k1 = k2) (e3 : nxA L k2 = k3) (e4 : nxA L k3 = k4)
    (hx : nxV L l s.1 W = x) (hy : nxV L l k1 H = y) (hs : nxV L l k2 16 = sz) {on : Bool} (ho : decide (0 < nxV L l k3 4) = on) : mstep L l W H s = (k4, fi W x y (cnt H y (sz / 4)) on s.2 (cnt W x (sz % 4))) := by
  subst e1 e2 e3 e4 ho
  unfold mstep
  rw [if_pos ⟨h1, h2⟩, hx, hy, hs]
  rfl
theorem mst_stop {L : Nat} {l : Nat → Int} {W H k0 k : Nat} (h : ¬ ((mst L l W H k0 k).1 < L ∧ 0 < W * H)) : ∀ m, mst L l W H k0 (k + m) = mst L l W H k0 k
  | 0 => rfl
  | m + 1 => by
    rw [Nat.add_succ, mst, mst_stop h m]
    unfold mstep
    rw [if_neg h]
theorem mst_end {L : Nat} {l : Nat → Int} {W H k0 k : Nat} (hk : k ≤ 12) (h : k < 12 → ¬ ((mst L l W H k0 k).1 < L ∧ 0 < W * H)) : mst L l W H k0 12 = mst L l W H k0 k := by
  rcases Nat.lt_or_ge k 12 with h1 | h1
  · have := mst_stop (h h1) (12 - k)
    rw [show k + (12 - k) = 12 by omega] at this
    exact this
  · rw [show k = 12 by omega]
theorem nxA4_le {L k : Nat} (h : k ≤ L) : nxA L (nxA L (nxA L (nxA L k))) ≤ L := nxA_le (nxA_le (nxA_le (nxA_le h)))
theorem mst_le {L : Nat} {l : Nat → Int} {W H k0 : Nat} (h : k0 ≤ L) : ∀ k, (mst L l W H k0 k).1 ≤ L
  | 0 => h
  | k + 1 => by
    rw [mst]
    have ih := mst_le (l := l) (W := W) (H := H) h k
    unfold mstep
    split
    · exact nxA4_le ih
    · exact ih
/-- The size, and the dots, of what is made. -/
def mdW (L : Nat) (l : Nat → Int) : Nat := (nxV L l 0 17).toNat
def mdH (L : Nat) (l : Nat → Int) : Nat := (nxV L l (nxA L 0) 13).toNat
def mdF (L : Nat) (l : Nat → Int) : Nat → Bool := (mst L l (mdW L l) (mdH L l) (nxA L (nxA L 0)) 12).2
/-- The result's place. -/
def RZ (V : World) (R : Nat) : Prop :=
  (V.cell? ⟨R, 0, none⟩ = some (.int .i64 0) ∧ V.cell? ⟨R, 1, none⟩ = some (.int .i64 0) ∧ V.cell? ⟨R, 2, none⟩ = some (.slice none 0 0)) ∧
  (V.frozen? ⟨R, 0, none⟩ = false ∧ V.frozen? ⟨R, 1, none⟩ = false ∧ V.frozen? ⟨R, 2, none⟩ = false)
theorem rz_below {V V' : World} {R : Nat} (h : RZ V R) (hB : Below V.heap.size V V') : RZ V' R := ⟨k3 hB h.1, kf3 hB h.1 h.2⟩
theorem rz_fr {V V' : World} {R : Nat} {ta : Option Addr} (h : RZ V R) (hF : FR V V' ta) (hne : ∀ q, ta = some q → R ≠ q.block) : RZ V' R := by
  obtain ⟨⟨a, b, c⟩, d, e, f⟩ := h
  exact ⟨⟨(hF.cell a hne).1, (hF.cell b hne).1, (hF.cell c hne).1⟩, (hF.cell a hne).2.trans d, (hF.cell b hne).2.trans e, (hF.cell c hne).2.trans f⟩
/-- The memory of Made. -/
structure MW (w V : World) (Bo b : Nat) (a : Option Addr) (L c k : Nat) (W H n : Nat) (f : Nat → Bool) : Prop where
  ds : DS V (w.heap.size + 1) a L c k
  bx : BoxAt V Bo W H (some ⟨b, 0, none⟩) n n
  ob : OB V b n f
  rz : RZ V w.heap.size
  be : Below w.heap.size w V
  lb : w.heap.size + 1 < b
  lo : b < Bo
theorem ob_fr {V V' : World} {b n : Nat} {f : Nat → Bool} {ta : Option Addr} (h : OB V b n f) (hF : FR V V' ta) (hne : ∀ q, ta = some q → b ≠ q.block) : OB V' b n f := fun i hi =>
  ⟨(hF.cell (h i hi).1 hne).1, (hF.cell (h i hi).1 hne).2.trans (h i hi).2⟩
theorem boxat_fr {V V' : World} {B : Nat} {W H : Int} {a : Option Addr} {m c : Nat} {ta : Option Addr} (h : BoxAt V B W H a m c) (hF : FR V V' ta) (hne : ∀ q, ta = some q → B ≠ q.block) : BoxAt V' B W H a m c :=
  ⟨(hF.cell h.1 hne).1, (hF.cell h.2.1 hne).1, (hF.cell h.2.2 hne).1⟩
theorem mw_next {w V V' : World} {Bo b : Nat} {a : Option Addr} {L c k k' W H n : Nat} {f : Nat → Bool} (h : MW w V Bo b a L c k W H n f) (hd : DS V' (w.heap.size + 1) a L c k') (hF : FR V V' (some ⟨w.heap.size + 1, 0, none⟩)) : MW w V' Bo b a L c k' W H n f := by
  obtain ⟨h1, h2, h3, h4, h5, h6, h7⟩ := h
  refine ⟨hd, boxat_fr h2 hF (fun q e => by cases e; simp only; omega), ob_fr h3 hF (fun q e => by cases e; simp only; omega), rz_fr h4 hF (fun q e => by cases e; simp only; omega), ?_, h6, h7⟩
  exact h5.trans (hF.to_below h5.size (fun q e => by cases e; simp only; omega))
theorem mw_set {w V : World} {Bo b : Nat} {a : Option Addr} {L c k W H n : Nat} {f g : Nat → Bool} {p : Nat} {v : Bool} (h : MW w V Bo b a L c k W H n f) (hp : p < n) (e : ∀ t, g t = if t = p then v else f t) : MW w (V.setCell ⟨b, p, none⟩ (.bool v)) Bo b a L c k W H n g := by
  obtain ⟨⟨d0, d1, d2⟩, ⟨x0, x1, x2⟩, h3, ⟨⟨r0, r1, r2⟩, r3, r4, r5⟩, h5, h6, h7⟩ := h
  have n1 : ¬ b = w.heap.size := by omega
  have n2 : ¬ b = w.heap.size + 1 := by omega
  have n3 : ¬ b = Bo := by omega
  exact ⟨⟨by go_cell, by go_cell, by go_cell⟩, ⟨by go_cell, by go_cell, by go_cell⟩, ob_set h3 hp e, ⟨⟨by go_cell, by go_cell, by go_cell⟩, by go_cell, by go_cell, by go_cell⟩, bs h5 (by simp only; omega) _, h6, h7⟩
theorem mul_in {W H n i j : Nat} (hn : n = W * H) (hW : W ≤ 96) (hH : H ≤ 96) (hi : i < W) (hj : j < H) : RowKit.wrap64 ((j : Int) * W) = (j * W : Nat) ∧ RowKit.wrap64 (((j * W : Nat) : Int) + i) = (j * W + i : Nat) ∧ j * W + i < n ∧ n ≤ 9216 := by
  have h1 : (j + 1) * W ≤ H * W := Nat.mul_le_mul_right _ (by omega)
  rw [Nat.succ_mul, Nat.mul_comm H W, ← hn] at h1
  have h2 : n ≤ 96 * 96 := by rw [hn]; exact Nat.mul_le_mul hW hH
  refine ⟨?_, ?_, by omega, by omega⟩
  · rw [← Int.natCast_mul]; exact wrap_id ⟨by omega, by omega⟩
  · rw [← Int.natCast_add]; exact wrap_id ⟨by omega, by omega⟩
theorem fj_at {W i y : Nat} {on : Bool} {g : Nat → Bool} {j : Nat} (h : y ≤ j) (t : Nat) : fj W i y on g (j + 1 - y) t = if t = j * W + i then on else fj W i y on g (j - y) t := by
  rw [show j + 1 - y = (j - y) + 1 by omega, fj, show y + (j - y) = j by omega]
theorem fi_at {W x y nj : Nat} {on : Bool} {g : Nat → Bool} {i : Nat} (h : x ≤ i) : fi W x y nj on g (i + 1 - x) = fj W i y on (fi W x y nj on g (i - x)) nj := by
  rw [show i + 1 - x = (i - x) + 1 by omega, fi, show x + (i - x) = i by omega]
def ORel (w : World) (Bo b : Nat) (a : Option Addr) (L c : Nat) (l : Nat → Int) (W H n k0 : Nat) (s6 : Value) (V : World) : Prop :=
  ∃ k : Nat, k ≤ 12 ∧ s6 = .int .i64 k ∧ MW w V Bo b a L c (mst L l W H k0 k).1 W H n (mst L l W H k0 k).2
def IRel (w : World) (Bo b : Nat) (a : Option Addr) (L c k4 W H n x y nj ni : Nat) (on : Bool) (g : Nat → Bool) (s11 : Value) (V : World) : Prop :=
  ∃ i : Nat, x ≤ i ∧ i ≤ x + ni ∧ s11 = .int .i64 i ∧ MW w V Bo b a L c k4 W H n (fi W x y nj on g (i - x))
def JRel (w : World) (Bo b : Nat) (a : Option Addr) (L c k4 W H n i y nj : Nat) (on : Bool) (g : Nat → Bool) (s12 : Value) (V : World) : Prop :=
  ∃ j : Nat, y ≤ j ∧ j ≤ y + nj ∧ s12 = .int .i64 j ∧ MW w V Bo b a L c k4 W H n (fj W i y on g (j - y))
theorem jrel_next {w Vj : World} {Bo b : Nat} {a : Option Addr} {L c k4 W H n i y nj : Nat} {on : Bool} {g : Nat → Bool} {j p : Nat} (M : MW w Vj Bo b a L c k4 W H n (fj W i y on g (j - y))) (hyj : y ≤ j) (hj : j < y + nj) (hp : p < n) (hpp : j * W + i = p) :
    JRel w Bo b a L c k4 W H n i y nj on g (.int .i64 ((j : Int) + 1)) (Vj.setCell ⟨b, p, none⟩ (.bool on)) :=
  ⟨j + 1, by omega, by omega, by congr 1, mw_set M hp (fun t => by rw [fj_at hyj, hpp])⟩
theorem irel_next {w Vj : World} {Bo b : Nat} {a : Option Addr} {L c k4 W H n x y nj ni : Nat} {on : Bool} {g : Nat → Bool} {i j : Nat} (M : MW w Vj Bo b a L c k4 W H n (fj W i y on (fi W x y nj on g (i - x)) (j - y))) (hxi : x ≤ i) (hi : i < x + ni) (hjj : j = y + nj) :
    IRel w Bo b a L c k4 W H n x y nj ni on g (.int .i64 ((i : Int) + 1)) Vj :=
  ⟨i + 1, by omega, by omega, by congr 1, by
    rw [fi_at hxi]
    rw [show j - y = nj by omega] at M
    exact M⟩
theorem orel_next {w Vi : World} {Bo b : Nat} {a : Option Addr} {L c : Nat} {l : Nat → Int} {W H n k0 k k6 x y nj ni : Nat} {on : Bool} {g : Nat → Bool} {i : Nat} (M : MW w Vi Bo b a L c k6 W H n (fi W x y nj on g (i - x))) (hii : i = x + ni) (hk : k < 12) (SE : mst L l W H k0 (k + 1) = (k6, fi W x y nj on g ni)) :
    ORel w Bo b a L c l W H n k0 (.int .i64 ((k : Int) + 1)) Vi :=
  ⟨k + 1, by omega, by congr 1, by
    rw [SE]
    rw [show i - x = ni by omega] at M
    exact M⟩
/-- A draw, as a number. -/
theorem nxV_nat {L : Nat} {l : Nat → Int} {k : Nat} {n : Int} (hn : 1 ≤ n) : ∃ x : Nat, nxV L l k n = x ∧ (x : Int) < n :=
  ⟨(nxV L l k n).toNat, by have := nxV_in (L := L) (l := l) (k := k) hn; omega, by have := nxV_in (L := L) (l := l) (k := k) hn; omega⟩
/-- The memory of Made before its bitmap is there. -/
structure EW (w V : World) (a : Option Addr) (L c k : Nat) : Prop where
  ds : DS V (w.heap.size + 1) a L c k
  rz : RZ V w.heap.size
  be : Below w.heap.size w V
theorem ew_next {w V V' : World} {a : Option Addr} {L c k k' : Nat} (h : EW w V a L c k) (hd : DS V' (w.heap.size + 1) a L c k') (hF : FR V V' (some ⟨w.heap.size + 1, 0, none⟩)) : EW w V' a L c k' := by
  obtain ⟨h1, h4, h5⟩ := h
  refine ⟨hd, rz_fr h4 hF (fun q e => by cases e; simp only; omega), ?_⟩
  exact h5.trans (hF.to_below h5.size (fun q e => by cases e; simp only; omega))
theorem ew_below {w V V' : World} {a : Option Addr} {L c k : Nat} (h : EW w V a L c k) (hB : Below V.heap.size V V') : EW w V' a L c k :=
  ⟨ds_below h.ds hB, rz_below h.rz hB, bt h.be hB⟩
theorem ew_start (w : World) (a : Option Addr) (L c : Nat) : EW w ((w.alloc (.cells #[.int .i64 0, .int .i64 0, .slice none 0 0] 28)).alloc (.cells #[.slice a L c, .int .i64 0] 79)) a L c 0 :=
  ⟨⟨by go_cell, by go_cell, by go_cell⟩, ⟨⟨by go_cell, by go_cell, by go_cell⟩, by go_cell, by go_cell, by go_cell⟩, ba (ba (Below.refl _ _) _) _⟩
theorem mw_start {w V : World} {a : Option Addr} {L c k W H n b : Nat} (h : EW w V a L c k) (ho : OB V b n (fun _ => false)) (hb : w.heap.size + 1 < b ∧ b < V.heap.size) (T : TypeId) : MW w (V.alloc (.cells #[.int .i64 W, .int .i64 H, .slice (some ⟨b, 0, none⟩) n n] T)) V.heap.size b a L c k W H n (fun _ => false) := by
  have h' := ew_below h (ba (Below.refl _ V) (.cells #[.int .i64 W, .int .i64 H, .slice (some ⟨b, 0, none⟩) n n] T))
  exact ⟨h'.ds, ⟨by go_cell, by go_cell, by go_cell⟩, ob_below ho (ba (Below.refl _ V) _), h'.rz, h'.be, hb.1, hb.2⟩
def MadePost (L : Nat) (l : Nat → Int) (w : World) (e : Ending) (w' : World) : Prop :=
  ∃ b, e = .returned (bv (mdW L l) (mdH L l) (some ⟨b, 0, none⟩) (mdW L l * mdH L l) (mdW L l * mdH L l)) ∧ OB w' b (mdW L l * mdH L l) (mdF L l) ∧ (w.heap.size ≤ b ∧ b < w'.heap.size) ∧ Below w.heap.size w w'
set_option maxRecDepth 100000 in
set_option maxHeartbeats 4000000 in
theorem Made_any (a : Option Addr) (L c : Nat) (l : Nat → Int) (hL : L ≤ 9223372036854775807) (w : World) (hD : LA w a L l) (hl : ∀ i, i < L → R64 (l i)) :
    Calls Try.prog 32 #[.slice a L c] w (MadePost L l w) := by
  have HD := Lib.hid hD
  have HL := Lib.hid hl
  have HO : Hid (∀ q, a = some q → 0 < L → q.block < w.heap.size) := Lib.hid (fun q e h0 => by
    obtain ⟨b, o, e', hc⟩ := hD 0 h0
    rw [e] at e'
    cases e'
    exact block_lt_of_cell hc)
  clear hD hl
  have NX : Hid (∀ (k : Nat) (n : Int) (V : World), 1 ≤ n ∧ n ≤ 1000000 → k ≤ L → DS V (w.heap.size + 1) a L c k → Below w.heap.size w V → Calls Try.prog 47 #[.pointer (some ⟨w.heap.size + 1, 0, none⟩), .int .i64 n] V fun e w' => e = .returned (.int .i64 (nxV L l k n)) ∧ DS w' (w.heap.size + 1) a L c (nxA L k) ∧ FR V w' (some ⟨w.heap.size + 1, 0, none⟩)) :=
    Lib.hid (fun k n V hn hk hS hB => Next_any (w.heap.size + 1) a L c k l n hn hL hk V hS (la_below HD.out hB) HL.out (fun q e h0 => by have := HO.out q e h0; omega))
  have E0 := ew_start w a L c
  obtain ⟨W, hW, hW17⟩ := nxV_nat (L := L) (l := l) (k := 0) (n := 17) (by omega)
  obtain ⟨H, hH, hH13⟩ := nxV_nat (L := L) (l := l) (k := nxA L 0) (n := 13) (by omega)
  obtain ⟨k1, hk1⟩ : ∃ k1, nxA L 0 = k1 := ⟨_, rfl⟩
  obtain ⟨k2, hk2⟩ : ∃ k2, nxA L k1 = k2 := ⟨_, rfl⟩
  have PO : Hid (∀ b w' f, OB w' b (W * H) f → f = (mst L l W H k2 12).2 → w.heap.size ≤ b ∧ b < w'.heap.size → Below w.heap.size w w' → MadePost L l w (.returned (bv W H (some ⟨b, 0, none⟩) (W * H : Nat) (W * H : Nat))) w') := Lib.hid (fun b w' f ho hf hb hB => by
    have eW : mdW L l = W := by unfold mdW; rw [hW]; exact Int.toNat_natCast _
    have eH : mdH L l = H := by unfold mdH; rw [hH]; exact Int.toNat_natCast _
    have eF : mdF L l = f := by unfold mdF; rw [eW, eH, hk1, hk2, hf]
    refine ⟨b, ?_, ?_, hb, hB⟩
    · rw [eW, eH]
    · rw [eW, eH, eF]; exact ho)
  have N1 := Lib.hid (fun V hS hB => NX.out 0 17 V (by omega) (by omega) hS hB)
  rw [hk1] at hH
  have N2 := Lib.hid (fun V hS hB => NX.out k1 13 V (by omega) (by rw [← hk1]; exact nxA_le (by omega)) hS hB)
  rw [hW, hk1] at N1
  rw [hH, hk2] at N2
  have hk2L : k2 ≤ L := by rw [← hk2, ← hk1]; exact nxA_le (nxA_le (by omega))
  obtain ⟨n, hn⟩ : ∃ n, W * H = n := ⟨_, rfl⟩
  have NW := Lib.hid (rNew_yes W H n (by rw [Bool.and_eq_true, sd_iff, sd_iff]; omega) (by rw [← hn]; simp))
  rw [hn] at PO
  have HN := Lib.hid hn
  clear hn hW hH hk1 hk2
  unfold bv at NW
  go_enter Try.func32, Try.ntmps32
  go_wp2_with fail
  refine (N1.out _ E0.ds E0.be).mono ?_
  rintro e V1 ⟨rfl, hd, hF⟩
  have E1 := ew_next E0 hd hF
  clear E0 hd hF
  go_wp2_with fail
  refine (N2.out _ E1.ds E1.be).mono ?_
  rintro e V2 ⟨rfl, hd, hF⟩
  have E2 := ew_next E1 hd hF
  clear E1 hd hF
  have hV2 : w.heap.size + 1 < V2.heap.size := block_lt_of_cell E2.ds.1
  go_wp2_with fail
  refine (NW.out _).mono ?_
  rintro e V3 ⟨b, rfl, ho, hb, hB⟩
  have M3 := mw_start (W := W) (H := H) (ew_below E2 hB) ho ⟨by omega, by omega⟩ 28
  clear E2 hB ho
  go_wp2_with fail
  go_loopw [6] (fun s6 V => ORel w V3.heap.size b a L c l W H n k2 s6 V) (fun s6 _ => 12 - (intOf s6).toNat)
  case atStart => exact ⟨0, by omega, rfl, M3⟩
  case round =>
    clear M3 N1 N2 NW
    obtain ⟨k, hk, rfl, M⟩ := hrel
    have hle := mst_le (l := l) (W := W) (H := H) hk2L k
    obtain ⟨s, hs⟩ : ∃ s, mst L l W H k2 k = s := ⟨_, rfl⟩
    rw [hs] at M hle
    obtain ⟨kk, g⟩ := s
    simp only at M hle
    have EN : Hid ((k < 12 → ¬ (kk < L ∧ 0 < n)) → g = (mst L l W H k2 12).2) := Lib.hid (fun h => by
      rw [mst_end (k := k) (by omega) (by rw [hs, HN.out]; exact h), hs])
    have ST : Hid (kk < L → 0 < n → mst L l W H k2 (k + 1) = mstep L l W H (kk, g)) := Lib.hid (fun _ _ => by rw [mst, hs])
    clear hs
    by_cases hc : k < 12 ∧ kk < L ∧ 0 < n
    · obtain ⟨hc1, hc2, hc3⟩ := hc
      have hn := HN.out
      have hW0 : 0 < W := Nat.pos_of_ne_zero (fun h => by rw [h, Nat.zero_mul] at hn; omega)
      have hH0 : 0 < H := Nat.pos_of_ne_zero (fun h => by rw [h, Nat.mul_zero] at hn; omega)
      clear hn EN
      obtain ⟨x, hx, hxW⟩ := nxV_nat (L := L) (l := l) (k := kk) (n := (W : Int)) (by omega)
      obtain ⟨k3, hk3⟩ : ∃ k3, nxA L kk = k3 := ⟨_, rfl⟩
      obtain ⟨y, hy, hyH⟩ := nxV_nat (L := L) (l := l) (k := k3) (n := (H : Int)) (by omega)
      obtain ⟨k4, hk4⟩ : ∃ k4, nxA L k3 = k4 := ⟨_, rfl⟩
      obtain ⟨sz, hsz, hsz16⟩ := nxV_nat (L := L) (l := l) (k := k4) (n := 16) (by omega)
      obtain ⟨k5, hk5⟩ : ∃ k5, nxA L k4 = k5 := ⟨_, rfl⟩
      obtain ⟨o4, ho4, ho44⟩ := nxV_nat (L := L) (l := l) (k := k5) (n := 4) (by omega)
      obtain ⟨k6, hk6⟩ : ∃ k6, nxA L k5 = k6 := ⟨_, rfl⟩
      have l3 : k3 ≤ L := by rw [← hk3]; exact nxA_le hle
      have l4 : k4 ≤ L := by rw [← hk4]; exact nxA_le l3
      have l5 : k5 ≤ L := by rw [← hk5]; exact nxA_le l4
      have X1 := Lib.hid (fun V hS hB => NX.out kk W V (by omega) hle hS hB)
      have X2 := Lib.hid (fun V hS hB => NX.out k3 H V (by omega) l3 hS hB)
      have X3 := Lib.hid (fun V hS hB => NX.out k4 16 V (by omega) l4 hS hB)
      have X4 := Lib.hid (fun V hS hB => NX.out k5 4 V (by omega) l5 hS hB)
      rw [hx, hk3] at X1
      rw [hy, hk4] at X2
      rw [hsz, hk5] at X3
      rw [ho4, hk6] at X4
      obtain ⟨on, hon⟩ : ∃ on, decide (0 < o4) = on := ⟨_, rfl⟩
      have SE := Lib.hid ((ST.out hc2 hc3).trans (mstep_yes (s := (kk, g)) hc2 (by rw [HN.out]; exact hc3) hk3 hk4 hk5 hk6 hx hy hsz (on := on) (by rw [ho4, ← hon]; simp)))
      clear hx hk3 hy hk4 hsz hk5 ho4 hk6 ST
      obtain ⟨q, hq⟩ : ∃ q, sz / 4 = q := ⟨_, rfl⟩
      obtain ⟨r, hr⟩ : ∃ r, sz % 4 = r := ⟨_, rfl⟩
      rw [hq, hr] at SE
      have hq3 : q ≤ 3 := by omega
      have hr3 : r ≤ 3 := by omega
      have qd : (sz : Int) / 4 = q := by omega
      have rd : (sz : Int) % 4 = r := by omega
      have qt : (sz : Int).tdiv 4 = q := by rw [Int.tdiv_eq_ediv_of_nonneg (by omega)]; exact qd
      have rt : (sz : Int).tmod 4 = r := by rw [Int.tmod_eq_emod_of_nonneg (by omega)]; exact rd
      clear hq hr
      have QD := Lib.hid qd
      have RD := Lib.hid rd
      have QT := Lib.hid qt
      have RT := Lib.hid rt
      have HON := Lib.hid hon
      clear qd rd qt rt hon
      obtain ⟨⟨d0, d1, d2⟩, ⟨x0, x1, x2⟩, ho, hz, hB, hlb, hlo⟩ := id M
      have n1 : ¬ V3.heap.size = w.heap.size + 1 := by omega
      clear ho hz
      go_wp2_with fail
      refine (X1.out _ M.ds M.be).mono ?_
      rintro e V4 ⟨rfl, hd, hF⟩
      replace M := mw_next M hd hF
      clear d0 d1 d2 x0 x1 x2 hd hF hB
      obtain ⟨⟨d0, d1, d2⟩, ⟨x0, x1, x2⟩, ho, hz, hB, _, _⟩ := id M
      clear ho hz
      go_wp2_with fail
      refine (X2.out _ M.ds M.be).mono ?_
      rintro e V5 ⟨rfl, hd, hF⟩
      replace M := mw_next M hd hF
      clear d0 d1 d2 x0 x1 x2 hd hF hB
      obtain ⟨⟨d0, d1, d2⟩, ⟨x0, x1, x2⟩, ho, hz, hB, _, _⟩ := id M
      clear ho hz
      go_wp2_with fail
      refine (X3.out _ M.ds M.be).mono ?_
      rintro e V6 ⟨rfl, hd, hF⟩
      replace M := mw_next M hd hF
      clear d0 d1 d2 x0 x1 x2 hd hF hB
      obtain ⟨⟨d0, d1, d2⟩, ⟨x0, x1, x2⟩, ho, hz, hB, _, _⟩ := id M
      clear ho hz
      go_wp2_with fail
      refine (X4.out _ M.ds M.be).mono ?_
      rintro e V7 ⟨rfl, hd, hF⟩
      replace M := mw_next M hd hF
      clear d0 d1 d2 x0 x1 x2 hd hF hB X1 X2 X3 X4
      have hon := HON.out
      clear HON
      obtain ⟨⟨d0, d1, d2⟩, ⟨x0, x1, x2⟩, ho, hz, hB, _, _⟩ := id M
      clear ho hz
      go_wp2_with fail
      clear hon d0 d1 d2 x0 x1 x2 hB l3 l4 l5 hsz16 ho44
      obtain ⟨nj, hnj⟩ : ∃ nj, cnt H y q = nj := ⟨_, rfl⟩
      obtain ⟨ni, hni⟩ : ∃ ni, cnt W x r = ni := ⟨_, rfl⟩
      rw [hnj, hni] at SE
      have CI : Hid (∀ i, i < x + ni → i < W ∧ i ≤ x + r) := Lib.hid (fun i h => by unfold cnt at hni; omega)
      have CI2 : Hid (W ≤ x + ni ∨ (x + ni < W ∧ x + r < x + ni)) := Lib.hid (by unfold cnt at hni; omega)
      have CJ : Hid (∀ j, j < y + nj → j < H ∧ j ≤ y + q) := Lib.hid (fun i h => by unfold cnt at hnj; omega)
      have CJ2 : Hid (H ≤ y + nj ∨ (y + nj < H ∧ y + q < y + nj)) := Lib.hid (by unfold cnt at hnj; omega)
      have BI : x + ni ≤ 20 := by unfold cnt at hni; omega
      have BJ : y + nj ≤ 20 := by unfold cnt at hnj; omega
      clear hni hnj
      go_loopw [11] (fun s11 V => IRel w V3.heap.size b a L c k6 W H n x y nj ni on g s11 V) (fun s11 _ => x + ni - (intOf s11).toNat)
      case atStart => exact ⟨x, by omega, by omega, rfl, by rw [Nat.sub_self]; exact M⟩
      case round =>
        clear M
        rename World => Vi
        obtain ⟨i, hxi, hin, rfl, M⟩ := hrel
        obtain ⟨⟨d0, d1, d2⟩, ⟨x0, x1, x2⟩, ho, hz, hB, _, _⟩ := id M
        clear ho hz
        rcases Nat.lt_or_ge i (x + ni) with hi | hi
        · obtain ⟨hiW, hir⟩ := CI.out i hi
          have rd := RD.out
          have rt := RT.out
          go_wp2_with fail
          clear rd rt d0 d1 d2 x0 x1 x2 hB
          go_loopw [12] (fun s12 V => JRel w V3.heap.size b a L c k6 W H n i y nj on (fi W x y nj on g (i - x)) s12 V) (fun s12 _ => y + nj - (intOf s12).toNat)
          case atStart => exact ⟨y, by omega, by omega, rfl, by rw [Nat.sub_self]; exact M⟩
          case round =>
            clear M
            rename World => Vj
            obtain ⟨j, hyj, hjn, rfl, M⟩ := hrel
            obtain ⟨⟨d0, d1, d2⟩, ⟨x0, x1, x2⟩, ho, hz, hB, _, _⟩ := id M
            clear hz
            have qd := QD.out
            have qt := QT.out
            rcases Nat.lt_or_ge j (y + nj) with hj | hj
            · obtain ⟨hjH, hjq⟩ := CJ.out j hj
              obtain ⟨e1, e2, hp, hn9⟩ := mul_in HN.out.symm (by omega) (by omega) hiW hjH
              obtain ⟨p, hpp⟩ : ∃ p, j * W + i = p := ⟨_, rfl⟩
              obtain ⟨p0, hp0⟩ : ∃ p0, j * W = p0 := ⟨_, rfl⟩
              rw [hpp] at hp
              have R : Hid (JRel w V3.heap.size b a L c k6 W H n i y nj on (fi W x y nj on g (i - x)) (.int .i64 ((j : Int) + 1)) (Vj.setCell ⟨b, p, none⟩ (.bool on))) := Lib.hid (jrel_next M hyj hj hp hpp)
              rw [hpp] at e2
              rw [hp0] at e1 e2
              obtain ⟨o1, o2⟩ := ho p hp
              clear ho hpp hp0 hB
              go_wp2_with fail
              refine ⟨?_, ?_⟩
              · first
                  | exact R.out
                  | ((repeat apply Exists.intro)
                     exact ⟨R.out, rfl⟩)
              · first
                  | (simp [intOf]; done)
                  | (simp [intOf]; omega)
            · have hjj : j = y + nj := by omega
              have R : Hid (IRel w V3.heap.size b a L c k6 W H n x y nj ni on g (.int .i64 ((i : Int) + 1)) Vj) := Lib.hid (irel_next M hxi hi hjj)
              have c2 := CJ2.out
              rw [← hjj] at c2
              clear ho hB hjj
              rcases c2 with hc | ⟨hc, hd⟩
              · go_wp2_with fail
                refine ⟨?_, ?_⟩
                · first
                    | exact R.out
                    | ((repeat apply Exists.intro)
                       exact ⟨R.out, rfl⟩)
                · first
                    | (simp [intOf]; done)
                    | (simp [intOf]; omega)
              · go_wp2_with fail
                refine ⟨?_, ?_⟩
                · first
                    | exact R.out
                    | ((repeat apply Exists.intro)
                       exact ⟨R.out, rfl⟩)
                · first
                    | (simp [intOf]; done)
                    | (simp [intOf]; omega)
        · have hii : i = x + ni := by omega
          have R : Hid (ORel w V3.heap.size b a L c l W H n k2 (.int .i64 ((k : Int) + 1)) Vi) := Lib.hid (orel_next M hii hc1 SE.out)
          have c2 := CI2.out
          rw [← hii] at c2
          have rd := RD.out
          have rt := RT.out
          clear hB hii
          rcases c2 with hc | ⟨hc, hd⟩
          · go_wp2_with fail
            refine ⟨?_, ?_⟩
            · first
                | exact R.out
                | ((repeat apply Exists.intro)
                   exact ⟨R.out, rfl⟩)
            · first
                | (simp [intOf]; done)
                | (simp [intOf]; omega)
          · go_wp2_with fail
            refine ⟨?_, ?_⟩
            · first
                | exact R.out
                | ((repeat apply Exists.intro)
                   exact ⟨R.out, rfl⟩)
            · first
                | (simp [intOf]; done)
                | (simp [intOf]; omega)
    · have EQ := Lib.hid (EN.out (by omega))
      clear EN ST
      obtain ⟨⟨d0, d1, d2⟩, ⟨x0, x1, x2⟩, ho, ⟨⟨r0, r1, r2⟩, r3, r4, r5⟩, hB, hlb, hlo⟩ := M
      have hVb := block_lt_of_cell x0
      have LAST : Hid (∀ V', OB V' b n g → b < V'.heap.size → Below w.heap.size w V' → MadePost L l w (.returned (bv W H (some ⟨b, 0, none⟩) n n)) V') := Lib.hid (fun V' h1 h2 h3 => PO.out b V' g h1 EQ.out ⟨by omega, h2⟩ h3)
      have cs : 12 ≤ k ∨ (k < 12 ∧ L ≤ kk) ∨ (k < 12 ∧ kk < L ∧ n = 0) := by omega
      have n1 : ¬ V3.heap.size = w.heap.size := by omega
      rcases cs with h12 | ⟨h12, h13⟩ | ⟨h12, h13, h14⟩
      · go_wp2
        refine bodyPost_ret (v := .agg #[.int .i64 W, .int .i64 H, .slice (some ⟨b, 0, none⟩) n n]) (by simp [results, Try.results32, go_sem, r0, r1, r2]) rfl (LAST.out _ ?_ ?_ ?_)
        · exact ob_other (ob_other (ob_other ho (by omega)) (by omega)) (by omega)
        · simp only [World.size_setCell]; omega
        · exact bs (bs (bs hB (by simp) _) (by simp) _) (by simp) _
      · go_wp2
        refine bodyPost_ret (v := .agg #[.int .i64 W, .int .i64 H, .slice (some ⟨b, 0, none⟩) n n]) (by simp [results, Try.results32, go_sem, r0, r1, r2]) rfl (LAST.out _ ?_ ?_ ?_)
        · exact ob_other (ob_other (ob_other ho (by omega)) (by omega)) (by omega)
        · simp only [World.size_setCell]; omega
        · exact bs (bs (bs hB (by simp) _) (by simp) _) (by simp) _
      · subst h14
        go_wp2
        refine bodyPost_ret (v := .agg #[.int .i64 W, .int .i64 H, .slice (some ⟨b, 0, none⟩) 0 0]) (by simp [results, Try.results32, go_sem, r0, r1, r2]) rfl (LAST.out _ ?_ ?_ ?_)
        · exact ob_other (ob_other (ob_other ho (by omega)) (by omega)) (by omega)
        · simp only [World.size_setCell]; omega
        · exact bs (bs (bs hB (by simp) _) (by simp) _) (by simp) _
end Go.Proofs.Ytfkpodhkbcocmaa.Bm
