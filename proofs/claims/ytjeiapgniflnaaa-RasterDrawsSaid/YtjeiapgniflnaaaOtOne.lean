/-
  Layer 6 (outline): points and outlines in memory; Count, checkContour, Check of the program.
  Layer 6 (outline): a range over the points of an outline.
  Layer 6 (outline): the iterator over the points.
  Layer 6 (outline): a region that draws its order, in a round of a range over a function, walked as one outside.
  Layer 6 (outline): rectangles; what is carried over stores.
-/
import Derived.Test.YtjeiapgniflnaaaProg
import Derived.Laws.BitsLemmas
import Derived.IntWalk
import Derived.Deep.QuietTactic
import Derived.BigQuiet
import Derived.WalkLawsBesides
import Derived.WalkSpells
import Derived.ChangeAlike
import Derived.Handy
import Derived.OpenShut
import Derived.Deep.DeepCutAuto
import Derived.Outline
import Derived.RegionTactic
import Derived.BigRegion
import Derived.Deep.RegionHeld3
import Derived.Deep.RegionHeldLaw
import Derived.Deep.AppendLies
import Derived.Deep.MidRow
import Derived.Lib.Hide
import Derived.Lib.QuietBelow
import Derived.Lib.MinMax
import Derived.RangeFuncNested
import Derived.RangeFuncBound
import Derived.RangeFuncCalls
import Derived.RangeFuncLeaves
import Derived.Shelf.Abstract
import Derived.Shelf.RegionOpen
import Derived.OwnWalkIn
import Derived.TacticsInMore
import Derived.LoopNIn
import Derived.LoopIn
import Derived.Sort.QuietIn
import Derived.Lib.QuietBelowIn
namespace Go.Proofs.Ytjeiapgniflnaaa.Ot
open Go.RowKit

theorem kc {w a : World} (h : Below w.heap.size w a) {b o : Nat} {v : Value} (hc : w.cell? ⟨b, o, none⟩ = some v) : a.cell? ⟨b, o, none⟩ = some v := by
  rw [h.cell (p := ⟨b, o, none⟩) (block_lt_of_cell hc)]; exact hc
theorem kf {w a : World} (h : Below w.heap.size w a) {b o : Nat} {v : Value} {t : Bool} (hc : w.cell? ⟨b, o, none⟩ = some v) (f : w.frozen? ⟨b, o, none⟩ = t) : a.frozen? ⟨b, o, none⟩ = t := by
  rw [h.frozen (p := ⟨b, o, none⟩) (block_lt_of_cell hc)]; exact f
theorem bt {w u v : World} (h1 : Below w.heap.size w u) (h2 : Below u.heap.size u v) : Below w.heap.size w v := h1.trans (h2.mono h1.size)
theorem ba {w u : World} (h : Below w.heap.size w u) (o : Obj) : Below w.heap.size w (u.alloc o) := h.alloc h.size o
theorem bs {w u : World} (h : Below w.heap.size w u) {p : Addr} (hp : w.heap.size ≤ p.block) (v : Value) : Below w.heap.size w (u.setCell p v) := h.setCell hp v
theorem bd1 {w u : World} (h : Below w.heap.size w u) : Below w.heap.size w u.drew := ⟨h.os, h.tape, h.output, h.size, h.block⟩
theorem bd {w u : World} (h : Below w.heap.size w u) (n : Nat) : Below w.heap.size w (u.drewN n) := ⟨h.os, h.tape, h.output, h.size, h.block⟩
theorem ud {w u : World} (h : Below w.heap.size w u.drew) : Below w.heap.size w u := ⟨h.os, h.tape, h.output, h.size, h.block⟩
def R64 (x : Int) : Prop := -9223372036854775808 ≤ x ∧ x ≤ 9223372036854775807

/-- A point. -/
structure Pt where
  x : Int
  y : Int
  o : Bool
theorem pt_ext {p q : Pt} (h1 : p.x = q.x) (h2 : p.y = q.y) (h3 : p.o = q.o) : p = q := by
  cases p; cases q; simp_all
def p0 : Pt := ⟨0, 0, false⟩
def ptV (p : Pt) : Value := .agg #[.int .i64 p.x, .int .i64 p.y, .bool p.o]
def PtAt (w : World) (b o : Nat) (p : Pt) : Prop :=
  w.cell? ⟨b, o, none⟩ = some (.int .i64 p.x) ∧ w.cell? ⟨b, o + 1, none⟩ = some (.int .i64 p.y) ∧ w.cell? ⟨b, o + 2, none⟩ = some (.bool p.o)
theorem ptat_below {w W : World} {b o : Nat} {p : Pt} (h : PtAt w b o p) (hB : Below w.heap.size w W) : PtAt W b o p :=
  ⟨kc hB h.1, kc hB h.2.1, kc hB h.2.2⟩
/-- Points in memory. -/
def PA (w : World) (a : Option Addr) (n : Nat) (g : Nat → Pt) : Prop :=
  ∀ i, i < n → ∃ b o, a = some ⟨b, o, none⟩ ∧ PtAt w b (o + i * 3) (g i)
theorem pa_below {w W : World} {a : Option Addr} {n : Nat} {g : Nat → Pt} (h : PA w a n g) (hB : Below w.heap.size w W) : PA W a n g := fun i hi => by
  obtain ⟨b, o, e, hc⟩ := h i hi
  exact ⟨b, o, e, ptat_below hc hB⟩
theorem pa_less {w : World} {a : Option Addr} {n m : Nat} {g : Nat → Pt} (h : PA w a n g) (hm : m ≤ n) : PA w a m g := fun i hi => h i (by omega)
theorem pa_congr {w : World} {a : Option Addr} {n : Nat} {f g : Nat → Pt} (h : PA w a n f) (e : ∀ i, i < n → f i = g i) : PA w a n g := fun i hi => by rw [← e i hi]; exact h i hi
/-- An outline in memory: lists of points. -/
def OT (w : World) (a : Option Addr) (N : Nat) (ns : Nat → Nat) (g : Nat → Nat → Pt) : Prop :=
  ∀ k, k < N → ∃ b off a' c', a = some ⟨b, off, none⟩ ∧ w.cell? ⟨b, off + k, none⟩ = some (.slice a' (ns k) c') ∧ ns k ≤ c' ∧ c' ≤ 9223372036854775807 ∧ PA w a' (ns k) (g k)
theorem ot_below {w W : World} {a : Option Addr} {N : Nat} {ns : Nat → Nat} {g : Nat → Nat → Pt} (h : OT w a N ns g) (hB : Below w.heap.size w W) : OT W a N ns g := fun k hk => by
  obtain ⟨b, off, a', c', e, hc, h1, h2, hp⟩ := h k hk
  exact ⟨b, off, a', c', e, kc hB hc, h1, h2, pa_below hp hB⟩
theorem ot_less {w : World} {a : Option Addr} {N M : Nat} {ns : Nat → Nat} {g : Nat → Nat → Pt} (h : OT w a N ns g) (hm : M ≤ N) : OT w a M ns g := fun i hi => h i (by omega)
theorem ot_congr {w : World} {a : Option Addr} {N : Nat} {ns ns' : Nat → Nat} {g g' : Nat → Nat → Pt} (h : OT w a N ns g) (e1 : ∀ k, k < N → ns k = ns' k) (e2 : ∀ k, k < N → ∀ i, i < ns k → g k i = g' k i) : OT w a N ns' g' := fun k hk => by
  obtain ⟨b, off, a', c', e, hc, h1, h2, hp⟩ := h k hk
  refine ⟨b, off, a', c', e, by rw [← e1 k hk]; exact hc, by rw [← e1 k hk]; exact h1, h2, ?_⟩
  rw [← e1 k hk]
  exact pa_congr hp (e2 k hk)
/-- How many points the first contours have. -/
def pre (ns : Nat → Nat) : Nat → Nat
  | 0 => 0
  | k + 1 => pre ns k + ns k
theorem pre_mono (ns : Nat → Nat) {k : Nat} : ∀ {n : Nat}, k ≤ n → pre ns k ≤ pre ns n
  | 0, h => by obtain rfl : k = 0 := by omega
               exact Nat.le_refl _
  | n + 1, h => by
    rcases Nat.lt_or_ge n k with hk | hk
    · obtain rfl : k = n + 1 := by omega
      exact Nat.le_refl _
    · have := pre_mono ns hk
      rw [pre]
      omega
theorem pre_congr {ns ns' : Nat → Nat} : ∀ {n : Nat}, (∀ k, k < n → ns k = ns' k) → pre ns n = pre ns' n
  | 0, _ => rfl
  | n + 1, h => by rw [pre, pre, pre_congr (fun k hk => h k (by omega)), h n (by omega)]
/-- Whether a coordinate is in range. -/
def inC (n : Int) : Bool := decide (-512 ≤ n) && decide (n ≤ 512)
def okP (p : Pt) : Bool := inC p.x && inC p.y
def allP (g : Nat → Pt) : Nat → Bool
  | 0 => true
  | k + 1 => allP g k && okP (g k)
theorem allP_no {g : Nat → Pt} {i : Nat} (h : okP (g i) = false) : ∀ k, i < k → allP g k = false
  | 0, h0 => by omega
  | k + 1, h0 => by
    unfold allP
    rcases Nat.lt_or_ge i k with hlt | hge
    · rw [allP_no h k hlt]; rfl
    · obtain rfl : i = k := by omega
      rw [h, Bool.and_false]
/-- What a check says of a contour. -/
def ck3 (g : Nat → Pt) (n : Nat) : Int := if allP g n = false then 10 else 0
theorem ck3_yes {g : Nat → Pt} {n : Nat} (h : allP g n = true) : ck3 g n = 0 := by unfold ck3; rw [h]; rfl
theorem ck3_no {g : Nat → Pt} {n : Nat} (h : allP g n = false) : ck3 g n = 10 := by unfold ck3; rw [h]; rfl
def ckC (n : Nat) (g : Nat → Pt) : Int := if n < 3 then 11 else if (g 0).o = false then 11 else ck3 g n
def ckTo (ns : Nat → Nat) (g : Nat → Nat → Pt) : Nat → Int
  | 0 => 0
  | k + 1 => if ckTo ns g k = 0 then ckC (ns k) (g k) else ckTo ns g k
def ckO (N : Nat) (ns : Nat → Nat) (g : Nat → Nat → Pt) : Int := if 8 < N then 2 else if 64 < pre ns N then 2 else ckTo ns g N
def CcRel (w : World) (g : Nat → Pt) (n : Nat) (v : Value) (V : World) : Prop := ∃ k : Nat, v = .int .i64 k ∧ k ≤ n ∧ allP g k = true ∧ Below w.heap.size w V
def CkRel (w : World) (ns : Nat → Nat) (g : Nat → Nat → Pt) (N : Nat) (v : Value) (V : World) : Prop := ∃ k : Nat, v = .int .i64 k ∧ k ≤ N ∧ ckTo ns g k = 0 ∧ Below w.heap.size w V
theorem ckTo_no {ns : Nat → Nat} {g : Nat → Nat → Pt} {i : Nat} (h0 : ckTo ns g i = 0) (h : ¬ ckC (ns i) (g i) = 0) : ∀ k, i < k → ckTo ns g k = ckC (ns i) (g i)
  | 0, h1 => by omega
  | k + 1, h1 => by
    unfold ckTo
    rcases Nat.lt_or_ge i k with hlt | hge
    · rw [ckTo_no h0 h k hlt, if_neg h]
    · obtain rfl : i = k := by omega
      rw [if_pos h0]
end Go.Proofs.Ytjeiapgniflnaaa.Ot
namespace Go.Proofs.Ytjeiapgniflnaaa.Ot
open Go.RowKit Go.Shelf
attribute [local go_sem] Oper.semAt_some

def onlyNormal (R : World → Prop) : Exit → Act → World → Prop
  | .normal, _, W' => R W'
  | .ret, _, _ => False
  | .exit _, _, _ => False
  | .goto _, _, _ => False
  | .panic _, _, _ => False
  | .outgrown, _, _ => False

/-- What the iterator promises: it hands out, in order, the rounds that take place. -/
def Gives (P : Program) (n gf : Nat) (lb : Array Value) (N : Nat) (act : Nat → Bool) (args : Nat → Array Value) (Mem : World → Prop) : Prop :=
  ∀ (rec : Nat) (J : Nat → World → Prop) (W : World),
    (∀ k V, J k V → k < N → act k = true → YieldAt Fence.wide (n - 1) P rec (args k) V fun e V' => e = .returned (.bool true) ∧ J (k + 1) V') →
    (∀ k V, J k V → k < N → act k = false → J (k + 1) V) →
    (∀ k V V', J k V → Below V.heap.size V V' → J k V') → (∀ k V, J k V → Mem V) →
    J 0 W → CallsIn Fence.wide n P gf (#[.func (.yield rec) #[] #[]] ++ lb) W fun e W' => (∃ v, e = .returned v) ∧ J N W'

theorem range_points {P : Program} {n : Nat} {g : Operand} {ps : Array Tmp} {assign body : Code} {Q : Exit → Act → World → Prop} {a : Act} {w : World}
    (h1 : 1 ≤ n) {gf : Nat} {lb : Array Value} (hg : a.eval g = .func (.func gf) #[] lb) (eg : ∀ args w, (callFunc gf args).run P w = .ok (.enter gf args) w)
    {N : Nat} {act : Nat → Bool} {args : Nat → Array Value} {Mem : World → Prop} (hps : ∀ k, (args k).size = ps.size)
    (hseq : Gives P (n - 1) gf lb N act args Mem)
    (I : Nat → World → Prop) (hIb : ∀ {k A A'}, I k A → Below A.heap.size A A' → I k A')
    (hIo : ∀ {k} {W : World} {r : Nat} {o : Obj} (o' : Obj), w.heap.size ≤ r → I k W → W.heap[r]? = some o → o.isCells = false → I k (W.putObj r o'))
    (hIm : ∀ {k V}, I k V → Mem V) (hIs : ∀ {k V}, I k V → k < N → act k = false → I (k + 1) V)
    (h0 : I 0 w) (a₁ : Nat → Act)
    (hassign : ∀ (l : Nat) (k : Nat) (W : World) (K : Act → World → Prop), K (a₁ k) W →
      assign.wpIn (Fence.wide.inRound l) (n - 1 - 1) P (Exit.then K (fun _ _ _ => False)) { tmps := (ps.zip (args k)).foldl (fun t (p, v) => t.setIfInBounds p v) a.tmps, defers := [] } W)
    (hbody : ∀ (l k : Nat) (V : World), I k V → k < N → act k = true →
      body.wpIn (Fence.wide.inRound l) (n - 1 - 1) P (onlyNormal fun W' => KeepsOthers V W' ∧ I (k + 1) W') (a₁ k) V)
    (hdone : ∀ (D : Nat) (W : World), I N W → w.heap.size ≤ D → W.heap[D]? = some (.deferred (some [])) → Q .normal { a with defers := { target := .collected D, args := #[] } :: a.defers } W) :
    (Code.rangeFunc g ps assign body).wpIn Fence.wide n P Q a w := by
  refine wpIn_rangeFunc (fun fn hfn => ?_)
  rw [show Fence.wide.round = none from rfl]
  obtain ⟨rc, hrc⟩ : ∃ rc : LoopState → Option Code → Loop, rc = fun st pe => { state := st, pending := pe, fn, tmps := a.tmps, params := ps, assign, body, defers := w.heap.size } := ⟨_, rfl⟩
  obtain ⟨W1, hW1⟩ : ∃ W1, (w.alloc (.deferred (some []))).alloc (.loop (rc .ready none)) = W1 := ⟨_, rfl⟩
  have hL1 : W1.heap[w.heap.size + 1]? = some (.loop (rc .ready none)) := by
    rw [← hW1]; have := World.alloc_heap_new (w.alloc (.deferred (some []))) (.loop (rc .ready none)); rwa [World.size_alloc] at this
  have hD1 : W1.heap[w.heap.size]? = some (.deferred (some [])) := by
    rw [← hW1]; exact (Below.heap_alloc _ _ _ (by simp)).trans (World.alloc_heap_new w _)
  have hb1 : Below w.heap.size w W1 := by
    rw [← hW1]; exact ((Below.refl _ w).alloc (Nat.le_refl _) _).alloc (by simp) _
  refine ⟨w.heap.size + 1, [{ target := .collected w.heap.size, args := #[] }], W1, { target := .fn (.func gf) lb, args := #[.func (.yield (w.heap.size + 1)) #[] #[]] }, W1, gf,
    #[.func (.yield (w.heap.size + 1)) #[] #[]] ++ lb, W1, ?_, ?_, fun _ _ => trivial, ?_, fun _ => h1, ?_⟩
  · rw [← hW1, hrc]; exact run_enterLoop_outer _ _ _ _ _
  · simp only [resolve, hg]
    simp [go_sem]
  · simp [invoke, go_sem, eg]
  · refine (hseq (w.heap.size + 1) (fun k W => I k W ∧ W.heap[w.heap.size + 1]? = some (.loop (rc .ready none)) ∧ W.heap[w.heap.size]? = some (.deferred (some []))) W1 ?_ ?_ ?_ ?_
      ⟨hIb h0 hb1, hL1, hD1⟩).mono ?_
    · rintro k V ⟨hi, hl, hd⟩ hk hact
      have hlt : w.heap.size + 1 < V.heap.size := (Array.getElem?_eq_some_iff.1 hl).1
      have hy := run_yield (P := P) (args := args k) hl (by rw [hrc]; exact hps k)
      rw [hrc] at hy
      refine ⟨fn, _, assign, body, hy, roundIn_of_wpIn hfn (hassign _ k V _ ⟨_, run_beginRound hl (by rw [hrc]), ?_⟩)⟩
      obtain ⟨V1, hV1⟩ : ∃ V1, V.putObj (w.heap.size + 1) (.loop { rc .ready none with state := .busy }) = V1 := ⟨_, rfl⟩
      have hl1 : V1.heap[w.heap.size + 1]? = some (.loop { rc .ready none with state := .busy }) := by rw [← hV1]; exact World.putObj_heap_same hlt
      have hd1 : V1.heap[w.heap.size]? = some (.deferred (some [])) := by rw [← hV1]; exact (World.putObj_heap_other (by omega)).trans hd
      have hi1 : I k V1 := by rw [← hV1]; exact hIo _ (by omega) hi hl rfl
      rw [hV1]
      refine wpIn_mono (hbody _ k V1 hi1 hk hact) ?_
      rintro e a3 W3 hp
      cases e with
      | normal =>
        obtain ⟨hk3, hi3⟩ := hp
        have hl3 := hk3.same _ _ hl1 rfl
        have hd3 := hk3.same _ _ hd1 rfl
        have hlt3 : w.heap.size + 1 < W3.heap.size := (Array.getElem?_eq_some_iff.1 hl3).1
        have he := run_endRound (P := P) none hl3
        refine ⟨_, _, he, rfl, hIo _ (by omega) hi3 hl3 rfl, ?_, ?_⟩
        · rw [World.putObj_heap_same hlt3, hrc]; rfl
        · exact (World.putObj_heap_other (by omega)).trans hd3
      | ret => exact hp.elim
      | exit id => exact hp.elim
      | goto t => exact hp.elim
      | panic ch => exact hp.elim
      | outgrown => exact hp.elim
    · rintro k V ⟨hi, hl, hd⟩ hk hact
      exact ⟨hIs hi hk hact, hl, hd⟩
    · rintro k V V' ⟨hi, hl, hd⟩ hB
      exact ⟨hIb hi hB, (hB.block _ (Array.getElem?_eq_some_iff.1 hl).1).trans hl, (hB.block _ (Array.getElem?_eq_some_iff.1 hd).1).trans hd⟩
    · rintro k V ⟨hi, hl, hd⟩
      exact hIm hi
    · rintro e W2 ⟨⟨v, rfl⟩, hi, hl, hd⟩
      have he := run_endLoop (P := P) hl (by rw [hrc]; simp)
      rw [hrc] at he
      exact ⟨none, _, he, hdone w.heap.size _ (hIo _ (by omega) hi hl rfl) (Nat.le_refl _) ((World.putObj_heap_other (by omega)).trans hd)⟩
end Go.Proofs.Ytjeiapgniflnaaa.Ot
namespace Go.Proofs.Ytjeiapgniflnaaa.Ot
open Go.RowKit Go.Shelf
attribute [local go_sem] Oper.semAt_some
/-- The contour of a point, and its number in it. -/
def loc (ns : Nat → Nat) : Nat → Nat → Nat × Nat
  | 0, j => (0, j)
  | K + 1, j => if pre ns K ≤ j then (K, j - pre ns K) else loc ns K j
theorem loc_at (ns : Nat → Nat) {k i : Nat} (hi : i < ns k) : ∀ {K : Nat}, k < K → loc ns K (pre ns k + i) = (k, i)
  | 0, h => by omega
  | K + 1, h => by
    unfold loc
    rcases Nat.lt_or_ge k K with hk | hk
    · have := pre_mono ns (show k + 1 ≤ K by omega)
      rw [pre] at this
      rw [if_neg (by omega)]
      exact loc_at ns hi hk
    · obtain rfl : k = K := by omega
      rw [if_pos (by omega), Nat.add_sub_cancel_left]
theorem loc_in (ns : Nat → Nat) {j : Nat} : ∀ {K : Nat}, j < pre ns K → (loc ns K j).1 < K ∧ (loc ns K j).2 < ns (loc ns K j).1 ∧ pre ns (loc ns K j).1 + (loc ns K j).2 = j
  | 0, h => by unfold pre at h; omega
  | K + 1, h => by
    unfold loc
    rw [pre] at h
    by_cases hk : pre ns K ≤ j
    · rw [if_pos hk]
      refine ⟨Nat.lt_succ_self K, ?_, ?_⟩
      · show j - pre ns K < ns K
        omega
      · show pre ns K + (j - pre ns K) = j
        omega
    · rw [if_neg hk]
      obtain ⟨h1, h2⟩ := loc_in ns (j := j) (K := K) (by omega)
      exact ⟨by omega, h2⟩
/-- The lists of an outline, with where their points lie. -/
def OX (w : World) (a : Option Addr) (N : Nat) (ns B O : Nat → Nat) : Prop :=
  ∀ k, k < N → ∃ b off a' c', a = some ⟨b, off, none⟩ ∧ w.cell? ⟨b, off + k, none⟩ = some (.slice a' (ns k) c') ∧ ns k ≤ c' ∧ c' ≤ 9223372036854775807 ∧ (0 < ns k → a' = some ⟨B k, O k, none⟩)
theorem ox_below {w W : World} {a : Option Addr} {N : Nat} {ns B O : Nat → Nat} (h : OX w a N ns B O) (hB : Below w.heap.size w W) : OX W a N ns B O := fun k hk => by
  obtain ⟨b, off, a', c', e, hc, h1, h2, hp⟩ := h k hk
  exact ⟨b, off, a', c', e, kc hB hc, h1, h2, hp⟩
theorem ot_ox {w : World} {a : Option Addr} {N : Nat} {ns : Nat → Nat} {g : Nat → Nat → Pt} (h : OT w a N ns g) : ∃ B O : Nat → Nat, OX w a N ns B O ∧ ∀ k, k < N → ∀ i, i < ns k → PtAt w (B k) (O k + i * 3) (g k i) := by
  have hx : ∀ k, ∃ x : Nat × Nat, k < N → (∃ b off a' c', a = some ⟨b, off, none⟩ ∧ w.cell? ⟨b, off + k, none⟩ = some (.slice a' (ns k) c') ∧ ns k ≤ c' ∧ c' ≤ 9223372036854775807 ∧ (0 < ns k → a' = some ⟨x.1, x.2, none⟩)) ∧ ∀ i, i < ns k → PtAt w x.1 (x.2 + i * 3) (g k i) := by
    intro k
    by_cases hk : k < N
    · obtain ⟨b, off, a', c', e, hc, h1, h2, hp⟩ := h k hk
      by_cases h0 : 0 < ns k
      · obtain ⟨b', o', rfl, hq⟩ := hp 0 h0
        refine ⟨(b', o'), fun _ => ⟨⟨b, off, _, c', e, hc, h1, h2, fun _ => rfl⟩, fun i hi => ?_⟩⟩
        obtain ⟨b2, o2, e2, hq2⟩ := hp i hi
        cases e2
        exact hq2
      · exact ⟨(0, 0), fun _ => ⟨⟨b, off, a', c', e, hc, h1, h2, fun h => absurd h h0⟩, fun i hi => by omega⟩⟩
    · exact ⟨(0, 0), fun h => absurd h hk⟩
  refine ⟨fun k => (Classical.choose (hx k)).1, fun k => (Classical.choose (hx k)).2, fun k hk => ?_, fun k hk => ?_⟩
  · exact (Classical.choose_spec (hx k) hk).1
  · exact (Classical.choose_spec (hx k) hk).2
def pargs (N : Nat) (ns B O : Nat → Nat) (j : Nat) : Array Value := #[.int .i64 (j : Int), .pointer (some ⟨B (loc ns N j).1, O (loc ns N j).1 + (loc ns N j).2 * 3, none⟩)]
def PMem (X : Nat) (a : Option Addr) (N c : Nat) (ns B O : Nat → Nat) (V : World) : Prop := V.cell? ⟨X, 0, none⟩ = some (.slice a N c) ∧ OX V a N ns B O
def ItOut (N : Nat) (ns : Nat → Nat) (J : Nat → World → Prop) (s3 s9 : Value) (wr : World) : Prop := ∃ k : Nat, k ≤ N ∧ s9 = .int .i64 k ∧ s3 = .int .i64 (pre ns k : Nat) ∧ J (pre ns k) wr
def ItIn (ns : Nat → Nat) (k : Nat) (J : Nat → World → Prop) (s3 s15 : Value) (wr : World) : Prop := ∃ i : Nat, i ≤ ns k ∧ s15 = .int .i64 i ∧ s3 = .int .i64 (pre ns k + i : Nat) ∧ J (pre ns k + i) wr
theorem mixedF : Try.prog.follows .mixedOrders = true := by kernel_rfl
end Go.Proofs.Ytjeiapgniflnaaa.Ot
namespace Go.Proofs.Ytjeiapgniflnaaa.Ot
open Go.RowKit Go.Shelf
def noDefer (ops : Array Oper) : Bool := ops.toList.all fun o => match o.op with
  | .defer _ => false
  | .call _ => true
  | _ => true
theorem noDefer_at {ops : Array Oper} (h : noDefer ops = true) {i : Nat} {o : Oper} (ho : ops[i]? = some o) : ∀ c, o.op ≠ .defer c := by
  intro c hc
  have h1 := List.all_eq_true.1 h o (by
    rw [Array.mem_toList_iff]
    exact Array.mem_of_getElem? ho)
  rw [hc] at h1
  exact Bool.false_ne_true h1
theorem wpOp_in {P : Program} {n l : Nat} {ops : Array Oper} {Q : Exit → Act → World → Prop} (hL : ¬ LetsOut Q) (hd : noDefer ops = true) {i : Nat} {K K' : Act → World → Prop} (hK : ∀ a w, K a w → K' a w) {a : Act} {w : World}
    (h : wpOp P ops Q i K a w) : wpOpIn (Fence.wide.inRound l) n P ops Q i K' a w := by
  unfold wpOp at h
  unfold wpOpIn
  split
  · rename_i ho
    simp only [ho] at h
    exact hK _ _ h
  · rename_i o ho
    simp only [ho] at h
    split
    · rename_i hw
      simp only [hw, if_true] at h
      rcases h with h | h
      rotate_left
      · exact absurd h.2 hL
      unfold Oper.wp at h
      unfold Oper.wpIn
      refine ⟨fun _ _ => trivial, ?_⟩
      rw [Oper.semAt_eq _ _ _ (noDefer_at hd ho)]
      generalize (execOp a.eval o).run P w = r at *
      cases r with
      | ok x w' =>
        cases x with
        | value v => exact hK _ _ h
        | skip => exact hK _ _ h
        | defer d => exact hK _ _ h
        | enter f args =>
          refine ⟨(fun h => by cases h), ?_⟩
          have h' : Calls P f args w' _ := h
          refine CallsIn.inRound l ((callsIn_wide.2 h').mono ?_)
          intro e w'' he
          cases e with
          | returned v => exact hK _ _ he
          | panicked c => exact he
          | outgrown => exact he
        | row row args =>
          refine ⟨(fun h => by cases h), ?_⟩
          have h' : Rows P row args w' _ := h
          intro c cs _
          obtain ⟨v, w'', hr, hs⟩ := h' c cs
          exact ⟨v, w'', hK _ _ hr, stepsIn_wide.2 hs⟩
        | _ => exact h.elim
      | halt x w' =>
        cases x with
        | panic v => exact h
        | _ => exact h.elim
    · rename_i hw
      simp only [hw] at h
      exact ⟨fun _ _ => trivial, hK _ _ h⟩
theorem wpAny_in {P : Program} {n l : Nat} {md : Region.Mode} {ops : Array Oper} {Q : Exit → Act → World → Prop} (hL : ¬ LetsOut Q) (hd : noDefer ops = true) : ∀ (fuel : Nat) (listed : Array Bool) (a : Act) (w : World),
    wpAny P md ops Q fuel listed a w → wpAnyIn (Fence.wide.inRound l) n P md ops Q fuel listed a w
  | 0, _, _, _, h => h
  | fuel + 1, _, _, _, h => ⟨h.1, fun i hi => wpOp_in hL hd (fun a w h => wpAny_in hL hd fuel _ a w h) (h.2 i hi)⟩
/-- A region in a round, with a condition on the world that is kept. -/
theorem region_held_round {P : Program} {n l : Nat} {ops : Array Oper} {Q : Exit → Act → World → Prop} {S : World → Prop} {id : Nat} {a : Act} {w : World} (hL : ¬ LetsOut Q) (hd : noDefer ops = true) (hm : P.follows .mixedOrders = true) (hS : S w.drew)
    (h : S w.drew → wpAnyH P .any ops Q S ops.size (Array.replicate ops.size false) a w.drew) : (Code.region id ops true).wpIn (Fence.wide.inRound l) n P Q a w :=
  wpIn_region_any hm (wpAny_in hL hd _ _ _ _ (wpAny_of_held _ _ _ _ (h hS)))
end Go.Proofs.Ytjeiapgniflnaaa.Ot
namespace Go.Proofs.Ytjeiapgniflnaaa.Ot
open Go.RowKit Go.Shelf
attribute [local go_sem] Oper.semAt_some
structure Rc where
  a : Int
  b : Int
  c : Int
  d : Int
def rcV (r : Rc) : Value := .agg #[.int .i64 r.a, .int .i64 r.b, .int .i64 r.c, .int .i64 r.d]
def rc0 : Rc := ⟨0, 0, 0, 0⟩
/-- A rectangle in a block of its own, which may be written. -/
def RcAt (w : World) (b : Nat) (r : Rc) : Prop :=
  (w.cell? ⟨b, 0, none⟩ = some (.int .i64 r.a) ∧ w.cell? ⟨b, 1, none⟩ = some (.int .i64 r.b) ∧ w.cell? ⟨b, 2, none⟩ = some (.int .i64 r.c) ∧ w.cell? ⟨b, 3, none⟩ = some (.int .i64 r.d)) ∧
  w.frozen? ⟨b, 0, none⟩ = false ∧ w.frozen? ⟨b, 1, none⟩ = false ∧ w.frozen? ⟨b, 2, none⟩ = false ∧ w.frozen? ⟨b, 3, none⟩ = false
theorem rcat_below {w W : World} {b : Nat} {r : Rc} (h : RcAt w b r) (hB : Below w.heap.size w W) : RcAt W b r := by
  obtain ⟨⟨h1, h2, h3, h4⟩, f1, f2, f3, f4⟩ := h
  exact ⟨⟨kc hB h1, kc hB h2, kc hB h3, kc hB h4⟩, kf hB h1 f1, kf hB h2 f2, kf hB h3 f3, kf hB h4 f4⟩
def rcSt (p : Pt) : Rc := ⟨p.x, p.y, p.x, p.y⟩
def rcUp (r : Rc) (p : Pt) : Rc := ⟨min r.a p.x, min r.b p.y, max r.c p.x, max r.d p.y⟩
theorem rc_set4 {V : World} {b : Nat} {r : Rc} (p : Pt) (h : RcAt V b r) : RcAt ((((V.setCell ⟨b, 0, none⟩ (.int .i64 (min r.a p.x))).setCell ⟨b, 2, none⟩ (.int .i64 (max r.c p.x))).setCell ⟨b, 1, none⟩ (.int .i64 (min r.b p.y))).setCell ⟨b, 3, none⟩ (.int .i64 (max r.d p.y))) b (rcUp r p) := by
  obtain ⟨⟨h1, h2, h3, h4⟩, f1, f2, f3, f4⟩ := h
  exact ⟨⟨by show _ = some (Value.int IntKind.i64 (min r.a p.x)); go_cell, by show _ = some (Value.int IntKind.i64 (min r.b p.y)); go_cell, by show _ = some (Value.int IntKind.i64 (max r.c p.x)); go_cell, by show _ = some (Value.int IntKind.i64 (max r.d p.y)); go_cell⟩, by go_cell, by go_cell, by go_cell, by go_cell⟩
theorem rc_st4 {V : World} {b : Nat} {r : Rc} (p : Pt) (h : RcAt V b r) : RcAt ((((V.setCell ⟨b, 0, none⟩ (.int .i64 p.x)).setCell ⟨b, 1, none⟩ (.int .i64 p.y)).setCell ⟨b, 2, none⟩ (.int .i64 p.x)).setCell ⟨b, 3, none⟩ (.int .i64 p.y)) b (rcSt p) := by
  obtain ⟨⟨h1, h2, h3, h4⟩, f1, f2, f3, f4⟩ := h
  exact ⟨⟨by show _ = some (Value.int IntKind.i64 p.x); go_cell, by show _ = some (Value.int IntKind.i64 p.y); go_cell, by show _ = some (Value.int IntKind.i64 p.x); go_cell, by show _ = some (Value.int IntKind.i64 p.y); go_cell⟩, by go_cell, by go_cell, by go_cell, by go_cell⟩
theorem rcUp_st (p : Pt) : rcUp (rcSt p) p = rcSt p := by unfold rcUp rcSt; simp
/-- The smallest rectangle with the first points. -/
def bxN (p : Nat → Pt) : Nat → Rc
  | 0 => rc0
  | k + 1 => rcUp (if k = 0 then rcSt (p 0) else bxN p k) (p k)
/-- The points of an outline, counted through. -/
def fl (N : Nat) (ns : Nat → Nat) (g : Nat → Nat → Pt) (j : Nat) : Pt := g (loc ns N j).1 (loc ns N j).2
def bxO (N : Nat) (ns : Nat → Nat) (g : Nat → Nat → Pt) : Rc := bxN (fl N ns g) (pre ns N)
theorem put_cell {W : World} {r : Nat} {o : Obj} (o' : Obj) {p : Addr} {v : Value} (ho : W.heap[r]? = some o) (hc : o.isCells = false) (h : W.cell? p = some v) : (W.putObj r o').cell? p = some v ∧ (W.putObj r o').frozen? p = W.frozen? p := by
  have hne : p.block ≠ r := by
    rintro rfl
    unfold World.cell? at h
    rw [ho] at h
    cases o <;> simp_all [Obj.isCells]
  have e : (W.putObj r o').heap[p.block]? = W.heap[p.block]? := World.putObj_heap_other hne
  exact ⟨by simpa only [World.cell?, e] using h, by simp only [World.frozen?, e]⟩
theorem below_put {w W : World} (h : Below w.heap.size w W) {r : Nat} (hr : w.heap.size ≤ r) (o : Obj) : Below w.heap.size w (W.putObj r o) :=
  h.grown (grownBy_putObj' W r o) h.size (fun k hk => by cases hk; exact hr)
theorem ko_below {V V' : World} (h : Below V.heap.size V V') : KeepsOthers V V' := ⟨h.size, fun k _ hk _ => (h.block k (Array.getElem?_eq_some_iff.1 hk).1).trans hk⟩
theorem put_rc {W : World} {r : Nat} {o : Obj} (o' : Obj) {b : Nat} {x : Rc} (ho : W.heap[r]? = some o) (hc : o.isCells = false) (h : RcAt W b x) : RcAt (W.putObj r o') b x := by
  obtain ⟨⟨h1, h2, h3, h4⟩, f1, f2, f3, f4⟩ := h
  exact ⟨⟨(put_cell o' ho hc h1).1, (put_cell o' ho hc h2).1, (put_cell o' ho hc h3).1, (put_cell o' ho hc h4).1⟩, (put_cell o' ho hc h1).2.trans f1, (put_cell o' ho hc h2).2.trans f2, (put_cell o' ho hc h3).2.trans f3, (put_cell o' ho hc h4).2.trans f4⟩
theorem put_ox {W : World} {r : Nat} {o : Obj} (o' : Obj) {a : Option Addr} {N : Nat} {ns B O : Nat → Nat} (ho : W.heap[r]? = some o) (hc : o.isCells = false) (h : OX W a N ns B O) : OX (W.putObj r o') a N ns B O := fun k hk => by
  obtain ⟨b, off, a', c', e, hx, h1, h2, hp⟩ := h k hk
  exact ⟨b, off, a', c', e, (put_cell o' ho hc hx).1, h1, h2, hp⟩
theorem put_pm {W : World} {r : Nat} {o : Obj} (o' : Obj) {X : Nat} {a : Option Addr} {N c : Nat} {ns B O : Nat → Nat} (ho : W.heap[r]? = some o) (hc : o.isCells = false) (h : PMem X a N c ns B O W) : PMem X a N c ns B O (W.putObj r o') :=
  ⟨(put_cell o' ho hc h.1).1, put_ox o' ho hc h.2⟩
theorem pm_below {V V' : World} {X : Nat} {a : Option Addr} {N c : Nat} {ns B O : Nat → Nat} (h : PMem X a N c ns B O V) (hB : Below V.heap.size V V') : PMem X a N c ns B O V' := ⟨kc hB h.1, ox_below h.2 hB⟩
/-- What Box holds behind some rounds. -/
def BI (w : World) (a : Option Addr) (N c : Nat) (ns B O : Nat → Nat) (g : Nat → Nat → Pt) (k : Nat) (V : World) : Prop :=
  RcAt V (w.heap.size + 1) (bxN (fl N ns g) k) ∧ RcAt V w.heap.size rc0 ∧ PMem (w.heap.size + 1 + 1) a N c ns B O V ∧ Below w.heap.size w V
theorem bi_below {w : World} {a : Option Addr} {N c : Nat} {ns B O : Nat → Nat} {g : Nat → Nat → Pt} {k : Nat} {V V' : World} (h : BI w a N c ns B O g k V) (hB : Below V.heap.size V V') : BI w a N c ns B O g k V' := by
  obtain ⟨h1, h2, h3, h4⟩ := h
  exact ⟨rcat_below h1 hB, rcat_below h2 hB, pm_below h3 hB, bt h4 hB⟩
theorem bi_put {w : World} {a : Option Addr} {N c : Nat} {ns B O : Nat → Nat} {g : Nat → Nat → Pt} {k : Nat} {V : World} {r : Nat} {o : Obj} (o' : Obj) (hr : w.heap.size ≤ r) (h : BI w a N c ns B O g k V) (ho : V.heap[r]? = some o) (hc : o.isCells = false) : BI w a N c ns B O g k (V.putObj r o') := by
  obtain ⟨h1, h2, h3, h4⟩ := h
  exact ⟨put_rc o' ho hc h1, put_rc o' ho hc h2, put_pm o' ho hc h3, below_put h4 hr o'⟩
theorem gr (w : World) (r : Nat) : w.grownBy w (some r) := ⟨rfl, rfl, rfl, Nat.le_refl _, fun _ _ _ => rfl⟩
theorem gd1 {a w : World} {r : Option Nat} (h : a.grownBy w r) : a.grownBy w.drew r := ⟨h.os, h.tape, h.output, h.size, h.block⟩
theorem gt {a w v : World} {r : Option Nat} (h : a.grownBy w r) (hb : Below w.heap.size w v) : a.grownBy v r :=
  ⟨hb.os.trans h.os, hb.tape.trans h.tape, hb.output.trans h.output, Nat.le_trans h.size hb.size, fun i hi hn => (hb.block i (Nat.lt_of_lt_of_le hi h.size)).trans (h.block i hi hn)⟩
theorem gs {a w : World} {r o : Nat} (h : a.grownBy w (some r)) (u : Value) : a.grownBy (w.setCell ⟨r, o, none⟩ u) (some r) :=
  ⟨h.os, h.tape, h.output, by simpa [World.setCell] using h.size, fun i hi hne => (Below.heap_setCell w _ u i (by rintro rfl; exact hne rfl)).trans (h.block i hi hne)⟩
theorem gc {a w : World} {r b o : Nat} {v : Value} (h : a.grownBy w (some r)) (hc : a.cell? ⟨b, o, none⟩ = some v) (hn : b ≠ r) : w.cell? ⟨b, o, none⟩ = some v :=
  h.cell hc (by simpa using hn)
theorem gf {a w : World} {r b o : Nat} {v : Value} {t : Bool} (h : a.grownBy w (some r)) (hc : a.cell? ⟨b, o, none⟩ = some v) (hf : a.frozen? ⟨b, o, none⟩ = t) (hn : b ≠ r) : w.frozen? ⟨b, o, none⟩ = t := by
  have e := h.block b (block_lt_of_cell hc) (by simpa using hn)
  rw [← hf]
  simp only [World.frozen?, e]
theorem gB {w a v : World} {r : Nat} (h : Below w.heap.size w a) (g : a.grownBy v (some r)) (hr : w.heap.size ≤ r) : Below w.heap.size w v :=
  ⟨g.os.trans h.os, g.tape.trans h.tape, g.output.trans h.output, Nat.le_trans h.size g.size, fun i hi => (g.block i (Nat.lt_of_lt_of_le hi h.size) (fun e => by injection e; omega)).trans (h.block i hi)⟩
theorem gko {V V' : World} {r : Nat} {o : Nat} {v : Value} (h : V.grownBy V' (some r)) (hc : V.cell? ⟨r, o, none⟩ = some v) : KeepsOthers V V' := by
  refine ⟨h.size, fun k ob hk hn => ?_⟩
  have hne : k ≠ r := by
    rintro rfl
    unfold World.cell? at hc
    rw [hk] at hc
    cases ob <;> simp_all [Obj.isCells]
  exact (h.block k (Array.getElem?_eq_some_iff.1 hk).1 (by simpa using hne)).trans hk
theorem bi_next {w : World} {a : Option Addr} {N c : Nat} {ns B O : Nat → Nat} {g : Nat → Nat → Pt} {k : Nat} {V : World} (h : BI w a N c ns B O g k V) (hX : OX w a N ns B O) (V' : World) (hg : V.grownBy V' (some (w.heap.size + 1))) (hr : RcAt V' (w.heap.size + 1) (bxN (fl N ns g) (k + 1))) :
    KeepsOthers V V' ∧ BI w a N c ns B O g (k + 1) V' := by
  obtain ⟨h1, ⟨⟨c1, c2, c3, c4⟩, f1, f2, f3, f4⟩, h3, h4⟩ := h
  have hB := gB h4 hg (by omega)
  have n1 : w.heap.size ≠ w.heap.size + 1 := by omega
  exact ⟨gko hg h1.1.1, hr, ⟨⟨gc hg c1 n1, gc hg c2 n1, gc hg c3 n1, gc hg c4 n1⟩, gf hg c1 f1 n1, gf hg c2 f2 n1, gf hg c3 f3 n1, gf hg c4 f4 n1⟩, ⟨gc hg h3.1 (by omega), ox_below hX hB⟩, hB⟩
end Go.Proofs.Ytjeiapgniflnaaa.Ot
