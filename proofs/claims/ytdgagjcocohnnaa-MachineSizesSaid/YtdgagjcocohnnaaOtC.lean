/-
  Layer 6 (outline): a range over the points of an outline.
-/
import Derived.Test.YtdgagjcocohnnaaOtA
import Derived.RangeFuncNested
import Derived.RangeFuncBound
import Derived.RangeFuncCalls
import Derived.RangeFuncLeaves
import Derived.Shelf.Abstract
import Derived.Shelf.RegionOpen
import Derived.OwnWalkIn
import Derived.TacticsInMore
import Derived.LoopNIn
import Derived.LoopIn
import Derived.Sort.QuietIn
import Derived.Lib.QuietBelowIn
namespace Go.Proofs.Ytdgagjcocohnnaa.Ot
open Go.RowKit Go.Shelf
attribute [local go_sem] Oper.semAt_some

def onlyNormal (R : World → Prop) : Exit → Act → World → Prop
  | .normal, _, W' => R W'
  | .ret, _, _ => False
  | .exit _, _, _ => False
  | .goto _, _, _ => False
  | .panic _, _, _ => False
  | .outgrown, _, _ => False

/-- What the iterator promises: it hands out, in order, the rounds that take place. -/
def Gives (P : Program) (n gf : Nat) (lb : Array Value) (N : Nat) (act : Nat → Bool) (args : Nat → Array Value) (Mem : World → Prop) : Prop :=
  ∀ (rec : Nat) (J : Nat → World → Prop) (W : World),
    (∀ k V, J k V → k < N → act k = true → YieldAt Fence.wide (n - 1) P rec (args k) V fun e V' => e = .returned (.bool true) ∧ J (k + 1) V') →
    (∀ k V, J k V → k < N → act k = false → J (k + 1) V) →
    (∀ k V V', J k V → Below V.heap.size V V' → J k V') → (∀ k V, J k V → Mem V) →
    J 0 W → CallsIn Fence.wide n P gf (#[.func (.yield rec) #[] #[]] ++ lb) W fun e W' => (∃ v, e = .returned v) ∧ J N W'

theorem range_points {P : Program} {n : Nat} {g : Operand} {ps : Array Tmp} {assign body : Code} {Q : Exit → Act → World → Prop} {a : Act} {w : World}
    (h1 : 1 ≤ n) {gf : Nat} {lb : Array Value} (hg : a.eval g = .func (.func gf) #[] lb) (eg : ∀ args w, (callFunc gf args).run P w = .ok (.enter gf args) w)
    {N : Nat} {act : Nat → Bool} {args : Nat → Array Value} {Mem : World → Prop} (hps : ∀ k, (args k).size = ps.size)
    (hseq : Gives P (n - 1) gf lb N act args Mem)
    (I : Nat → World → Prop) (hIb : ∀ {k A A'}, I k A → Below A.heap.size A A' → I k A')
    (hIo : ∀ {k} {W : World} {r : Nat} {o : Obj} (o' : Obj), w.heap.size ≤ r → I k W → W.heap[r]? = some o → o.isCells = false → I k (W.putObj r o'))
    (hIm : ∀ {k V}, I k V → Mem V) (hIs : ∀ {k V}, I k V → k < N → act k = false → I (k + 1) V)
    (h0 : I 0 w) (a₁ : Nat → Act)
    (hassign : ∀ (l : Nat) (k : Nat) (W : World) (K : Act → World → Prop), K (a₁ k) W →
      assign.wpIn (Fence.wide.inRound l) (n - 1 - 1) P (Exit.then K (fun _ _ _ => False)) { tmps := (ps.zip (args k)).foldl (fun t (p, v) => t.setIfInBounds p v) a.tmps, defers := [] } W)
    (hbody : ∀ (l k : Nat) (V : World), I k V → k < N → act k = true →
      body.wpIn (Fence.wide.inRound l) (n - 1 - 1) P (onlyNormal fun W' => KeepsOthers V W' ∧ I (k + 1) W') (a₁ k) V)
    (hdone : ∀ (D : Nat) (W : World), I N W → w.heap.size ≤ D → W.heap[D]? = some (.deferred (some [])) → Q .normal { a with defers := { target := .collected D, args := #[] } :: a.defers } W) :
    (Code.rangeFunc g ps assign body).wpIn Fence.wide n P Q a w := by
  refine wpIn_rangeFunc (fun fn hfn => ?_)
  rw [show Fence.wide.round = none from rfl]
  obtain ⟨rc, hrc⟩ : ∃ rc : LoopState → Option Code → Loop, rc = fun st pe => { state := st, pending := pe, fn, tmps := a.tmps, params := ps, assign, body, defers := w.heap.size } := ⟨_, rfl⟩
  obtain ⟨W1, hW1⟩ : ∃ W1, (w.alloc (.deferred (some []))).alloc (.loop (rc .ready none)) = W1 := ⟨_, rfl⟩
  have hL1 : W1.heap[w.heap.size + 1]? = some (.loop (rc .ready none)) := by
    rw [← hW1]; have := World.alloc_heap_new (w.alloc (.deferred (some []))) (.loop (rc .ready none)); rwa [World.size_alloc] at this
  have hD1 : W1.heap[w.heap.size]? = some (.deferred (some [])) := by
    rw [← hW1]; exact (Below.heap_alloc _ _ _ (by simp)).trans (World.alloc_heap_new w _)
  have hb1 : Below w.heap.size w W1 := by
    rw [← hW1]; exact ((Below.refl _ w).alloc (Nat.le_refl _) _).alloc (by simp) _
  refine ⟨w.heap.size + 1, [{ target := .collected w.heap.size, args := #[] }], W1, { target := .fn (.func gf) lb, args := #[.func (.yield (w.heap.size + 1)) #[] #[]] }, W1, gf,
    #[.func (.yield (w.heap.size + 1)) #[] #[]] ++ lb, W1, ?_, ?_, fun _ _ => trivial, ?_, fun _ => h1, ?_⟩
  · rw [← hW1, hrc]; exact run_enterLoop_outer _ _ _ _ _
  · simp only [resolve, hg]
    simp [go_sem]
  · simp [invoke, go_sem, eg]
  · refine (hseq (w.heap.size + 1) (fun k W => I k W ∧ W.heap[w.heap.size + 1]? = some (.loop (rc .ready none)) ∧ W.heap[w.heap.size]? = some (.deferred (some []))) W1 ?_ ?_ ?_ ?_
      ⟨hIb h0 hb1, hL1, hD1⟩).mono ?_
    · rintro k V ⟨hi, hl, hd⟩ hk hact
      have hlt : w.heap.size + 1 < V.heap.size := (Array.getElem?_eq_some_iff.1 hl).1
      have hy := run_yield (P := P) (args := args k) hl (by rw [hrc]; exact hps k)
      rw [hrc] at hy
      refine ⟨fn, _, assign, body, hy, roundIn_of_wpIn hfn (hassign _ k V _ ⟨_, run_beginRound hl (by rw [hrc]), ?_⟩)⟩
      obtain ⟨V1, hV1⟩ : ∃ V1, V.putObj (w.heap.size + 1) (.loop { rc .ready none with state := .busy }) = V1 := ⟨_, rfl⟩
      have hl1 : V1.heap[w.heap.size + 1]? = some (.loop { rc .ready none with state := .busy }) := by rw [← hV1]; exact World.putObj_heap_same hlt
      have hd1 : V1.heap[w.heap.size]? = some (.deferred (some [])) := by rw [← hV1]; exact (World.putObj_heap_other (by omega)).trans hd
      have hi1 : I k V1 := by rw [← hV1]; exact hIo _ (by omega) hi hl rfl
      rw [hV1]
      refine wpIn_mono (hbody _ k V1 hi1 hk hact) ?_
      rintro e a3 W3 hp
      cases e with
      | normal =>
        obtain ⟨hk3, hi3⟩ := hp
        have hl3 := hk3.same _ _ hl1 rfl
        have hd3 := hk3.same _ _ hd1 rfl
        have hlt3 : w.heap.size + 1 < W3.heap.size := (Array.getElem?_eq_some_iff.1 hl3).1
        have he := run_endRound (P := P) none hl3
        refine ⟨_, _, he, rfl, hIo _ (by omega) hi3 hl3 rfl, ?_, ?_⟩
        · rw [World.putObj_heap_same hlt3, hrc]; rfl
        · exact (World.putObj_heap_other (by omega)).trans hd3
      | ret => exact hp.elim
      | exit id => exact hp.elim
      | goto t => exact hp.elim
      | panic ch => exact hp.elim
      | outgrown => exact hp.elim
    · rintro k V ⟨hi, hl, hd⟩ hk hact
      exact ⟨hIs hi hk hact, hl, hd⟩
    · rintro k V V' ⟨hi, hl, hd⟩ hB
      exact ⟨hIb hi hB, (hB.block _ (Array.getElem?_eq_some_iff.1 hl).1).trans hl, (hB.block _ (Array.getElem?_eq_some_iff.1 hd).1).trans hd⟩
    · rintro k V ⟨hi, hl, hd⟩
      exact hIm hi
    · rintro e W2 ⟨⟨v, rfl⟩, hi, hl, hd⟩
      have he := run_endLoop (P := P) hl (by rw [hrc]; simp)
      rw [hrc] at he
      exact ⟨none, _, he, hdone w.heap.size _ (hIo _ (by omega) hi hl rfl) (Nat.le_refl _) ((World.putObj_heap_other (by omega)).trans hd)⟩
end Go.Proofs.Ytdgagjcocohnnaa.Ot
