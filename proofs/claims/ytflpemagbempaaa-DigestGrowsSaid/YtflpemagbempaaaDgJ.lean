/-
  Layer 3 (digest): a range over the levels of a tree.
-/
import Derived.Test.YtflpemagbempaaaDgI
import Derived.RangeFuncNested
import Derived.RangeFuncBound
import Derived.RangeFuncCalls
import Derived.RangeFuncLeaves
import Derived.Shelf.Abstract
import Derived.Shelf.RegionOpen
import Derived.OwnWalkIn
import Derived.TacticsInMore
import Derived.LoopNIn
import Derived.LoopIn
namespace Go.Proofs.Ytflpemagbempaaa.Dg
open Go.RowKit Go.Shelf
attribute [local go_sem] Oper.semAt_some

/-- The levels of a tree, by the digests of level 0. -/
def lv (g : Nat → List UInt8) : Nat → Nat → List UInt8
  | 0 => g
  | k + 1 => up (lv g k)
theorem lv_len (g : Nat → List UInt8) (hg : ∀ j, (g j).length = 8) : ∀ k j, (lv g k j).length = 8
  | 0, j => hg j
  | _ + 1, j => up_len _ j
def sl (b m : Nat) : Value := .slice (some ⟨b, 0, none⟩) m m

def onlyNormal (R : World → Prop) : Exit → Act → World → Prop
  | .normal, _, W' => R W'
  | .ret, _, _ => False
  | .exit _, _, _ => False
  | .goto _, _, _ => False
  | .panic _, _, _ => False
  | .outgrown, _, _ => False

theorem dr_same {W W' : World} {b m : Nat} {g : Nat → List UInt8} (h : DR W b m g) (he : W'.heap[b]? = W.heap[b]?) : DR W' b m g := fun j hj i hi => by
  have h1 := h j hj i hi
  have c : W'.cell? ⟨b, j * 8 + i, none⟩ = W.cell? ⟨b, j * 8 + i, none⟩ := by simp only [World.cell?, he]
  have f : W'.frozen? ⟨b, j * 8 + i, none⟩ = W.frozen? ⟨b, j * 8 + i, none⟩ := by simp only [World.frozen?, he]
  rw [c, f]; exact h1

/-- A round's own: what is kept beside it. -/
theorem range_levels {P : Program} {n : Nat} {g : Operand} {ps : Array Tmp} {assign body : Code} {Q : Exit → Act → World → Prop} {a : Act} {w : World}
    (h1 : 1 ≤ n) {gf : Nat} {lb : Array Value} (hg : a.eval g = .func (.func gf) #[] lb) (eg : ∀ args w, (callFunc gf args).run P w = .ok (.enter gf args) w) (hps : ps.size = 1)
    (lvl : Nat → Nat → List UInt8) (cnt : Nat → Nat) (H : Nat) (_hcnt : ∀ k, k ≤ H → 0 < cnt k)
    (hseq : ∀ (rec : Nat) (J : Nat → World → Prop) (W : World), Below w.heap.size w W →
      (∀ k b V0 V, J k V0 → k ≤ H → Below V0.heap.size V0 V → V0.heap.size ≤ b → DR V b (cnt k) (lvl k) → YieldAt Fence.wide (n - 1 - 1) P rec #[sl b (cnt k)] V fun e V' => e = .returned (.bool true) ∧ J (k + 1) V' ∧ V'.heap[b]? = V.heap[b]?) →
      J 0 W → CallsIn Fence.wide (n - 1) P gf (#[.func (.yield rec) #[] #[]] ++ lb) W fun e W' => (∃ v, e = .returned v) ∧ J (H + 1) W')
    (I : Nat → Nat → World → Prop) (hIb : ∀ {k S A A'}, I k S A → Below S A A' → I k S A')
    (hIo : ∀ {k S} {W : World} {r : Nat} {o : Obj} (o' : Obj), w.heap.size ≤ r → I k S W → W.heap[r]? = some o → o.isCells = false → I k S (W.putObj r o'))
    (h0 : I 0 w.heap.size w) (a₁ : Value → Act)
    (hassign : ∀ (l : Nat) (x : Value) (W : World) (K : Act → World → Prop), K (a₁ x) W →
      assign.wpIn (Fence.wide.inRound l) (n - 1 - 1) P (Exit.then K (fun _ _ _ => False)) { tmps := (ps.zip #[x]).foldl (fun t (p, v) => t.setIfInBounds p v) a.tmps, defers := [] } W)
    (hbody : ∀ (l k S b : Nat) (V : World), I k S V → S ≤ b → k ≤ H → DR V b (cnt k) (lvl k) →
      body.wpIn (Fence.wide.inRound l) (n - 1 - 1) P (onlyNormal fun W' => KeepsOthers V W' ∧ (∃ S', S' ≤ W'.heap.size ∧ I (k + 1) S' W') ∧ W'.heap[b]? = V.heap[b]?) (a₁ (sl b (cnt k))) V)
    (hdone : ∀ (D S : Nat) (W : World), I (H + 1) S W → w.heap.size ≤ D → W.heap[D]? = some (.deferred (some [])) → Q .normal { a with defers := { target := .collected D, args := #[] } :: a.defers } W) :
    (Code.rangeFunc g ps assign body).wpIn Fence.wide n P Q a w := by
  refine wpIn_rangeFunc (fun fn hfn => ?_)
  rw [show Fence.wide.round = none from rfl]
  obtain ⟨rc, hrc⟩ : ∃ rc : LoopState → Option Code → Loop, rc = fun st pe => { state := st, pending := pe, fn, tmps := a.tmps, params := ps, assign, body, defers := w.heap.size } := ⟨_, rfl⟩
  obtain ⟨W1, hW1⟩ : ∃ W1, (w.alloc (.deferred (some []))).alloc (.loop (rc .ready none)) = W1 := ⟨_, rfl⟩
  have hL1 : W1.heap[w.heap.size + 1]? = some (.loop (rc .ready none)) := by
    rw [← hW1]; have := World.alloc_heap_new (w.alloc (.deferred (some []))) (.loop (rc .ready none)); rwa [World.size_alloc] at this
  have hD1 : W1.heap[w.heap.size]? = some (.deferred (some [])) := by
    rw [← hW1]; exact (Below.heap_alloc _ _ _ (by simp)).trans (World.alloc_heap_new w _)
  have hb1 : Below w.heap.size w W1 := by
    rw [← hW1]; exact ((Below.refl _ w).alloc (Nat.le_refl _) _).alloc (by simp) _
  have hs1 : W1.heap.size = w.heap.size + 1 + 1 := by rw [← hW1]; simp
  refine ⟨w.heap.size + 1, [{ target := .collected w.heap.size, args := #[] }], W1, { target := .fn (.func gf) lb, args := #[.func (.yield (w.heap.size + 1)) #[] #[]] }, W1, gf,
    #[.func (.yield (w.heap.size + 1)) #[] #[]] ++ lb, W1, ?_, ?_, fun _ _ => trivial, ?_, fun _ => h1, ?_⟩
  · rw [← hW1, hrc]; exact run_enterLoop_outer _ _ _ _ _
  · simp only [resolve, hg]
    simp [go_sem]
  · simp [invoke, go_sem, eg]
  · refine (hseq (w.heap.size + 1) (fun k W => (∃ S, S ≤ W.heap.size ∧ I k S W) ∧ W.heap[w.heap.size + 1]? = some (.loop (rc .ready none)) ∧ W.heap[w.heap.size]? = some (.deferred (some []))) W1 hb1 ?_
      ⟨⟨w.heap.size, by omega, hIb h0 hb1⟩, hL1, hD1⟩).mono ?_
    · rintro k b V0 V ⟨⟨S, hS, hi0⟩, hl0, hd0⟩ hk hB hbS hdr
      have hi := hIb hi0 (hB.mono hS)
      have hlt0 : w.heap.size + 1 < V0.heap.size := (Array.getElem?_eq_some_iff.1 hl0).1
      have hl : V.heap[w.heap.size + 1]? = some (.loop (rc .ready none)) := (hB.block _ hlt0).trans hl0
      have hd : V.heap[w.heap.size]? = some (.deferred (some [])) := (hB.block _ (by omega)).trans hd0
      have hlt : w.heap.size + 1 < V.heap.size := (Array.getElem?_eq_some_iff.1 hl).1
      have hne : b ≠ w.heap.size + 1 := by omega
      have hy := run_yield (P := P) (args := #[sl b (cnt k)]) hl (by rw [hrc]; exact hps.symm)
      rw [hrc] at hy
      refine ⟨fn, _, assign, body, hy, roundIn_of_wpIn hfn (hassign _ (sl b (cnt k)) V _ ⟨_, run_beginRound hl (by rw [hrc]), ?_⟩)⟩
      obtain ⟨V1, hV1⟩ : ∃ V1, V.putObj (w.heap.size + 1) (.loop { rc .ready none with state := .busy }) = V1 := ⟨_, rfl⟩
      have hl1 : V1.heap[w.heap.size + 1]? = some (.loop { rc .ready none with state := .busy }) := by rw [← hV1]; exact World.putObj_heap_same hlt
      have hd1 : V1.heap[w.heap.size]? = some (.deferred (some [])) := by rw [← hV1]; exact (World.putObj_heap_other (by omega)).trans hd
      have hb1 : V1.heap[b]? = V.heap[b]? := by rw [← hV1]; exact World.putObj_heap_other (fun e => hne e)
      have hi1 : I k S V1 := by rw [← hV1]; exact hIo _ (by omega) hi hl rfl
      rw [hV1]
      refine wpIn_mono (hbody _ k S b V1 hi1 (Nat.le_trans hS hbS) hk (dr_same hdr hb1)) ?_
      rintro e a3 W3 hp
      cases e with
      | normal =>
        obtain ⟨hk3, ⟨S', hS', hi3⟩, hb3⟩ := hp
        have hl3 := hk3.same _ _ hl1 rfl
        have hd3 := hk3.same _ _ hd1 rfl
        have hlt3 : w.heap.size + 1 < W3.heap.size := (Array.getElem?_eq_some_iff.1 hl3).1
        have he := run_endRound (P := P) none hl3
        refine ⟨_, _, he, rfl, ⟨⟨S', by simpa using hS', hIo _ (by omega) hi3 hl3 rfl⟩, ?_, ?_⟩, ?_⟩
        · rw [World.putObj_heap_same hlt3, hrc]; rfl
        · exact (World.putObj_heap_other (by omega)).trans hd3
        · exact (World.putObj_heap_other (fun e => hne e)).trans (hb3.trans hb1)
      | ret => exact hp.elim
      | exit id => exact hp.elim
      | goto t => exact hp.elim
      | panic ch => exact hp.elim
      | outgrown => exact hp.elim
    · rintro e W2 ⟨⟨v, rfl⟩, ⟨S, hS, hi⟩, hl, hd⟩
      have he := run_endLoop (P := P) hl (by rw [hrc]; simp)
      rw [hrc] at he
      exact ⟨none, _, he, hdone w.heap.size S _ (hIo _ (by omega) hi hl rfl) (Nat.le_refl _) ((World.putObj_heap_other (by omega)).trans hd)⟩
end Go.Proofs.Ytflpemagbempaaa.Dg
