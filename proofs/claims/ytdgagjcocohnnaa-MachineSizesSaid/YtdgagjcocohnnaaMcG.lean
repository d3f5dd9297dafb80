/-
  Layer 9 (machine): what a run does, as functions; a run over an outline in memory.
-/
import Derived.Test.YtdgagjcocohnnaaMcF
import Derived.Test.YtdgagjcocohnnaaOtT
namespace Go.Proofs.Ytdgagjcocohnnaa.Mc
open Go.RowKit
open Go.Proofs.Ytdgagjcocohnnaa.Ot (Pt PtAt PO OO pre pre_mono po_grown po_below oo_below)
/-- What changes as a run goes on: the stack, the steps, the points by their numbers. -/
structure MS where
  l : List Int
  st : Int
  f : Nat → Pt
inductive Res where
  | ok (s : MS)
  | er (e : Int)
/-- What an operation answers. -/
def doR (k : Nat) (n sz a b : Int) (p : Pt) : Int :=
  match k with
  | 1 => n
  | 2 => a + b
  | 3 => a - b
  | 4 => min a b
  | 5 => max a b
  | 6 => -a
  | 7 => a / 2
  | 8 => 64 * ((2 * a + 64) / 128)
  | 9 => sz
  | 10 => p.x
  | 11 => p.y
  | 14 => if 0 < a then 1 else 0
  | 15 => n
  | _ => 0
def setP (k : Nat) (a : Int) (p : Pt) : Pt := if k = 12 then ⟨a, p.y, p.o⟩ else if k = 13 then ⟨p.x, a, p.o⟩ else p
def lowL (k : Nat) (l : List Int) : List Int := l.take (l.length - (kd k).ta)
def topL (k : Nat) (l : List Int) : List Int := l.drop (l.length - (kd k).ta)
def resR (sz : Int) (k : Nat) (n : Int) (s : MS) : Int := doR k n sz ((topL k s.l).getD 0 0) ((topL k s.l).getD 1 0) (s.f n.toNat)
def nxK (sz : Int) (k : Nat) (n : Int) (s : MS) : MS :=
  ⟨if (kd k).pu = 0 then lowL k s.l else lowL k s.l ++ [lim (resR sz k n s)], s.st + 1, if k = 12 ∨ k = 13 then fun j => if j = n.toNat then setP k ((topL k s.l).getD 0 0) (s.f j) else s.f j else s.f⟩
def nxS (sz : Int) (p : Opn) (s : MS) : MS := nxK sz p.c.toNat p.n s
def rndS (sz : Int) (p : Opn) (s : MS) : Int := if (kd p.c.toNat).pu = 0 then resR sz p.c.toNat p.n s else 0
/-- A function, some times over. -/
def itr (g : MS → Res) : Nat → MS → Res
  | 0, s => .ok s
  | n + 1, s => match g s with
    | .ok s' => itr g n s'
    | .er e => .er e
def bindR (r : Res) (g : MS → Res) : Res := match r with
  | .ok s => g s
  | .er e => .er e
def runF (np sz : Int) : Nat → List Opn → Int → MS → Res
  | 0, _, _, s => .ok s
  | _ + 1, [], _, s => .ok s
  | f + 1, p :: rest, enc, s =>
    if chkE np s.l.length s.st p rest.length enc = 0 then
      bindR (itr (runF np sz f (rest.take (blkL p).toNat) (enc + 1)) (rndS sz p s).toNat (nxS sz p s)) (runF np sz f (rest.drop (blkL p).toNat) enc)
    else .er (chkE np s.l.length s.st p rest.length enc)
theorem runF_fuel (np sz : Int) : ∀ (f : Nat) (l : List Opn), l.length ≤ f → ∀ (f2 : Nat), l.length ≤ f2 → ∀ (enc : Int), runF np sz f l enc = runF np sz f2 l enc
  | 0, [], _, 0, _, _ => rfl
  | 0, [], _, _ + 1, _, _ => funext fun _ => rfl
  | 0, _ :: _, h, _, _, _ => absurd h (by simp)
  | _ + 1, [], _, 0, _, _ => funext fun _ => rfl
  | _ + 1, [], _, _ + 1, _, _ => funext fun _ => rfl
  | _ + 1, _ :: _, _, 0, h, _ => absurd h (by simp)
  | f + 1, p :: rest, h, f2 + 1, h2, enc => by
    have h3 : rest.length ≤ f := by simpa using h
    have h4 : rest.length ≤ f2 := by simpa using h2
    have t1 : (rest.take (blkL p).toNat).length ≤ f := by rw [List.length_take]; omega
    have t2 : (rest.take (blkL p).toNat).length ≤ f2 := by rw [List.length_take]; omega
    have d1 : (rest.drop (blkL p).toNat).length ≤ f := by rw [List.length_drop]; omega
    have d2 : (rest.drop (blkL p).toNat).length ≤ f2 := by rw [List.length_drop]; omega
    funext s
    rw [runF, runF, runF_fuel np sz f _ t1 f2 t2, runF_fuel np sz f _ d1 f2 d2]
/-- What operations leave. -/
def runL (np sz : Int) (l : List Opn) (enc : Int) (s : MS) : Res := runF np sz l.length l enc s
theorem runL_nil (np sz enc : Int) (s : MS) : runL np sz [] enc s = .ok s := rfl
theorem runL_err {np sz enc : Int} {s : MS} {p : Opn} {rest : List Opn} (h : chkE np s.l.length s.st p rest.length enc ≠ 0) : runL np sz (p :: rest) enc s = .er (chkE np s.l.length s.st p rest.length enc) := by
  unfold runL
  rw [List.length_cons, runF, if_neg h]
theorem runL_go {np sz enc : Int} {s : MS} {p : Opn} {rest : List Opn} (h : chkE np s.l.length s.st p rest.length enc = 0) :
    runL np sz (p :: rest) enc s = bindR (itr (runL np sz (rest.take (blkL p).toNat) (enc + 1)) (rndS sz p s).toNat (nxS sz p s)) (runL np sz (rest.drop (blkL p).toNat) enc) := by
  have t1 : (rest.take (blkL p).toNat).length ≤ rest.length := by rw [List.length_take]; omega
  have d1 : (rest.drop (blkL p).toNat).length ≤ rest.length := by rw [List.length_drop]; omega
  show runF np sz (rest.length + 1) (p :: rest) enc s = bindR (itr (runF np sz (rest.take (blkL p).toNat).length (rest.take (blkL p).toNat) (enc + 1)) (rndS sz p s).toNat (nxS sz p s)) (runF np sz (rest.drop (blkL p).toNat).length (rest.drop (blkL p).toNat) enc)
  rw [runF, if_pos h, runF_fuel np sz _ _ t1 _ (Nat.le_refl _), runF_fuel np sz _ _ d1 _ (Nat.le_refl _)]
/-- What no error means. -/
theorem chk_no {np h st : Int} {p : Opn} {left enc : Int} (e : chkE np h st p left enc = 0) :
    st < 2000 ∧ 1 ≤ p.c ∧ p.c ≤ 15 ∧ (hasB p = true → fitB p left = true ∧ enc < 3) ∧ ((kd p.c.toNat).ta : Int) ≤ h ∧ h - (kd p.c.toNat).ta + (kd p.c.toNat).pu ≤ 8 ∧ ((kd p.c.toNat).oP = true → 0 ≤ p.n ∧ p.n < np) := by
  unfold chkE at e
  split at e
  · exact absurd e (by decide)
  rename_i h1
  split at e
  · exact absurd e (by decide)
  rename_i h2
  split at e
  · exact absurd e (by decide)
  split at e
  · exact absurd e (by decide)
  rename_i h4
  split at e
  · exact absurd e (by decide)
  rename_i h5
  split at e
  · exact absurd e (by decide)
  rename_i h6
  split at e
  · exact absurd e (by decide)
  rename_i h7
  rw [decide_eq_true_iff] at h1
  rw [Bool.or_eq_true, decide_eq_true_iff, decide_eq_true_iff] at h2
  rw [Bool.or_eq_true, decide_eq_true_iff, decide_eq_true_iff] at h6
  refine ⟨by omega, by omega, by omega, fun hb => ?_, by omega, by omega, fun ho => ?_⟩
  · rw [hb] at h4 h5
    refine ⟨?_, ?_⟩
    · rcases hf : fitB p left with _ | _
      · rw [hf] at h4; exact absurd rfl h4
      · rfl
    · rw [Bool.true_and, decide_eq_true_iff] at h5
      omega
  · rw [ho, Bool.true_and, Bool.or_eq_true, decide_eq_true_iff, decide_eq_true_iff] at h7
    omega
/-- The contour and the index of a point. -/
theorem pre_at (ns : Nat → Nat) : ∀ (N n : Nat), n < pre ns N → ∃ k i, k < N ∧ i < ns k ∧ pre ns k + i = n
  | 0, n, h => absurd h (by unfold pre; omega)
  | N + 1, n, h => by
    by_cases h2 : n < pre ns N
    · obtain ⟨k, i, h3, h4, h5⟩ := pre_at ns N n h2
      exact ⟨k, i, by omega, h4, h5⟩
    · rw [pre] at h
      exact ⟨N, n - pre ns N, by omega, by omega, by omega⟩
theorem pre_one {ns : Nat → Nat} {k i k' i' : Nat} (hi : i < ns k) (hi' : i' < ns k') (e : pre ns k + i = pre ns k' + i') : k = k' ∧ i = i' := by
  have h : k = k' := by
    rcases Nat.lt_trichotomy k k' with h | h | h
    · have := pre_mono ns (show k + 1 ≤ k' from h)
      rw [pre] at this
      omega
    · exact h
    · have := pre_mono ns (show k' + 1 ≤ k from h)
      rw [pre] at this
      omega
  subst h
  exact ⟨rfl, by omega⟩
/-- Nothing changes but the run's block and those of points. -/
structure Fr (B N : Nat) (ns Bk : Nat → Nat) (w w' : World) : Prop where
  os : w'.os = w.os
  tape : w'.tape = w.tape
  output : w'.output = w.output
  size : w.heap.size ≤ w'.heap.size
  block : ∀ i, i < w.heap.size → i ≠ B → (∀ k, k < N → 0 < ns k → Bk k ≠ i) → w'.heap[i]? = w.heap[i]?
theorem fr_refl {B N : Nat} {ns Bk : Nat → Nat} (w : World) : Fr B N ns Bk w w := ⟨rfl, rfl, rfl, Nat.le_refl _, fun _ _ _ _ => rfl⟩
theorem fr_trans {B N : Nat} {ns Bk : Nat → Nat} {w u v : World} (h1 : Fr B N ns Bk w u) (h2 : Fr B N ns Bk u v) : Fr B N ns Bk w v :=
  ⟨h2.os.trans h1.os, h2.tape.trans h1.tape, h2.output.trans h1.output, Nat.le_trans h1.size h2.size, fun i hi a b => (h2.block i (Nat.lt_of_lt_of_le hi h1.size) a b).trans (h1.block i hi a b)⟩
theorem fr_below {B N : Nat} {ns Bk : Nat → Nat} {w u : World} (h : Below w.heap.size w u) : Fr B N ns Bk w u := ⟨h.os, h.tape, h.output, h.size, fun i hi _ _ => h.block i hi⟩
theorem fr_grown {B N : Nat} {ns Bk : Nat → Nat} {w u : World} (h : w.grownBy u (some B)) : Fr B N ns Bk w u := ⟨h.os, h.tape, h.output, h.size, fun i hi a _ => h.block i hi (by intro e; cases e; exact a rfl)⟩
theorem fr_set {B N : Nat} {ns Bk : Nat → Nat} {k : Nat} (hk : k < N) (h0 : 0 < ns k) (w : World) (o : Nat) (v : Value) : Fr B N ns Bk w (w.setCell ⟨Bk k, o, none⟩ v) := by
  have h := gs (gr w (Bk k)) (o := o) v
  exact ⟨h.os, h.tape, h.output, h.size, fun i hi _ b => h.block i hi (by intro e; cases e; exact b k hk h0 rfl)⟩
theorem fr_cell {B N : Nat} {ns Bk : Nat → Nat} {w u : World} (h : Fr B N ns Bk w u) {b o : Nat} {v : Value} (hc : w.cell? ⟨b, o, none⟩ = some v) (h1 : b ≠ B) (h2 : ∀ k, k < N → 0 < ns k → Bk k ≠ b) : u.cell? ⟨b, o, none⟩ = some v := by
  have e := h.block b (block_lt_of_cell hc) h1 h2
  unfold World.cell? at hc ⊢
  rw [e]; exact hc
/-- A run over an outline. -/
structure Mac (n₀ S N np pc B : Nat) (pa : Option Addr) (ns Bk : Nat → Nat) (sz : Int) (s : MS) (V : World) : Prop where
  ru : RuA B pa np pc sz s.l s.st V
  bw : B < V.heap.size
  b0 : n₀ ≤ B
  oo : OO V n₀ S N ns Bk (fun k i => s.f (pre ns k + i))
  sB : 0 < N → S ≠ B
  nB : ∀ k, k < N → 0 < ns k → Bk k ≠ B
  np : np = pre ns N
  pp : ∀ k i, k < N → i < ns k → ∃ qa oa, pa = some ⟨qa, oa, none⟩ ∧ V.cell? ⟨qa, oa + (pre ns k + i), none⟩ = some (.pointer (some ⟨Bk k, i * 3, none⟩)) ∧ qa ≠ B ∧ ∀ k', k' < N → 0 < ns k' → Bk k' ≠ qa
  lim : ∀ x ∈ s.l, L30 x
  st : 0 ≤ s.st ∧ s.st ≤ 2000
theorem fr_lo {n₀ S N np pc B : Nat} {pa : Option Addr} {ns Bk : Nat → Nat} {sz : Int} {s : MS} {V V' : World} (M : Mac n₀ S N np pc B pa ns Bk sz s V) (h : Fr B N ns Bk V V') (hn : n₀ ≤ V.heap.size) : Below n₀ V V' :=
  ⟨h.os, h.tape, h.output, h.size, fun i hi => h.block i (by omega) (by have := M.b0; omega) (fun k hk h0 e => by have := (M.oo.far k hk h0).1; omega)⟩
theorem mac_below {n₀ S N np pc B : Nat} {pa : Option Addr} {ns Bk : Nat → Nat} {sz : Int} {s : MS} {V V' : World} (M : Mac n₀ S N np pc B pa ns Bk sz s V) (hB : Below V.heap.size V V') : Mac n₀ S N np pc B pa ns Bk sz s V' :=
  ⟨ru_below M.ru hB, Nat.lt_of_lt_of_le M.bw hB.size, M.b0, oo_below M.oo hB, M.sB, M.nB, M.np, fun k i hk hi => by
    obtain ⟨qa, oa, e, h1, h2, h3⟩ := M.pp k i hk hi
    exact ⟨qa, oa, e, kc hB h1, h2, h3⟩, M.lim, M.st⟩
theorem mac_next {n₀ S N np pc B : Nat} {pa : Option Addr} {ns Bk : Nat → Nat} {sz : Int} {s : MS} {V V' : World} (M : Mac n₀ S N np pc B pa ns Bk sz s V) (hG : V.grownBy V' (some B)) {l : List Int} {st : Int} (hR : RuA B pa np pc sz l st V') (hl : ∀ x ∈ l, L30 x) (hst : 0 ≤ st ∧ st ≤ 2000) :
    Mac n₀ S N np pc B pa ns Bk sz ⟨l, st, s.f⟩ V' :=
  ⟨hR, Nat.lt_of_lt_of_le M.bw hG.size, M.b0, ⟨M.oo.lo, fun k hk => by
    obtain ⟨a, c, e, h1, h2, h3⟩ := M.oo.cell k hk
    exact ⟨a, c, gc hG e (M.sB (by omega)), h1, h2, h3⟩, fun k hk => po_grown (M.oo.pts k hk) hG (fun h0 => M.nB k hk h0), M.oo.far, M.oo.own⟩, M.sB, M.nB, M.np, fun k i hk hi => by
    obtain ⟨qa, oa, e, h1, h2, h3⟩ := M.pp k i hk hi
    exact ⟨qa, oa, e, gc hG h1 h2, h2, h3⟩, hl, hst⟩
theorem po_x {w : World} {b n k : Nat} {f : Nat → Pt} (h : PO w b n f) (hk : k < n) (v : Int) : PO (w.setCell ⟨b, k * 3, none⟩ (.int .i64 v)) b n (fun i => if i = k then ⟨v, (f i).y, (f i).o⟩ else f i) := fun i hi => by
  obtain ⟨⟨h1, h2, h3⟩, f1, f2, f3⟩ := h i hi
  obtain ⟨⟨k1, k2, k3⟩, e1, e2, e3⟩ := h k hk
  refine ⟨?_, fz_set f1, fz_set f2, fz_set f3⟩
  by_cases e : i = k
  · subst e
    simp only [if_true]
    exact ⟨same_cell h1, far_cell h2 (.inr (by omega)), far_cell h3 (.inr (by omega))⟩
  · simp only [if_neg e]
    exact ⟨far_cell h1 (.inr (by omega)), far_cell h2 (.inr (by omega)), far_cell h3 (.inr (by omega))⟩
theorem po_y {w : World} {b n k : Nat} {f : Nat → Pt} (h : PO w b n f) (hk : k < n) (v : Int) : PO (w.setCell ⟨b, k * 3 + 1, none⟩ (.int .i64 v)) b n (fun i => if i = k then ⟨(f i).x, v, (f i).o⟩ else f i) := fun i hi => by
  obtain ⟨⟨h1, h2, h3⟩, f1, f2, f3⟩ := h i hi
  obtain ⟨⟨k1, k2, k3⟩, e1, e2, e3⟩ := h k hk
  refine ⟨?_, fz_set f1, fz_set f2, fz_set f3⟩
  by_cases e : i = k
  · subst e
    simp only [if_true]
    exact ⟨far_cell h1 (.inr (by omega)), same_cell h2, far_cell h3 (.inr (by omega))⟩
  · simp only [if_neg e]
    exact ⟨far_cell h1 (.inr (by omega)), far_cell h2 (.inr (by omega)), far_cell h3 (.inr (by omega))⟩
theorem po_congr' {w : World} {b n : Nat} {f g : Nat → Pt} (h : PO w b n f) (e : ∀ i, i < n → f i = g i) : PO w b n g := fun i hi => by rw [← e i hi]; exact h i hi
theorem mac_set {n₀ S N np pc B : Nat} {pa : Option Addr} {ns Bk : Nat → Nat} {sz : Int} {s : MS} {V : World} (M : Mac n₀ S N np pc B pa ns Bk sz s V) {k i : Nat} (hk : k < N) (hi : i < ns k) (c : Nat) (hc : c = 12 ∨ c = 13) (v : Int) (d : Nat) (hd : d = i * 3 + (c - 12)) :
    Mac n₀ S N np pc B pa ns Bk sz ⟨s.l, s.st, fun j => if j = pre ns k + i then setP c v (s.f j) else s.f j⟩ (V.setCell ⟨Bk k, d, none⟩ (.int .i64 v)) := by
  have h0 : 0 < ns k := by omega
  have hG : V.grownBy (V.setCell ⟨Bk k, d, none⟩ (.int .i64 v)) (some (Bk k)) := gs (gr V (Bk k)) _
  refine ⟨ru_grown M.ru hG (fun e => M.nB k hk h0 e.symm), Nat.lt_of_lt_of_le M.bw hG.size, M.b0, ⟨M.oo.lo, fun j hj => ?_, fun j hj => ?_, M.oo.far, M.oo.own⟩, M.sB, M.nB, M.np, fun j i' hj hi' => ?_, M.lim, M.st⟩
  · obtain ⟨a, c', e, h1, h2, h3⟩ := M.oo.cell j hj
    exact ⟨a, c', gc hG e (fun e => (M.oo.far k hk h0).2 e.symm), h1, h2, h3⟩
  · by_cases e : j = k
    · subst e
      have hp := M.oo.pts j hj
      rcases hc with rfl | rfl
      · obtain rfl : d = i * 3 := by omega
        refine po_congr' (po_x hp hi v) (fun i' hi' => ?_)
        simp only
        by_cases e : i' = i
        · subst e; simp [setP]
        · rw [if_neg e, if_neg (fun h => e (by omega))]
      · obtain rfl : d = i * 3 + 1 := by omega
        refine po_congr' (po_y hp hi v) (fun i' hi' => ?_)
        simp only
        by_cases e : i' = i
        · subst e; simp [setP]
        · rw [if_neg e, if_neg (fun h => e (by omega))]
    · refine po_congr' (po_grown (M.oo.pts j hj) hG (fun hj0 hb => e (M.oo.own j k hj hk hj0 h0 hb))) (fun i' hi' => ?_)
      simp only
      rw [if_neg (fun h => e (pre_one hi' hi h).1)]
  · obtain ⟨qa, oa, e, h1, h2, h3⟩ := M.pp j i' hj hi'
    exact ⟨qa, oa, e, gc hG h1 (fun e => h3 k hk h0 e.symm), h2, h3⟩
end Go.Proofs.Ytdgagjcocohnnaa.Mc
