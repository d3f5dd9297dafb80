/-
  Layer 9 (machine): step, for the operations that set a point.
-/
import Derived.Test.YtdgagjcocohnnaaMcE
namespace Go.Proofs.Ytdgagjcocohnnaa.Mc
open Go.RowKit
set_option maxRecDepth 100000 in
set_option maxHeartbeats 16000000 in
theorem step_set (B : Nat) (pa : Option Addr) (np pc : Nat) (sz : Int) (l : List Int) (st : Int) (k : Nat) (n m : Int) (hk1 : 1 ≤ k) (hk : k < 16) (l' t : List Int) (hl : l = l' ++ t) (hta : (kd k).ta = t.length) (w : World) (hst : 0 ≤ st ∧ st ≤ 10000) (hBw : B < w.heap.size) (hR : RuA B pa np pc sz l st w) (hen : Enters Try.prog (kd k).fn) (pt : Option Addr) (hpu : (kd k).pu = 1 → l'.length < 8) (hpt : (kd k).oP = false → pt = none) (hpl : (kd k).oP = true → ∃ (qa oa nn : Nat), pa = some ⟨qa, oa, none⟩ ∧ n = (nn : Int) ∧ nn < np ∧ w.cell? ⟨qa, oa + nn, none⟩ = some (.pointer pt) ∧ qa ≠ B)
    (hoP : (kd k).oP = true) (hp0 : (kd k).pu = 0) (aP : Int) (pq pf : Nat) (hpq : pq < w.heap.size)
    (hdo : ∀ W, w.grownBy W (some B) → Calls Try.prog (kd k).fn #[useV n sz (t.getD 0 0) (t.getD 1 0) pt] W (fun e w' => e = .returned (.int .i64 0) ∧ ∃ V, Below W.heap.size W V ∧ w' = V.setCell ⟨pq, pf, none⟩ (.int .i64 aP))) :
    Calls Try.prog 53 #[.pointer (some ⟨B, 0, none⟩), opV ⟨k, n, m⟩] w fun e w' => e = .returned (.int .i64 0) ∧ ∃ V, w.grownBy V (some B) ∧ RuA B pa np pc sz l' (st + 1) V ∧ w' = V.setCell ⟨pq, pf, none⟩ (.int .i64 aP) := by
  have HOP := Lib.hid hoP
  have HP0 := Lib.hid hp0
  clear hoP hp0
  have HDO := Lib.hid hdo
  have HEN := Lib.hid hen
  have HPU := Lib.hid hpu
  have HPT := Lib.hid hpt
  have HPL := Lib.hid hpl
  have PU1 := Lib.hid (kd_in k).2
  clear hdo hen hpu hpt hpl
  have hlen := hR.len
  rw [hl, List.length_append] at hlen
  obtain ⟨h', hh'⟩ : ∃ h', l'.length = h' := ⟨_, rfl⟩
  have ht2 : t.length ≤ 2 := by rw [← hta]; exact (kd_in k).1
  obtain ⟨ta, hta'⟩ : ∃ ta, t.length = ta := ⟨_, rfl⟩
  rw [hh', hta'] at hlen
  rw [hta'] at ht2 hta
  obtain ⟨e0, e1, e2⟩ := op3 w k n m
  unfold opV
  have hB1 : Below w.heap.size w (w.alloc (.cells #[.int .i64 k, .int .i64 n, .int .i64 m] 45)) := ba (Below.refl _ _) _
  have R1 := ru_below hR hB1
  obtain ⟨q0, q1, q2, q3, q4, q5⟩ := R1.kk k hk1 hk
  have c97 := R1.c97
  have c98 := R1.c98
  have f98 := R1.f98
  have c107 := R1.c107
  have f107 := R1.f107
  rw [hta] at q3
  have HT := Lib.hid hta
  have HL := Lib.hid hl
  have HTT := Lib.hid hta'
  have HK := Lib.hid (And.intro hk1 hk)
  have HR := Lib.hid hR
  have k2 : (0 : Int) ≤ (k : Int) := by omega
  have k3 : (k : Int) < 16 := by omega
  have hne : ¬ B = w.heap.size := by omega
  have hsf : ∀ (a : Addr) (f : Fn) (x y : Array Value) (md : Mode) (W : World), (store a (.func f x y) md).run Try.prog W = stored Try.prog W a (.func f x y) md := fun a f x y md W => run_store _ W a _ md rfl
  clear hR R1 hta hl hk hk1 hta'
  go_enter Try.func53, Try.ntmps53
  go_upto_region 2 with (fail)
  clear q0 q1 q2 q3 q4 q5 c97 c98 f98 c107 f107 e0 e1 e2 hB1
  have R2 : RuA B pa np pc sz l (st + 1) ((w.setCell ⟨B, 98, none⟩ (.int .i64 (st + 1))).alloc (.cells #[.int .i64 k, .int .i64 n, .int .i64 m] 45)) := ru_below (ru_st HR.out) (ba (Below.refl _ _) _)
  have G2 : w.grownBy ((w.setCell ⟨B, 98, none⟩ (.int .i64 (st + 1))).alloc (.cells #[.int .i64 k, .int .i64 n, .int .i64 m] 45)) (some B) := ga (gs (gr w B) _) _
  obtain ⟨e0, e1, e2⟩ := op3 (w.setCell ⟨B, 98, none⟩ (.int .i64 (st + 1))) k n m
  rw [World.size_setCell] at e0 e1 e2
  have hs2 : w.heap.size < ((w.setCell ⟨B, 98, none⟩ (.int .i64 (st + 1))).alloc (.cells #[.int .i64 k, .int .i64 n, .int .i64 m] 45)).heap.size := block_lt_of_cell e0
  generalize ((w.setCell ⟨B, 98, none⟩ (.int .i64 (st + 1))).alloc (.cells #[.int .i64 k, .int .i64 n, .int .i64 m] 45)) = V2 at *
  obtain ⟨q0, q1, q2, q3, q4, q5⟩ := R2.kk k HK.out.1 HK.out.2
  rw [HT.out] at q3
  have c97 := R2.c97
  have E0 : ∀ W, Below V2.heap.size V2 W → W.cell? ⟨w.heap.size, 0, none⟩ = some (.int .i64 k) := fun _ h => kc h e0
  have Q0 : ∀ W, Below V2.heap.size V2 W → W.cell? ⟨B, k * 6, none⟩ = some (.bool (kd k).uN) := fun _ h => kc h q0
  have Q1 : ∀ W, Below V2.heap.size V2 W → W.cell? ⟨B, k * 6 + 1, none⟩ = some (.bool (kd k).uM) := fun _ h => kc h q1
  have Q2 : ∀ W, Below V2.heap.size V2 W → W.cell? ⟨B, k * 6 + 2, none⟩ = some (.bool (kd k).oP) := fun _ h => kc h q2
  have Q3 : ∀ W, Below V2.heap.size V2 W → W.cell? ⟨B, k * 6 + 3, none⟩ = some (.int .i64 ta) := fun _ h => kc h q3
  have Q4 : ∀ W, Below V2.heap.size V2 W → W.cell? ⟨B, k * 6 + 4, none⟩ = some (.int .i64 (kd k).pu) := fun _ h => kc h q4
  have Q5 : ∀ W, Below V2.heap.size V2 W → W.cell? ⟨B, k * 6 + 5, none⟩ = some (.func (Fn.func (kd k).fn) #[] #[]) := fun _ h => kc h q5
  generalize (kd k).uN = uN at *
  generalize (kd k).uM = uM at *
  generalize (kd k).oP = oP at *
  generalize (kd k).pu = pu at *
  generalize (kd k).fn = fn at *
  clear q0 q1 q2 q3 q4 q5
  go_region_held3 (fun w' => Below V2.heap.size V2 w') (first
    | (with_reducible exact bd1 (Below.refl _ _))
    | (with_reducible exact bd1 (ba (Below.refl _ _) _))
    | (with_reducible exact ba (bd1 (Below.refl _ _)) _)
    | (with_reducible exact ba (by assumption) _)
    | (with_reducible assumption))
    (fail)
  have b3 : Below V2.heap.size V2 (V2.alloc (.cells #[.bool uN, .bool uM, .bool oP, .int .i64 ta, .int .i64 pu, .func (Fn.func fn) #[] #[]] 64)).drew := bd1 (ba (Below.refl _ _) _)
  have R3 := ru_below R2 b3
  have G3 := gt G2 b3
  have y1 := kc b3 e1
  have g2 : (V2.alloc (.cells #[.bool uN, .bool uM, .bool oP, .int .i64 ta, .int .i64 pu, .func (Fn.func fn) #[] #[]] 64)).drew.cell? ⟨V2.heap.size, 2, none⟩ = some (.bool oP) := by go_cell
  have g3 : (V2.alloc (.cells #[.bool uN, .bool uM, .bool oP, .int .i64 ta, .int .i64 pu, .func (Fn.func fn) #[] #[]] 64)).drew.cell? ⟨V2.heap.size, 3, none⟩ = some (.int .i64 ta) := by go_cell
  have g4 : (V2.alloc (.cells #[.bool uN, .bool uM, .bool oP, .int .i64 ta, .int .i64 pu, .func (Fn.func fn) #[] #[]] 64)).drew.cell? ⟨V2.heap.size, 4, none⟩ = some (.int .i64 pu) := by go_cell
  have g5 : (V2.alloc (.cells #[.bool uN, .bool uM, .bool oP, .int .i64 ta, .int .i64 pu, .func (Fn.func fn) #[] #[]] 64)).drew.cell? ⟨V2.heap.size, 5, none⟩ = some (.func (Fn.func fn) #[] #[]) := by go_cell
  clear E0 Q0 Q1 Q2 Q3 Q4 Q5 b3 e0 e1 e2 R2 G2 c97
  generalize (V2.alloc (.cells #[.bool uN, .bool uM, .bool oP, .int .i64 ta, .int .i64 pu, .func (Fn.func fn) #[] #[]] 64)).drew = V3 at *
  have hsk : B < V2.heap.size ∧ w.heap.size < V2.heap.size := by omega
  generalize V2.heap.size = Bk at *
  have c97 := R3.c97
  have Y1 : ∀ W, Below V3.heap.size V3 W → W.cell? ⟨w.heap.size, 1, none⟩ = some (.int .i64 n) := fun _ h => kc h y1
  have C97 : ∀ W, Below V3.heap.size V3 W → W.cell? ⟨B, 97, none⟩ = some (.int .i64 sz) := fun _ h => kc h c97
  go_upto_region 3 with (fail)
  go_region_held3 (fun w' => Below V3.heap.size V3 w') (first
    | (with_reducible exact bd1 (Below.refl _ _))
    | (with_reducible exact bd1 (ba (Below.refl _ _) _))
    | (with_reducible exact ba (bd1 (Below.refl _ _)) _)
    | (with_reducible exact ba (by assumption) _)
    | (with_reducible assumption))
    (fail)
  have b4 : Below V3.heap.size V3 (V3.alloc (.cells #[.int .i64 n, .int .i64 sz, .int .i64 0, .int .i64 0, .pointer none] 88)).drew := bd1 (ba (Below.refl _ _) _)
  have R4 := ru_below R3 b4
  have G4 := gt G3 b4
  have hu : V3.heap.size < (V3.alloc (.cells #[.int .i64 n, .int .i64 sz, .int .i64 0, .int .i64 0, .pointer none] 88)).drew.heap.size := by simp
  have hk3 : Bk < V3.heap.size := block_lt_of_cell g2
  replace y1 := kc b4 y1
  replace g2 := kc b4 g2
  replace g3 := kc b4 g3
  replace g4 := kc b4 g4
  replace g5 := kc b4 g5
  have u0 : (V3.alloc (.cells #[.int .i64 n, .int .i64 sz, .int .i64 0, .int .i64 0, .pointer none] 88)).drew.cell? ⟨V3.heap.size, 0, none⟩ = some (.int .i64 n) := by go_cell
  have u1 : (V3.alloc (.cells #[.int .i64 n, .int .i64 sz, .int .i64 0, .int .i64 0, .pointer none] 88)).drew.cell? ⟨V3.heap.size, 1, none⟩ = some (.int .i64 sz) := by go_cell
  have u2 : (V3.alloc (.cells #[.int .i64 n, .int .i64 sz, .int .i64 0, .int .i64 0, .pointer none] 88)).drew.cell? ⟨V3.heap.size, 2, none⟩ = some (.int .i64 0) := by go_cell
  have u3 : (V3.alloc (.cells #[.int .i64 n, .int .i64 sz, .int .i64 0, .int .i64 0, .pointer none] 88)).drew.cell? ⟨V3.heap.size, 3, none⟩ = some (.int .i64 0) := by go_cell
  have u4 : (V3.alloc (.cells #[.int .i64 n, .int .i64 sz, .int .i64 0, .int .i64 0, .pointer none] 88)).drew.cell? ⟨V3.heap.size, 4, none⟩ = some (.pointer none) := by go_cell
  have v2 : (V3.alloc (.cells #[.int .i64 n, .int .i64 sz, .int .i64 0, .int .i64 0, .pointer none] 88)).drew.frozen? ⟨V3.heap.size, 2, none⟩ = false := by go_cell
  have v3 : (V3.alloc (.cells #[.int .i64 n, .int .i64 sz, .int .i64 0, .int .i64 0, .pointer none] 88)).drew.frozen? ⟨V3.heap.size, 3, none⟩ = false := by go_cell
  have v4 : (V3.alloc (.cells #[.int .i64 n, .int .i64 sz, .int .i64 0, .int .i64 0, .pointer none] 88)).drew.frozen? ⟨V3.heap.size, 4, none⟩ = false := by go_cell
  clear Y1 C97 b4 R3 G3 c97
  generalize (V3.alloc (.cells #[.int .i64 n, .int .i64 sz, .int .i64 0, .int .i64 0, .pointer none] 88)).drew = V4 at *
  generalize V3.heap.size = Bu at *
  have n1 : ¬ B = Bk := by omega
  have n2 : ¬ B = Bu := by omega
  have c107 := R4.c107
  have f107 := R4.f107
  rw [HL.out, List.length_append, hh', HTT.out] at c107
  have c107' : V4.cell? ⟨B, 107, none⟩ = some (.int .i64 ((h' : Int) + (ta : Int))) := c107
  clear c107
  go_upto_region 4 with (fail)
  have hw : IntKind.i64.wrap (h' : Int) = (h' : Int) := (IntWalk.i64_left _).trans (IntWalk.wrap64_in _ ⟨by omega, by omega⟩)
  have hw2 : IntKind.i64.wrap ((h' : Int) + (ta : Int) - (ta : Int)) = (h' : Int) := (IntWalk.i64_left _).trans ((congrArg wrap64 (show (h' : Int) + (ta : Int) - (ta : Int) = (h' : Int) by omega)).trans (IntWalk.wrap64_in _ ⟨by omega, by omega⟩))
  have G3' : ∀ W, V4.grownBy W (some B) → W.cell? ⟨Bk, 3, none⟩ = some (.int .i64 ta) := fun _ h => gc h g3 (fun e => n1 e.symm)
  refine wp_region_held_drew (S := fun w' => V4.grownBy w' (some B)) (by kernel_rfl) (gd1 (gr _ _)) (fun hHeld => ?_)
  refine wpAnyH_take (i := 0) (v := ?_) rfl (by kernel_rfl) (by kernel_rfl) (by kernel_rfl) (fun _ _ _ h => h) (Or.inl ⟨by rfl, ?_⟩) (by assumption) ?_
  rotate_left
  · intro w hSw; (try dsimp only at hSw); go_simp; try with_reducible rfl
  try simp only [Act.put, List.getElem_toArray, List.getElem_cons_zero, List.setIfInBounds_toArray, List.set_cons_zero, List.set_cons_succ]
  refine wpAnyH_take (i := 1) (v := ?_) rfl (by kernel_rfl) (by kernel_rfl) (by kernel_rfl) (fun _ _ _ h => h) (Or.inl ⟨by rfl, ?_⟩) (by assumption) ?_
  rotate_left
  · intro w hSw; (try dsimp only at hSw); go_simp; try with_reducible rfl
  try simp only [Act.put, List.getElem_toArray, List.getElem_cons_zero, List.getElem_cons_succ, List.setIfInBounds_toArray, List.set_cons_zero, List.set_cons_succ]
  refine wpAnyH_take (i := 2) (v := ?_) rfl (by kernel_rfl) (by kernel_rfl) (by kernel_rfl) (fun _ _ _ h => h) (Or.inl ⟨by rfl, ?_⟩) (by assumption) ?_
  rotate_left
  · intro w hSw; (try dsimp only at hSw); go_simp; try with_reducible rfl
  try simp only [Act.put, List.getElem_toArray, List.getElem_cons_zero, List.getElem_cons_succ, List.setIfInBounds_toArray, List.set_cons_zero, List.set_cons_succ]
  refine wpAnyH_take (i := 4) (v := ?_) rfl (by kernel_rfl) (by kernel_rfl) (by kernel_rfl) (fun _ _ _ h => h) (Or.inl ⟨by rfl, ?_⟩) (by assumption) ?_
  rotate_left
  · intro w hSw; (try dsimp only at hSw); go_simp; try with_reducible rfl
  try simp only [Act.put, List.getElem_toArray, List.getElem_cons_zero, List.getElem_cons_succ, List.setIfInBounds_toArray, List.set_cons_zero, List.set_cons_succ]
  refine wpAnyH_take (i := 5) (v := ?_) rfl (by kernel_rfl) (by kernel_rfl) (by kernel_rfl) (fun _ _ _ h => h) (Or.inl ⟨by rfl, ?_⟩) (by assumption) ?_
  rotate_left
  · intro w hSw; (try dsimp only at hSw); go_simp; try with_reducible rfl
  try simp only [Act.put, List.getElem_toArray, List.getElem_cons_zero, List.getElem_cons_succ, List.setIfInBounds_toArray, List.set_cons_zero, List.set_cons_succ]
  refine wpAnyH_ready (rs := [3]) (by kernel_rfl) (by simp) ?_
  refine AllReadyH.cons rfl (fun K hK => ?_) AllReadyH.nil
  go_simp
  try dsimp only
  refine hK.out _ _ (hHeld) (fun hHeld => ?_)
  clear hK K
  try simp only [Act.put, List.getElem_toArray, List.getElem_cons_zero, List.getElem_cons_succ, List.setIfInBounds_toArray, List.set_cons_zero, List.set_cons_succ]
  refine wpAnyH_take (i := 6) (v := ?_) rfl (by kernel_rfl) (by kernel_rfl) (by kernel_rfl) (fun _ _ _ h => h) (Or.inl ⟨by rfl, ?_⟩) (by assumption) ?_
  rotate_left
  · intro w hSw; (try dsimp only at hSw); go_simp; try with_reducible rfl
  try simp only [Act.put, List.getElem_toArray, List.getElem_cons_zero, List.getElem_cons_succ, List.setIfInBounds_toArray, List.set_cons_zero, List.set_cons_succ]
  refine wpAnyH_take (i := 7) (v := ?_) rfl (by kernel_rfl) (by kernel_rfl) (by kernel_rfl) (fun _ _ _ h => h) (Or.inl ⟨by rfl, ?_⟩) (by assumption) ?_
  rotate_left
  · intro w hSw; (try dsimp only at hSw); go_simp; try with_reducible rfl
  try simp only [Act.put, List.getElem_toArray, List.getElem_cons_zero, List.getElem_cons_succ, List.setIfInBounds_toArray, List.set_cons_zero, List.set_cons_succ]
  refine wpAnyH_take (i := 8) (v := ?_) rfl (by kernel_rfl) (by kernel_rfl) (by kernel_rfl) (fun _ _ _ h => h) (Or.inl ⟨by rfl, ?_⟩) (by assumption) ?_
  rotate_left
  · intro w hSw; (try dsimp only at hSw); go_simp; try with_reducible rfl
  try simp only [Act.put, List.getElem_toArray, List.getElem_cons_zero, List.getElem_cons_succ, List.setIfInBounds_toArray, List.set_cons_zero, List.set_cons_succ]
  refine wpAnyH_ready (rs := [9]) (by kernel_rfl) (by simp) ?_
  refine AllReadyH.cons rfl (fun K hK => ?_) AllReadyH.nil
  go_simp
  try dsimp only
  refine hK.out _ _ (gs hHeld _) (fun hHeld => ?_)
  clear hK K
  try simp only [Act.put, List.getElem_toArray, List.getElem_cons_zero, List.getElem_cons_succ, List.setIfInBounds_toArray, List.set_cons_zero, List.set_cons_succ]
  refine wpAnyH_done (by kernel_rfl) ?_ _
  clear G3' c107' f107
  have R5 : RuA B pa np pc sz l' (st + 1) (V4.setCell ⟨B, 107, none⟩ (.int .i64 (h' : Int))).drew := by
    have h9 := ru_pop (by rw [HL.out] at R4; exact R4)
    rw [hh'] at h9
    exact ru_below h9 (bd1 (Below.refl _ _))
  have ST : Hid (∀ i x, t[i]? = some x → (V4.setCell ⟨B, 107, none⟩ (.int .i64 (h' : Int))).drew.cell? ⟨B, 99 + h' + i, none⟩ = some (.int .i64 x)) := Lib.hid (fun i x hx => by
    have hlt : i < t.length := (List.getElem?_eq_some_iff.1 hx).1
    rw [HTT.out] at hlt
    obtain ⟨v, a, _, c⟩ := R4.stk (h' + i) (by omega)
    have e : v = x := c x (by rw [HL.out, List.getElem?_append_right (by omega), hh', Nat.add_sub_cancel_left]; exact hx)
    subst e
    rw [Nat.add_assoc]
    exact far_cell a (.inr (by omega)))
  have G45 : V4.grownBy (V4.setCell ⟨B, 107, none⟩ (.int .i64 (h' : Int))).drew (some B) := gd1 (gs (gr _ _) _)
  have G5 : w.grownBy (V4.setCell ⟨B, 107, none⟩ (.int .i64 (h' : Int))).drew (some B) := gd1 (gs G4 _)
  have bu : Bu ≠ B := fun e => n2 e.symm
  have bk : Bk ≠ B := fun e => n1 e.symm
  have x1 := gc G45 y1 (fun e => hne e.symm)
  replace g2 := gc G45 g2 bk
  replace g3 := gc G45 g3 bk
  replace g4 := gc G45 g4 bk
  replace g5 := gc G45 g5 bk
  replace u0 := gc G45 u0 bu
  replace u1 := gc G45 u1 bu
  replace u2 := gc G45 u2 bu
  replace u3 := gc G45 u3 bu
  replace u4 := gc G45 u4 bu
  have w2 : (V4.setCell ⟨B, 107, none⟩ (.int .i64 (h' : Int))).drew.frozen? ⟨Bu, 2, none⟩ = false := by go_cell
  have w3 : (V4.setCell ⟨B, 107, none⟩ (.int .i64 (h' : Int))).drew.frozen? ⟨Bu, 3, none⟩ = false := by go_cell
  have w4 : (V4.setCell ⟨B, 107, none⟩ (.int .i64 (h' : Int))).drew.frozen? ⟨Bu, 4, none⟩ = false := by go_cell
  have hu5 : Bu < (V4.setCell ⟨B, 107, none⟩ (.int .i64 (h' : Int))).drew.heap.size := block_lt_of_cell u0
  clear v2 v3 v4 y1 R4 G4 G45 hu
  generalize (V4.setCell ⟨B, 107, none⟩ (.int .i64 (h' : Int))).drew = V5 at *
  have hb0 : (0 : Int) ≤ (h' : Int) := by omega
  have c107 := R5.c107
  rw [hh'] at c107
  have n3 : ¬ Bk = Bu := by omega
  go_upto_region 5 with (fail)
  go_cut [55] (fun s55 V' => UseAt V5 V' Bu n sz (t.getD 0 0) (t.getD 1 0))
  case first =>
    clear x1 g2 g4 g5 R5 G5
    have C107 : ∀ W, V5.grownBy W (some Bu) → W.cell? ⟨B, 107, none⟩ = some (.int .i64 (h' : Int)) := fun _ h => gc h c107 n2
    have K3 : ∀ W, V5.grownBy W (some Bu) → W.cell? ⟨Bk, 3, none⟩ = some (.int .i64 ta) := fun _ h => gc h g3 n3
    rcases t with _ | ⟨x, _ | ⟨y, _ | ⟨z, r⟩⟩⟩
    · obtain rfl : ta = 0 := HTT.out.symm
      have hcp : ∀ (a : Addr) (c : Nat), (Builtin.copy_ #[23, 23] 3 #[.slice (some ⟨Bu, 2, none⟩) 2 2, .slice (some a) 0 c]).run Try.prog V5.drew = .ok (goInt 0) V5.drew := fun a c => run_copy_none (P := Try.prog) V5.drew 23 23 3 3 _ _ 2 2 0 c Try.underlying23 (by kernel_rfl) rfl
      have hs8 : (h' : Int) ≤ 8 := by omega
      have hwa : IntKind.i64.wrap ((h' : Int) + ((0 : Nat) : Int)) = (h' : Int) := (IntWalk.i64_left _).trans ((congrArg wrap64 (show (h' : Int) + ((0 : Nat) : Int) = (h' : Int) by omega)).trans (IntWalk.wrap64_in _ ⟨by omega, by omega⟩))
      have hwb : IntKind.i64.wrap (h' : Int) = (h' : Int) := (IntWalk.i64_left _).trans (IntWalk.wrap64_in _ ⟨by omega, by omega⟩)
      refine wp_region_held_drew (S := fun w' => V5.grownBy w' (some Bu)) (by kernel_rfl) (gd1 (gr _ _)) (fun hHeld => ?_)
      refine wpAnyH_take (i := 0) (v := ?_) rfl (by kernel_rfl) (by kernel_rfl) (by kernel_rfl) (fun _ _ _ h => h) (Or.inl ⟨by rfl, ?_⟩) (by assumption) ?_
      rotate_left
      · intro w hSw; (try dsimp only at hSw); go_simp; try with_reducible rfl
      try simp only [Act.put, List.getElem_toArray, List.getElem_cons_zero, List.setIfInBounds_toArray, List.set_cons_zero, List.set_cons_succ]
      refine wpAnyH_take (i := 1) (v := ?_) rfl (by kernel_rfl) (by kernel_rfl) (by kernel_rfl) (fun _ _ _ h => h) (Or.inl ⟨by rfl, ?_⟩) (by assumption) ?_
      rotate_left
      · intro w hSw; (try dsimp only at hSw); go_simp; try with_reducible rfl
      try simp only [Act.put, List.getElem_toArray, List.getElem_cons_zero, List.getElem_cons_succ, List.setIfInBounds_toArray, List.set_cons_zero, List.set_cons_succ]
      refine wpAnyH_take (i := 2) (v := ?_) rfl (by kernel_rfl) (by kernel_rfl) (by kernel_rfl) (fun _ _ _ h => h) (Or.inl ⟨by rfl, ?_⟩) (by assumption) ?_
      rotate_left
      · intro w hSw; (try dsimp only at hSw); go_simp; try with_reducible rfl
      try simp only [Act.put, List.getElem_toArray, List.getElem_cons_zero, List.getElem_cons_succ, List.setIfInBounds_toArray, List.set_cons_zero, List.set_cons_succ]
      refine wpAnyH_take (i := 3) (v := ?_) rfl (by kernel_rfl) (by kernel_rfl) (by kernel_rfl) (fun _ _ _ h => h) (Or.inl ⟨by rfl, ?_⟩) (by assumption) ?_
      rotate_left
      · intro w hSw; (try dsimp only at hSw); go_simp; try with_reducible rfl
      try simp only [Act.put, List.getElem_toArray, List.getElem_cons_zero, List.getElem_cons_succ, List.setIfInBounds_toArray, List.set_cons_zero, List.set_cons_succ]
      refine wpAnyH_take (i := 4) (v := ?_) rfl (by kernel_rfl) (by kernel_rfl) (by kernel_rfl) (fun _ _ _ h => h) (Or.inl ⟨by rfl, ?_⟩) (by assumption) ?_
      rotate_left
      · intro w hSw; (try dsimp only at hSw); go_simp; try with_reducible rfl
      try simp only [Act.put, List.getElem_toArray, List.getElem_cons_zero, List.getElem_cons_succ, List.setIfInBounds_toArray, List.set_cons_zero, List.set_cons_succ]
      refine wpAnyH_take (i := 5) (v := ?_) rfl (by kernel_rfl) (by kernel_rfl) (by kernel_rfl) (fun _ _ _ h => h) (Or.inl ⟨by rfl, ?_⟩) (by assumption) ?_
      rotate_left
      · intro w hSw; (try dsimp only at hSw); go_simp; try with_reducible rfl
      try simp only [Act.put, List.getElem_toArray, List.getElem_cons_zero, List.getElem_cons_succ, List.setIfInBounds_toArray, List.set_cons_zero, List.set_cons_succ]
      refine wpAnyH_take (i := 6) (v := ?_) rfl (by kernel_rfl) (by kernel_rfl) (by kernel_rfl) (fun _ _ _ h => h) (Or.inl ⟨by rfl, ?_⟩) (by assumption) ?_
      rotate_left
      · intro w hSw; (try dsimp only at hSw); go_simp; try with_reducible rfl
      try simp only [Act.put, List.getElem_toArray, List.getElem_cons_zero, List.getElem_cons_succ, List.setIfInBounds_toArray, List.set_cons_zero, List.set_cons_succ]
      refine wpAnyH_take (i := 7) (v := ?_) rfl (by kernel_rfl) (by kernel_rfl) (by kernel_rfl) (fun _ _ _ h => h) (Or.inl ⟨by rfl, ?_⟩) (by assumption) ?_
      rotate_left
      · intro w hSw; (try dsimp only at hSw); go_simp; try with_reducible rfl
      try simp only [Act.put, List.getElem_toArray, List.getElem_cons_zero, List.getElem_cons_succ, List.setIfInBounds_toArray, List.set_cons_zero, List.set_cons_succ]
      refine wpAnyH_take (i := 8) (v := ?_) rfl (by kernel_rfl) (by kernel_rfl) (by kernel_rfl) (fun _ _ _ h => h) (Or.inl ⟨by rfl, ?_⟩) (by assumption) ?_
      rotate_left
      · intro w hSw; (try dsimp only at hSw); go_simp; try with_reducible rfl
      try simp only [Act.put, List.getElem_toArray, List.getElem_cons_zero, List.getElem_cons_succ, List.setIfInBounds_toArray, List.set_cons_zero, List.set_cons_succ]
      refine wpAnyH_take (i := 9) (v := ?_) rfl (by kernel_rfl) (by kernel_rfl) (by kernel_rfl) (fun _ _ _ h => h) (Or.inl ⟨by rfl, ?_⟩) (by assumption) ?_
      rotate_left
      · intro w hSw; (try dsimp only at hSw); go_simp; try with_reducible rfl
      try simp only [Act.put, List.getElem_toArray, List.getElem_cons_zero, List.getElem_cons_succ, List.setIfInBounds_toArray, List.set_cons_zero, List.set_cons_succ]
      refine wpAnyH_take (i := 10) (v := ?_) rfl (by kernel_rfl) (by kernel_rfl) (by kernel_rfl) (fun _ _ _ h => h) (Or.inl ⟨by rfl, ?_⟩) (by assumption) ?_
      rotate_left
      · intro w hSw; (try dsimp only at hSw); go_simp; try with_reducible rfl
      try simp only [Act.put, List.getElem_toArray, List.getElem_cons_zero, List.getElem_cons_succ, List.setIfInBounds_toArray, List.set_cons_zero, List.set_cons_succ]
      refine wpAnyH_take (i := 11) (v := ?_) rfl (by kernel_rfl) (by kernel_rfl) (by kernel_rfl) (fun _ _ _ h => h) (Or.inl ⟨by rfl, ?_⟩) (by assumption) ?_
      rotate_left
      · intro w hSw; (try dsimp only at hSw); go_simp; try with_reducible rfl
      try simp only [Act.put, List.getElem_toArray, List.getElem_cons_zero, List.getElem_cons_succ, List.setIfInBounds_toArray, List.set_cons_zero, List.set_cons_succ]
      refine wpAnyH_take (i := 12) (v := ?_) rfl (by kernel_rfl) (by kernel_rfl) (by kernel_rfl) (fun _ _ _ h => h) (Or.inl ⟨by rfl, ?_⟩) (by assumption) ?_
      rotate_left
      · intro w hSw; (try dsimp only at hSw); go_simp; try with_reducible rfl
      try simp only [Act.put, List.getElem_toArray, List.getElem_cons_zero, List.getElem_cons_succ, List.setIfInBounds_toArray, List.set_cons_zero, List.set_cons_succ]
      refine wpAnyH_take (i := 13) (v := ?_) rfl (by kernel_rfl) (by kernel_rfl) (by kernel_rfl) (fun _ _ _ h => h) (Or.inl ⟨by rfl, ?_⟩) (by assumption) ?_
      rotate_left
      · intro w hSw; (try dsimp only at hSw); go_simp; try with_reducible rfl
      try simp only [Act.put, List.getElem_toArray, List.getElem_cons_zero, List.getElem_cons_succ, List.setIfInBounds_toArray, List.set_cons_zero, List.set_cons_succ]
      refine wpAnyH_take (i := 14) (v := ?_) rfl (by kernel_rfl) (by kernel_rfl) (by kernel_rfl) (fun _ _ _ h => h) (Or.inl ⟨by rfl, ?_⟩) (by assumption) ?_
      rotate_left
      · intro w hSw; (try dsimp only at hSw); go_simp; try with_reducible rfl
      try simp only [Act.put, List.getElem_toArray, List.getElem_cons_zero, List.getElem_cons_succ, List.setIfInBounds_toArray, List.set_cons_zero, List.set_cons_succ]
      refine wpAnyH_take (i := 15) (v := ?_) rfl (by kernel_rfl) (by kernel_rfl) (by kernel_rfl) (fun _ _ _ h => h) (Or.inl ⟨by rfl, ?_⟩) (by assumption) ?_
      rotate_left
      · intro w hSw; (try dsimp only at hSw); go_simp; try with_reducible rfl
      try simp only [Act.put, List.getElem_toArray, List.getElem_cons_zero, List.getElem_cons_succ, List.setIfInBounds_toArray, List.set_cons_zero, List.set_cons_succ]
      refine wpAnyH_take (i := 16) (v := ?_) rfl (by kernel_rfl) (by kernel_rfl) (by kernel_rfl) (fun _ _ _ h => h) (Or.inl ⟨by rfl, ?_⟩) (by assumption) ?_
      rotate_left
      · intro w hSw; (try dsimp only at hSw); go_simp; try with_reducible rfl
      try simp only [Act.put, List.getElem_toArray, List.getElem_cons_zero, List.getElem_cons_succ, List.setIfInBounds_toArray, List.set_cons_zero, List.set_cons_succ]
      refine wpAnyH_ready (rs := [17]) (by kernel_rfl) (by simp) ?_
      refine AllReadyH.cons rfl (fun K hK => ?_) AllReadyH.nil
      go_simp
      try dsimp only
      refine hK.out _ _ (hHeld) (fun hHeld => ?_)
      clear hK K
      try simp only [Act.put, List.getElem_toArray, List.getElem_cons_zero, List.getElem_cons_succ, List.setIfInBounds_toArray, List.set_cons_zero, List.set_cons_succ]
      refine wpAnyH_done (by kernel_rfl) ?_ _
      go_step
      (try go_step)
      go_meet
      exact ⟨hHeld, u0, u1, u2, u3, u4, w4⟩
    · obtain rfl : ta = 1 := HTT.out.symm
      have h8 : ¬ 8 = h' := by omega
      have hs8 : (h' : Int) + 1 ≤ 8 := by omega
      have hb1 : (h' : Int) ≤ (h' : Int) + 1 := by omega
      have s0 := ST.out 0 x rfl
      have hw3 : IntKind.i64.wrap ((h' : Int) + 1) = (h' : Int) + 1 := (IntWalk.i64_left _).trans (IntWalk.wrap64_in _ ⟨by omega, by omega⟩)
      have hcp := copy_one V5.drew Bu B h' x s0 u2 w2
      refine wp_region_held_drew (S := fun w' => V5.grownBy w' (some Bu)) (by kernel_rfl) (gd1 (gr _ _)) (fun hHeld => ?_)
      refine wpAnyH_take (i := 0) (v := ?_) rfl (by kernel_rfl) (by kernel_rfl) (by kernel_rfl) (fun _ _ _ h => h) (Or.inl ⟨by rfl, ?_⟩) (by assumption) ?_
      rotate_left
      · intro w hSw; (try dsimp only at hSw); go_simp; try with_reducible rfl
      try simp only [Act.put, List.getElem_toArray, List.getElem_cons_zero, List.setIfInBounds_toArray, List.set_cons_zero, List.set_cons_succ]
      refine wpAnyH_take (i := 1) (v := ?_) rfl (by kernel_rfl) (by kernel_rfl) (by kernel_rfl) (fun _ _ _ h => h) (Or.inl ⟨by rfl, ?_⟩) (by assumption) ?_
      rotate_left
      · intro w hSw; (try dsimp only at hSw); go_simp; try with_reducible rfl
      try simp only [Act.put, List.getElem_toArray, List.getElem_cons_zero, List.getElem_cons_succ, List.setIfInBounds_toArray, List.set_cons_zero, List.set_cons_succ]
      refine wpAnyH_take (i := 2) (v := ?_) rfl (by kernel_rfl) (by kernel_rfl) (by kernel_rfl) (fun _ _ _ h => h) (Or.inl ⟨by rfl, ?_⟩) (by assumption) ?_
      rotate_left
      · intro w hSw; (try dsimp only at hSw); go_simp; try with_reducible rfl
      try simp only [Act.put, List.getElem_toArray, List.getElem_cons_zero, List.getElem_cons_succ, List.setIfInBounds_toArray, List.set_cons_zero, List.set_cons_succ]
      refine wpAnyH_take (i := 3) (v := ?_) rfl (by kernel_rfl) (by kernel_rfl) (by kernel_rfl) (fun _ _ _ h => h) (Or.inl ⟨by rfl, ?_⟩) (by assumption) ?_
      rotate_left
      · intro w hSw; (try dsimp only at hSw); go_simp; try with_reducible rfl
      try simp only [Act.put, List.getElem_toArray, List.getElem_cons_zero, List.getElem_cons_succ, List.setIfInBounds_toArray, List.set_cons_zero, List.set_cons_succ]
      refine wpAnyH_take (i := 4) (v := ?_) rfl (by kernel_rfl) (by kernel_rfl) (by kernel_rfl) (fun _ _ _ h => h) (Or.inl ⟨by rfl, ?_⟩) (by assumption) ?_
      rotate_left
      · intro w hSw; (try dsimp only at hSw); go_simp; try with_reducible rfl
      try simp only [Act.put, List.getElem_toArray, List.getElem_cons_zero, List.getElem_cons_succ, List.setIfInBounds_toArray, List.set_cons_zero, List.set_cons_succ]
      refine wpAnyH_take (i := 5) (v := ?_) rfl (by kernel_rfl) (by kernel_rfl) (by kernel_rfl) (fun _ _ _ h => h) (Or.inl ⟨by rfl, ?_⟩) (by assumption) ?_
      rotate_left
      · intro w hSw; (try dsimp only at hSw); go_simp; try with_reducible rfl
      try simp only [Act.put, List.getElem_toArray, List.getElem_cons_zero, List.getElem_cons_succ, List.setIfInBounds_toArray, List.set_cons_zero, List.set_cons_succ]
      refine wpAnyH_take (i := 6) (v := ?_) rfl (by kernel_rfl) (by kernel_rfl) (by kernel_rfl) (fun _ _ _ h => h) (Or.inl ⟨by rfl, ?_⟩) (by assumption) ?_
      rotate_left
      · intro w hSw; (try dsimp only at hSw); go_simp; try with_reducible rfl
      try simp only [Act.put, List.getElem_toArray, List.getElem_cons_zero, List.getElem_cons_succ, List.setIfInBounds_toArray, List.set_cons_zero, List.set_cons_succ]
      refine wpAnyH_take (i := 7) (v := ?_) rfl (by kernel_rfl) (by kernel_rfl) (by kernel_rfl) (fun _ _ _ h => h) (Or.inl ⟨by rfl, ?_⟩) (by assumption) ?_
      rotate_left
      · intro w hSw; (try dsimp only at hSw); go_simp; try with_reducible rfl
      try simp only [Act.put, List.getElem_toArray, List.getElem_cons_zero, List.getElem_cons_succ, List.setIfInBounds_toArray, List.set_cons_zero, List.set_cons_succ]
      refine wpAnyH_take (i := 8) (v := ?_) rfl (by kernel_rfl) (by kernel_rfl) (by kernel_rfl) (fun _ _ _ h => h) (Or.inl ⟨by rfl, ?_⟩) (by assumption) ?_
      rotate_left
      · intro w hSw; (try dsimp only at hSw); go_simp; try with_reducible rfl
      try simp only [Act.put, List.getElem_toArray, List.getElem_cons_zero, List.getElem_cons_succ, List.setIfInBounds_toArray, List.set_cons_zero, List.set_cons_succ]
      refine wpAnyH_take (i := 9) (v := ?_) rfl (by kernel_rfl) (by kernel_rfl) (by kernel_rfl) (fun _ _ _ h => h) (Or.inl ⟨by rfl, ?_⟩) (by assumption) ?_
      rotate_left
      · intro w hSw; (try dsimp only at hSw); go_simp; try with_reducible rfl
      try simp only [Act.put, List.getElem_toArray, List.getElem_cons_zero, List.getElem_cons_succ, List.setIfInBounds_toArray, List.set_cons_zero, List.set_cons_succ]
      refine wpAnyH_take (i := 10) (v := ?_) rfl (by kernel_rfl) (by kernel_rfl) (by kernel_rfl) (fun _ _ _ h => h) (Or.inl ⟨by rfl, ?_⟩) (by assumption) ?_
      rotate_left
      · intro w hSw; (try dsimp only at hSw); go_simp; try with_reducible rfl
      try simp only [Act.put, List.getElem_toArray, List.getElem_cons_zero, List.getElem_cons_succ, List.setIfInBounds_toArray, List.set_cons_zero, List.set_cons_succ]
      refine wpAnyH_take (i := 11) (v := ?_) rfl (by kernel_rfl) (by kernel_rfl) (by kernel_rfl) (fun _ _ _ h => h) (Or.inl ⟨by rfl, ?_⟩) (by assumption) ?_
      rotate_left
      · intro w hSw; (try dsimp only at hSw); go_simp; try with_reducible rfl
      try simp only [Act.put, List.getElem_toArray, List.getElem_cons_zero, List.getElem_cons_succ, List.setIfInBounds_toArray, List.set_cons_zero, List.set_cons_succ]
      refine wpAnyH_take (i := 12) (v := ?_) rfl (by kernel_rfl) (by kernel_rfl) (by kernel_rfl) (fun _ _ _ h => h) (Or.inl ⟨by rfl, ?_⟩) (by assumption) ?_
      rotate_left
      · intro w hSw; (try dsimp only at hSw); go_simp; try with_reducible rfl
      try simp only [Act.put, List.getElem_toArray, List.getElem_cons_zero, List.getElem_cons_succ, List.setIfInBounds_toArray, List.set_cons_zero, List.set_cons_succ]
      refine wpAnyH_take (i := 13) (v := ?_) rfl (by kernel_rfl) (by kernel_rfl) (by kernel_rfl) (fun _ _ _ h => h) (Or.inl ⟨by rfl, ?_⟩) (by assumption) ?_
      rotate_left
      · intro w hSw; (try dsimp only at hSw); go_simp; try with_reducible rfl
      try simp only [Act.put, List.getElem_toArray, List.getElem_cons_zero, List.getElem_cons_succ, List.setIfInBounds_toArray, List.set_cons_zero, List.set_cons_succ]
      refine wpAnyH_take (i := 14) (v := ?_) rfl (by kernel_rfl) (by kernel_rfl) (by kernel_rfl) (fun _ _ _ h => h) (Or.inl ⟨by rfl, ?_⟩) (by assumption) ?_
      rotate_left
      · intro w hSw; (try dsimp only at hSw); go_simp; try with_reducible rfl
      try simp only [Act.put, List.getElem_toArray, List.getElem_cons_zero, List.getElem_cons_succ, List.setIfInBounds_toArray, List.set_cons_zero, List.set_cons_succ]
      refine wpAnyH_take (i := 15) (v := ?_) rfl (by kernel_rfl) (by kernel_rfl) (by kernel_rfl) (fun _ _ _ h => h) (Or.inl ⟨by rfl, ?_⟩) (by assumption) ?_
      rotate_left
      · intro w hSw; (try dsimp only at hSw); go_simp; try with_reducible rfl
      try simp only [Act.put, List.getElem_toArray, List.getElem_cons_zero, List.getElem_cons_succ, List.setIfInBounds_toArray, List.set_cons_zero, List.set_cons_succ]
      refine wpAnyH_take (i := 16) (v := ?_) rfl (by kernel_rfl) (by kernel_rfl) (by kernel_rfl) (fun _ _ _ h => h) (Or.inl ⟨by rfl, ?_⟩) (by assumption) ?_
      rotate_left
      · intro w hSw; (try dsimp only at hSw); go_simp; try with_reducible rfl
      try simp only [Act.put, List.getElem_toArray, List.getElem_cons_zero, List.getElem_cons_succ, List.setIfInBounds_toArray, List.set_cons_zero, List.set_cons_succ]
      refine wpAnyH_ready (rs := [17]) (by kernel_rfl) (by simp) ?_
      refine AllReadyH.cons rfl (fun K hK => ?_) AllReadyH.nil
      go_simp
      try dsimp only
      refine hK.out _ _ (gs hHeld _) (fun hHeld => ?_)
      clear hK K
      try simp only [Act.put, List.getElem_toArray, List.getElem_cons_zero, List.getElem_cons_succ, List.setIfInBounds_toArray, List.set_cons_zero, List.set_cons_succ]
      refine wpAnyH_done (by kernel_rfl) ?_ _
      go_step
      (try go_step)
      go_meet
      exact use_one hHeld u0 u1 u2 u3 u4 w4
    · obtain rfl : ta = 2 := HTT.out.symm
      have h8 : ¬ 8 = h' := by omega
      have hs8 : (h' : Int) + 2 ≤ 8 := by omega
      have hb1 : (h' : Int) ≤ (h' : Int) + 2 := by omega
      have s0 := ST.out 0 x rfl
      have s1 := ST.out 1 y rfl
      have hw3 : IntKind.i64.wrap ((h' : Int) + 2) = (h' : Int) + 2 := (IntWalk.i64_left _).trans (IntWalk.wrap64_in _ ⟨by omega, by omega⟩)
      have hln : ((h' : Int) + 2).toNat - h' = 2 := by omega
      have hcp := copy_two V5.drew Bu B h' x y s0 s1 u2 u3 w2 w3
      refine wp_region_held_drew (S := fun w' => V5.grownBy w' (some Bu)) (by kernel_rfl) (gd1 (gr _ _)) (fun hHeld => ?_)
      refine wpAnyH_take (i := 0) (v := ?_) rfl (by kernel_rfl) (by kernel_rfl) (by kernel_rfl) (fun _ _ _ h => h) (Or.inl ⟨by rfl, ?_⟩) (by assumption) ?_
      rotate_left
      · intro w hSw; (try dsimp only at hSw); go_simp; try with_reducible rfl
      try simp only [Act.put, List.getElem_toArray, List.getElem_cons_zero, List.setIfInBounds_toArray, List.set_cons_zero, List.set_cons_succ]
      refine wpAnyH_take (i := 1) (v := ?_) rfl (by kernel_rfl) (by kernel_rfl) (by kernel_rfl) (fun _ _ _ h => h) (Or.inl ⟨by rfl, ?_⟩) (by assumption) ?_
      rotate_left
      · intro w hSw; (try dsimp only at hSw); go_simp; try with_reducible rfl
      try simp only [Act.put, List.getElem_toArray, List.getElem_cons_zero, List.getElem_cons_succ, List.setIfInBounds_toArray, List.set_cons_zero, List.set_cons_succ]
      refine wpAnyH_take (i := 2) (v := ?_) rfl (by kernel_rfl) (by kernel_rfl) (by kernel_rfl) (fun _ _ _ h => h) (Or.inl ⟨by rfl, ?_⟩) (by assumption) ?_
      rotate_left
      · intro w hSw; (try dsimp only at hSw); go_simp; try with_reducible rfl
      try simp only [Act.put, List.getElem_toArray, List.getElem_cons_zero, List.getElem_cons_succ, List.setIfInBounds_toArray, List.set_cons_zero, List.set_cons_succ]
      refine wpAnyH_take (i := 3) (v := ?_) rfl (by kernel_rfl) (by kernel_rfl) (by kernel_rfl) (fun _ _ _ h => h) (Or.inl ⟨by rfl, ?_⟩) (by assumption) ?_
      rotate_left
      · intro w hSw; (try dsimp only at hSw); go_simp; try with_reducible rfl
      try simp only [Act.put, List.getElem_toArray, List.getElem_cons_zero, List.getElem_cons_succ, List.setIfInBounds_toArray, List.set_cons_zero, List.set_cons_succ]
      refine wpAnyH_take (i := 4) (v := ?_) rfl (by kernel_rfl) (by kernel_rfl) (by kernel_rfl) (fun _ _ _ h => h) (Or.inl ⟨by rfl, ?_⟩) (by assumption) ?_
      rotate_left
      · intro w hSw; (try dsimp only at hSw); go_simp; try with_reducible rfl
      try simp only [Act.put, List.getElem_toArray, List.getElem_cons_zero, List.getElem_cons_succ, List.setIfInBounds_toArray, List.set_cons_zero, List.set_cons_succ]
      refine wpAnyH_take (i := 5) (v := ?_) rfl (by kernel_rfl) (by kernel_rfl) (by kernel_rfl) (fun _ _ _ h => h) (Or.inl ⟨by rfl, ?_⟩) (by assumption) ?_
      rotate_left
      · intro w hSw; (try dsimp only at hSw); go_simp; try with_reducible rfl
      try simp only [Act.put, List.getElem_toArray, List.getElem_cons_zero, List.getElem_cons_succ, List.setIfInBounds_toArray, List.set_cons_zero, List.set_cons_succ]
      refine wpAnyH_take (i := 6) (v := ?_) rfl (by kernel_rfl) (by kernel_rfl) (by kernel_rfl) (fun _ _ _ h => h) (Or.inl ⟨by rfl, ?_⟩) (by assumption) ?_
      rotate_left
      · intro w hSw; (try dsimp only at hSw); go_simp; try with_reducible rfl
      try simp only [Act.put, List.getElem_toArray, List.getElem_cons_zero, List.getElem_cons_succ, List.setIfInBounds_toArray, List.set_cons_zero, List.set_cons_succ]
      refine wpAnyH_take (i := 7) (v := ?_) rfl (by kernel_rfl) (by kernel_rfl) (by kernel_rfl) (fun _ _ _ h => h) (Or.inl ⟨by rfl, ?_⟩) (by assumption) ?_
      rotate_left
      · intro w hSw; (try dsimp only at hSw); go_simp; try with_reducible rfl
      try simp only [Act.put, List.getElem_toArray, List.getElem_cons_zero, List.getElem_cons_succ, List.setIfInBounds_toArray, List.set_cons_zero, List.set_cons_succ]
      refine wpAnyH_take (i := 8) (v := ?_) rfl (by kernel_rfl) (by kernel_rfl) (by kernel_rfl) (fun _ _ _ h => h) (Or.inl ⟨by rfl, ?_⟩) (by assumption) ?_
      rotate_left
      · intro w hSw; (try dsimp only at hSw); go_simp; try with_reducible rfl
      try simp only [Act.put, List.getElem_toArray, List.getElem_cons_zero, List.getElem_cons_succ, List.setIfInBounds_toArray, List.set_cons_zero, List.set_cons_succ]
      refine wpAnyH_take (i := 9) (v := ?_) rfl (by kernel_rfl) (by kernel_rfl) (by kernel_rfl) (fun _ _ _ h => h) (Or.inl ⟨by rfl, ?_⟩) (by assumption) ?_
      rotate_left
      · intro w hSw; (try dsimp only at hSw); go_simp; try with_reducible rfl
      try simp only [Act.put, List.getElem_toArray, List.getElem_cons_zero, List.getElem_cons_succ, List.setIfInBounds_toArray, List.set_cons_zero, List.set_cons_succ]
      refine wpAnyH_take (i := 10) (v := ?_) rfl (by kernel_rfl) (by kernel_rfl) (by kernel_rfl) (fun _ _ _ h => h) (Or.inl ⟨by rfl, ?_⟩) (by assumption) ?_
      rotate_left
      · intro w hSw; (try dsimp only at hSw); go_simp; try with_reducible rfl
      try simp only [Act.put, List.getElem_toArray, List.getElem_cons_zero, List.getElem_cons_succ, List.setIfInBounds_toArray, List.set_cons_zero, List.set_cons_succ]
      refine wpAnyH_take (i := 11) (v := ?_) rfl (by kernel_rfl) (by kernel_rfl) (by kernel_rfl) (fun _ _ _ h => h) (Or.inl ⟨by rfl, ?_⟩) (by assumption) ?_
      rotate_left
      · intro w hSw; (try dsimp only at hSw); go_simp; try with_reducible rfl
      try simp only [Act.put, List.getElem_toArray, List.getElem_cons_zero, List.getElem_cons_succ, List.setIfInBounds_toArray, List.set_cons_zero, List.set_cons_succ]
      refine wpAnyH_take (i := 12) (v := ?_) rfl (by kernel_rfl) (by kernel_rfl) (by kernel_rfl) (fun _ _ _ h => h) (Or.inl ⟨by rfl, ?_⟩) (by assumption) ?_
      rotate_left
      · intro w hSw; (try dsimp only at hSw); go_simp; try with_reducible rfl
      try simp only [Act.put, List.getElem_toArray, List.getElem_cons_zero, List.getElem_cons_succ, List.setIfInBounds_toArray, List.set_cons_zero, List.set_cons_succ]
      refine wpAnyH_take (i := 13) (v := ?_) rfl (by kernel_rfl) (by kernel_rfl) (by kernel_rfl) (fun _ _ _ h => h) (Or.inl ⟨by rfl, ?_⟩) (by assumption) ?_
      rotate_left
      · intro w hSw; (try dsimp only at hSw); go_simp; try with_reducible rfl
      try simp only [Act.put, List.getElem_toArray, List.getElem_cons_zero, List.getElem_cons_succ, List.setIfInBounds_toArray, List.set_cons_zero, List.set_cons_succ]
      refine wpAnyH_take (i := 14) (v := ?_) rfl (by kernel_rfl) (by kernel_rfl) (by kernel_rfl) (fun _ _ _ h => h) (Or.inl ⟨by rfl, ?_⟩) (by assumption) ?_
      rotate_left
      · intro w hSw; (try dsimp only at hSw); go_simp; try with_reducible rfl
      try simp only [Act.put, List.getElem_toArray, List.getElem_cons_zero, List.getElem_cons_succ, List.setIfInBounds_toArray, List.set_cons_zero, List.set_cons_succ]
      refine wpAnyH_take (i := 15) (v := ?_) rfl (by kernel_rfl) (by kernel_rfl) (by kernel_rfl) (fun _ _ _ h => h) (Or.inl ⟨by rfl, ?_⟩) (by assumption) ?_
      rotate_left
      · intro w hSw; (try dsimp only at hSw); go_simp; try with_reducible rfl
      try simp only [Act.put, List.getElem_toArray, List.getElem_cons_zero, List.getElem_cons_succ, List.setIfInBounds_toArray, List.set_cons_zero, List.set_cons_succ]
      refine wpAnyH_take (i := 16) (v := ?_) rfl (by kernel_rfl) (by kernel_rfl) (by kernel_rfl) (fun _ _ _ h => h) (Or.inl ⟨by rfl, ?_⟩) (by assumption) ?_
      rotate_left
      · intro w hSw; (try dsimp only at hSw); go_simp; try with_reducible rfl
      try simp only [Act.put, List.getElem_toArray, List.getElem_cons_zero, List.getElem_cons_succ, List.setIfInBounds_toArray, List.set_cons_zero, List.set_cons_succ]
      refine wpAnyH_ready (rs := [17]) (by kernel_rfl) (by simp) ?_
      refine AllReadyH.cons rfl (fun K hK => ?_) AllReadyH.nil
      go_simp
      try dsimp only
      refine hK.out _ _ (gs (gs hHeld _) _) (fun hHeld => ?_)
      clear hK K
      try simp only [Act.put, List.getElem_toArray, List.getElem_cons_zero, List.getElem_cons_succ, List.setIfInBounds_toArray, List.set_cons_zero, List.set_cons_succ]
      refine wpAnyH_done (by kernel_rfl) ?_ _
      go_step
      (try go_step)
      go_meet
      exact use_two hHeld u0 u1 u2 u3 u4 w4
    · have := HTT.out
      simp only [List.length_cons] at this
      omega
  case rest =>
    obtain ⟨G6, p0, p1, p2, p3, p4, pf4⟩ := hcut
    rename World => V6
    have z1 := gc G6 x1 (by omega)
    have z2 := gc G6 g2 n3
    have z4 := gc G6 g4 n3
    have z5 := gc G6 g5 n3
    have R6 := ru_grown R5 G6 n2
    have G5w := Lib.hid G5
    clear x1 g2 g3 g4 g5 u0 u1 u2 u3 u4 w2 w3 w4 c107 G5 R5
    generalize t.getD 0 0 = aT at *
    generalize t.getD 1 0 = bT at *
    go_upto_region 6 with (fail)
    rcases oP with _ | _
    · cases HOP.out
    · obtain ⟨qa, oa, nn, rfl, rfl, hnn, hq, hqB⟩ := HPL.out rfl
      have GV : w.grownBy V6 (some B) := gg G5w.out G6 (by omega)
      have hq6 := gc GV hq hqB
      have hqw : qa < w.heap.size := block_lt_of_cell hq
      have hqu : qa ≠ Bu := by omega
      have hwu : w.heap.size ≠ Bu := by omega
      have cc96 := R6.c96
      have C96 : ∀ W, V6.grownBy W (some Bu) → W.cell? ⟨B, 96, none⟩ = some (.slice (some ⟨qa, oa, none⟩) np pc) := fun _ h => gc h cc96 n2
      have Z1 : ∀ W, V6.grownBy W (some Bu) → W.cell? ⟨w.heap.size, 1, none⟩ = some (.int .i64 (nn : Int)) := fun _ h => gc h z1 hwu
      have PQ : ∀ W, V6.grownBy W (some Bu) → W.cell? ⟨qa, oa + nn, none⟩ = some (.pointer pt) := fun _ h => gc h hq6 hqu
      have i0 : (0 : Int) ≤ (nn : Int) := by omega
      have i1 : (nn : Int) < (np : Int) := by omega
      go_upto_region 7 with (fail)
      refine wp_region_held_drew (S := fun W => V6.grownBy W (some Bu)) (by kernel_rfl) (gd1 (gr _ _)) (fun hHeld => ?_)
      refine wpAnyH_take (i := 0) (v := ?_) rfl (by kernel_rfl) (by kernel_rfl) (by kernel_rfl) (fun _ _ _ h => h) (Or.inl ⟨by rfl, ?_⟩) (by assumption) ?_
      rotate_left
      · intro w hSw; (try dsimp only at hSw); go_simp; try with_reducible rfl
      try simp only [Act.put, List.getElem_toArray, List.getElem_cons_zero, List.setIfInBounds_toArray, List.set_cons_zero, List.set_cons_succ]
      refine wpAnyH_take (i := 1) (v := ?_) rfl (by kernel_rfl) (by kernel_rfl) (by kernel_rfl) (fun _ _ _ h => h) (Or.inl ⟨by rfl, ?_⟩) (by assumption) ?_
      rotate_left
      · intro w hSw; (try dsimp only at hSw); go_simp; try with_reducible rfl
      try simp only [Act.put, List.getElem_toArray, List.getElem_cons_zero, List.getElem_cons_succ, List.setIfInBounds_toArray, List.set_cons_zero, List.set_cons_succ]
      refine wpAnyH_take (i := 2) (v := ?_) rfl (by kernel_rfl) (by kernel_rfl) (by kernel_rfl) (fun _ _ _ h => h) (Or.inl ⟨by rfl, ?_⟩) (by assumption) ?_
      rotate_left
      · intro w hSw; (try dsimp only at hSw); go_simp; try with_reducible rfl
      try simp only [Act.put, List.getElem_toArray, List.getElem_cons_zero, List.getElem_cons_succ, List.setIfInBounds_toArray, List.set_cons_zero, List.set_cons_succ]
      refine wpAnyH_take (i := 3) (v := ?_) rfl (by kernel_rfl) (by kernel_rfl) (by kernel_rfl) (fun _ _ _ h => h) (Or.inl ⟨by rfl, ?_⟩) (by assumption) ?_
      rotate_left
      · intro w hSw; (try dsimp only at hSw); go_simp; try with_reducible rfl
      try simp only [Act.put, List.getElem_toArray, List.getElem_cons_zero, List.getElem_cons_succ, List.setIfInBounds_toArray, List.set_cons_zero, List.set_cons_succ]
      refine wpAnyH_take (i := 4) (v := ?_) rfl (by kernel_rfl) (by kernel_rfl) (by kernel_rfl) (fun _ _ _ h => h) (Or.inl ⟨by rfl, ?_⟩) (by assumption) ?_
      rotate_left
      · intro w hSw; (try dsimp only at hSw); go_simp; try with_reducible rfl
      try simp only [Act.put, List.getElem_toArray, List.getElem_cons_zero, List.getElem_cons_succ, List.setIfInBounds_toArray, List.set_cons_zero, List.set_cons_succ]
      refine wpAnyH_take (i := 5) (v := ?_) rfl (by kernel_rfl) (by kernel_rfl) (by kernel_rfl) (fun _ _ _ h => h) (Or.inl ⟨by rfl, ?_⟩) (by assumption) ?_
      rotate_left
      · intro w hSw; (try dsimp only at hSw); go_simp; try with_reducible rfl
      try simp only [Act.put, List.getElem_toArray, List.getElem_cons_zero, List.getElem_cons_succ, List.setIfInBounds_toArray, List.set_cons_zero, List.set_cons_succ]
      refine wpAnyH_take (i := 6) (v := ?_) rfl (by kernel_rfl) (by kernel_rfl) (by kernel_rfl) (fun _ _ _ h => h) (Or.inl ⟨by rfl, ?_⟩) (by assumption) ?_
      rotate_left
      · intro w hSw; (try dsimp only at hSw); go_simp; try with_reducible rfl
      try simp only [Act.put, List.getElem_toArray, List.getElem_cons_zero, List.getElem_cons_succ, List.setIfInBounds_toArray, List.set_cons_zero, List.set_cons_succ]
      refine wpAnyH_take (i := 7) (v := ?_) rfl (by kernel_rfl) (by kernel_rfl) (by kernel_rfl) (fun _ _ _ h => h) (Or.inl ⟨by rfl, ?_⟩) (by assumption) ?_
      rotate_left
      · intro w hSw; (try dsimp only at hSw); go_simp; try with_reducible rfl
      try simp only [Act.put, List.getElem_toArray, List.getElem_cons_zero, List.getElem_cons_succ, List.setIfInBounds_toArray, List.set_cons_zero, List.set_cons_succ]
      refine wpAnyH_take (i := 8) (v := ?_) rfl (by kernel_rfl) (by kernel_rfl) (by kernel_rfl) (fun _ _ _ h => h) (Or.inl ⟨by rfl, ?_⟩) (by assumption) ?_
      rotate_left
      · intro w hSw; (try dsimp only at hSw); go_simp; try with_reducible rfl
      try simp only [Act.put, List.getElem_toArray, List.getElem_cons_zero, List.getElem_cons_succ, List.setIfInBounds_toArray, List.set_cons_zero, List.set_cons_succ]
      refine wpAnyH_ready (rs := [9]) (by kernel_rfl) (by simp) ?_
      refine AllReadyH.cons rfl (fun K hK => ?_) AllReadyH.nil
      go_simp
      try dsimp only
      refine hK.out _ _ (gs hHeld _) (fun hHeld => ?_)
      clear hK K
      try simp only [Act.put, List.getElem_toArray, List.getElem_cons_zero, List.getElem_cons_succ, List.setIfInBounds_toArray, List.set_cons_zero, List.set_cons_succ]
      refine wpAnyH_done (by kernel_rfl) ?_ _
      have GY : V6.grownBy (V6.setCell ⟨Bu, 4, none⟩ (.pointer pt)).drew (some Bu) := gd1 (gs (gr _ _) _)
      replace R6 := ru_grown R6 GY n2
      have G6' : V5.grownBy (V6.setCell ⟨Bu, 4, none⟩ (.pointer pt)).drew (some Bu) := gd1 (gs G6 _)
      replace z4 := gc GY z4 n3
      replace z5 := gc GY z5 n3
      replace z1 := gc GY z1 hwu
      replace z2 := gc GY z2 n3
      replace pf4 : (V6.setCell ⟨Bu, 4, none⟩ (.pointer pt)).drew.frozen? ⟨Bu, 4, none⟩ = false := fz_set pf4
      replace p0 : (V6.setCell ⟨Bu, 4, none⟩ (.pointer pt)).drew.cell? ⟨Bu, 0, none⟩ = _ := far_cell p0 (.inr (by omega))
      replace p1 : (V6.setCell ⟨Bu, 4, none⟩ (.pointer pt)).drew.cell? ⟨Bu, 1, none⟩ = _ := far_cell p1 (.inr (by omega))
      replace p2 : (V6.setCell ⟨Bu, 4, none⟩ (.pointer pt)).drew.cell? ⟨Bu, 2, none⟩ = _ := far_cell p2 (.inr (by omega))
      replace p3 : (V6.setCell ⟨Bu, 4, none⟩ (.pointer pt)).drew.cell? ⟨Bu, 3, none⟩ = _ := far_cell p3 (.inr (by omega))
      replace p4 : (V6.setCell ⟨Bu, 4, none⟩ (.pointer pt)).drew.cell? ⟨Bu, 4, none⟩ = some (.pointer pt) := same_cell p4
      clear G6 GY C96 Z1 PQ hq6 cc96 GV hHeld
      have G6 := G6'
      clear G6'
      generalize (V6.setCell ⟨Bu, 4, none⟩ (.pointer pt)).drew = V6 at *
      go_step
      have GW : w.grownBy V6 (some B) := gg G5w.out G6 (by omega)
      have DC := Lib.hid (HDO.out V6 GW)
      unfold useV at DC
      have hent := HEN.out
      unfold Enters at hent
      have pul := PU1.out
      have pu8 := HPU.out
      clear HDO HEN HPU HPT PU1 G5w ST
      go_upto_region 9 with ((with_reducible refine DC.out.mono ?_); rintro e V7 ⟨rfl, V8, hb7, rfl⟩)
      have R7 := ru_below R6 hb7
      have GW7 := gt GW hb7
      replace z4 := kc hb7 z4
      clear z1 z2 z5 p0 p1 p2 p3 p4 pf4 hb7 DC R6 GW G6 hent pul pu8
      obtain rfl := HP0.out
      have hkp : Bk ≠ pq := by omega
      have z9 : (V8.setCell ⟨pq, pf, none⟩ (.int .i64 aP)).cell? ⟨Bk, 4, none⟩ = some (.int .i64 ((0 : Nat) : Int)) := far_cell z4 (.inl hkp)
      go_wp2_with fail
      go_ret
      exact ⟨rfl, V8, GW7, R7, rfl⟩
end Go.Proofs.Ytdgagjcocohnnaa.Mc
