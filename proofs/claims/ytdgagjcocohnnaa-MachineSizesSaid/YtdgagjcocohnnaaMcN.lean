/-
  Layer 9 (machine): Run.
-/
import Derived.Test.YtdgagjcocohnnaaMcJ
import Derived.Test.YtdgagjcocohnnaaMcM
import Derived.Deep.WholeRow
namespace Go.Proofs.Ytdgagjcocohnnaa.Mc
open Go.RowKit
open Go.Proofs.Ytdgagjcocohnnaa.Ot (Pt PtAt PO OO OT pre pre_mono shP p0 Shift_any)
/-- The points of an outline by their numbers. -/
def fl (ns : Nat → Nat) (g : Nat → Nat → Pt) : Nat → Nat → Pt
  | 0, _ => p0
  | N + 1, n => if n < pre ns N then fl ns g N n else g N (n - pre ns N)
theorem fl_at {ns : Nat → Nat} {g : Nat → Nat → Pt} {k i : Nat} (hi : i < ns k) : ∀ {N : Nat}, k < N → fl ns g N (pre ns k + i) = g k i
  | 0, h => absurd h (Nat.not_lt_zero _)
  | N + 1, h => by
    rw [fl]
    by_cases e : k = N
    · subst e
      rw [if_neg (by omega), Nat.add_sub_cancel_left]
    · have := pre_mono ns (show k + 1 ≤ N by omega)
      rw [pre] at this
      rw [if_pos (by omega)]
      exact fl_at hi (by omega)
def RunP (N : Nat) (ns : Nat → Nat) (res : Res) (w : World) (e : Ending) (w' : World) : Prop :=
  (∀ s, res = .ok s → ∃ S Bk, e = .returned (.tuple #[.slice (some ⟨S, 0, none⟩) N N, .int .i64 s.st, .int .i64 0]) ∧ OO w' w.heap.size S N ns Bk (fun k i => s.f (pre ns k + i)) ∧ Below w.heap.size w w') ∧
  (∀ E, res = .er E → e = .returned (.tuple #[.slice none 0 0, .int .i64 0, .int .i64 E]) ∧ Below w.heap.size w w')
/-- A run at its beginning, as the program's value. -/
def RV (sl : Value) (sz : Int) : Array Value := KV ++ #[sl, .int .i64 sz, .int .i64 0, .int .i64 0, .int .i64 0, .int .i64 0, .int .i64 0, .int .i64 0, .int .i64 0, .int .i64 0, .int .i64 0, .int .i64 0]
theorem rv_size (sl : Value) (sz : Int) : (RV sl sz).size = 108 := by kernel_rfl
theorem rv_one (pa : Option Addr) (n c : Nat) (sz : Int) : (RV (.slice pa n c) sz).all (·.oneCell') = true := by
  unfold RV
  rw [Array.all_append, kv_one, Bool.true_and]
  simp [Value.oneCell']
theorem oo_gr {V V' : World} {n₀ S N r : Nat} {ns Bk : Nat → Nat} {g : Nat → Nat → Pt} (h : OO V n₀ S N ns Bk g) (hG : V.grownBy V' (some r)) (hr : r < n₀) : OO V' n₀ S N ns Bk g :=
  ⟨h.lo, fun k hk => by
    obtain ⟨a, c, e, h1, h2, h3⟩ := h.cell k hk
    exact ⟨a, c, gc hG e (by have := h.lo; omega), h1, h2, h3⟩, fun k hk => Go.Proofs.Ytdgagjcocohnnaa.Ot.po_grown (h.pts k hk) hG (fun h0 => by have := (h.far k hk h0).1; omega), h.far, h.own⟩
theorem oo_drew {V : World} {n₀ S N : Nat} {ns Bk : Nat → Nat} {g : Nat → Nat → Pt} (h : OO V n₀ S N ns Bk g) : OO V.drew n₀ S N ns Bk g := Go.Proofs.Ytdgagjcocohnnaa.Ot.oo_below h (bd1 (Below.refl _ _))
theorem dB {B : Nat} {w u : World} (h : Below B w u) : Below B w u.drew := ⟨h.os, h.tape, h.output, h.size, h.block⟩
theorem fB {B : Nat} {w a : World} (h : Below B w a) {b o : Nat} {t : Bool} (hb : b < B) (f : w.frozen? ⟨b, o, none⟩ = t) : a.frozen? ⟨b, o, none⟩ = t := by
  rw [h.frozen (p := ⟨b, o, none⟩) hb]; exact f
theorem wp_skip_of {P : Program} {o : Oper} {a : Act} {w w' : World} {K : Act → World → Prop} {Q : Exit → Act → World → Prop} (h : (execOp a.eval o).run P w = .ok .skip w') (hk : K (a.put o.dst undef) w') : o.wp P a w K Q := by
  unfold Oper.wp
  rw [h]
  exact hk
theorem store_ex {P : Program} {ev : Operand → Value} {o : Oper} {t : TypeId} {x y : Operand} {ad : Addr} {v : Value} {W W' : World} (ho : o.op = .store t x y) (hx : ev x = .pointer (some ad)) (hy : ev y = v) (hs : (storeVar t ad v).run P W = .ok () W') : (execOp ev o).run P W = .ok .skip W' := by
  unfold execOp
  rw [ho]
  simp [Instr.storeAt, Instr.sureAddr, hx, hy, hs]
theorem build_ex {P : Program} {ev : Operand → Value} {o : Oper} {t : TypeId} {x y z : Operand} {u v q r : Value} {W : World} (ho : o.op = .build t #[(0, x), (1, y), (2, z)]) (hx : ev x = u) (hy : ev y = v) (hz : ev z = q) (hs : (Instr.build t #[(0, u), (1, v), (2, q)]).run P W = .ok r W) : (execOp ev o).run P W = .ok (.value r) W := by
  unfold execOp
  rw [ho]
  simp [hx, hy, hz, hs]
theorem za_last {V u : World} {o : Obj} (_ : Below V.heap.size V (u.alloc o)) : (u.alloc o).heap[u.heap.size]? = some o := heap_alloc_last u o
theorem za_last' {V u : World} {o : Obj} (_ : Below V.heap.size V (u.alloc o).drew) : (u.alloc o).drew.heap[u.heap.size]? = some o := heap_alloc_last u o
theorem hz_keep {W W' : World} {B : Nat} {o : Obj} (h : Below W.heap.size W W') (hz : W.heap[B]? = some o) : W'.heap[B]? = some o := (h.block B (Array.getElem?_eq_some_iff.1 hz).1).trans hz
/-- The pointers to all points. -/
def PtA (N : Nat) (ns Bk : Nat → Nat) (pa : Option Addr) (n B : Nat) (W : World) : Prop := ∀ k i, k < N → i < ns k → ∃ q o, pa = some ⟨q, o, none⟩ ∧ W.cell? ⟨q, o + (pre ns k + i), none⟩ = some (.pointer (some ⟨Bk k, i * 3, none⟩)) ∧ q ≠ B ∧ n ≤ q
theorem rv_at {sl : Value} {sz : Int} {W : World} {B : Nat} (hz : W.heap[B]? = some (.cells (RV sl sz) 71 (0, 0))) (j : Nat) : W.cell? ⟨B, j, none⟩ = (RV sl sz)[j]? ∧ W.frozen? ⟨B, j, none⟩ = false :=
  ⟨cell_of_row W B j _ _ _ hz, frozen_of_row W B j _ _ hz⟩
theorem ru_new {pa : Option Addr} {np pc : Nat} {sz : Int} {W : World} {B : Nat} (hz : W.heap[B]? = some (.cells (RV (.slice pa np pc) sz) 71 (0, 0))) : RuA B pa np pc sz [] 0 W := by
  have H := rv_at hz
  have K : ∀ j, j < 96 → (RV (.slice pa np pc) sz)[j]? = KV[j]? := fun j hj => by
    unfold RV
    exact Array.getElem?_append_left (by rw [kv_size]; exact hj)
  have R : ∀ j, j < 12 → (RV (.slice pa np pc) sz)[96 + j]? = (#[.slice pa np pc, .int .i64 sz, .int .i64 0, .int .i64 0, .int .i64 0, .int .i64 0, .int .i64 0, .int .i64 0, .int .i64 0, .int .i64 0, .int .i64 0, .int .i64 0] : Array Value)[j]? := fun j hj => by
    unfold RV
    rw [Array.getElem?_append_right (by rw [kv_size]; omega), kv_size, Nat.add_sub_cancel_left]
  refine ⟨fun k h1 h2 => ?_, (H 96).1.trans (R 0 (by omega)), (H 97).1.trans (R 1 (by omega)), (H 98).1.trans (R 2 (by omega)), (H 98).2, fun i hi => ⟨0, ?_, (H _).2, fun x hx => by cases hx⟩, (H 107).1.trans (R 11 (by omega)), (H 107).2, Nat.zero_le _⟩
  · obtain ⟨a, b, c, d, e, f⟩ := kv_row k h1 h2
    exact ⟨(H _).1.trans ((K _ (by omega)).trans a), (H _).1.trans ((K _ (by omega)).trans b), (H _).1.trans ((K _ (by omega)).trans c), (H _).1.trans ((K _ (by omega)).trans d), (H _).1.trans ((K _ (by omega)).trans e), (H _).1.trans ((K _ (by omega)).trans f)⟩
  · rw [show 99 + i = 96 + (3 + i) by omega]
    refine (H _).1.trans ((R (3 + i) (by omega)).trans ?_)
    obtain rfl | rfl | rfl | rfl | rfl | rfl | rfl | rfl : i = 0 ∨ i = 1 ∨ i = 2 ∨ i = 3 ∨ i = 4 ∨ i = 5 ∨ i = 6 ∨ i = 7 := by omega
    all_goals rfl
theorem mac_new {n₀ S N B qc : Nat} {ns Bk : Nat → Nat} {f : Nat → Pt} {qa : Option Addr} {sz : Int} {V W : World} {Z : Array Value} (hO : OO V n₀ S N ns Bk (fun k i => f (pre ns k + i))) (hn : n₀ ≤ V.heap.size) (hW : Below V.heap.size V W) (hB : V.heap.size ≤ B)
    (hz : W.heap[B]? = some (.cells Z 71 (0, 0))) (hp : PtA N ns Bk qa V.heap.size B W) :
    Mac n₀ S N (pre ns N) qc B qa ns Bk sz ⟨[], 0, f⟩ (W.setRow B (RV (.slice qa (pre ns N) qc) sz)) ∧ Below V.heap.size V (W.setRow B (RV (.slice qa (pre ns N) qc) sz)) := by
  have hb : Below V.heap.size V (W.setRow B (RV (.slice qa (pre ns N) qc) sz)) := ⟨hW.os, hW.tape, hW.output, by rw [size_setRow]; exact hW.size, fun i hi => (setRow_other W B i _ (by omega)).trans (hW.block i hi)⟩
  have hz2 := setRow_heap W B Z (RV (.slice qa (pre ns N) qc) sz) _ _ hz
  refine ⟨⟨ru_new hz2, (Array.getElem?_eq_some_iff.1 hz2).1, by omega, Go.Proofs.Ytdgagjcocohnnaa.Ot.oo_below hO hb, fun h0 => ?_, fun k hk h0 => ?_, rfl, fun k i hk hi => ?_, fun x hx => (by cases hx), ⟨Int.le_refl _, show (0 : Int) ≤ 2000 by decide⟩⟩, hb⟩
  · obtain ⟨a, c, e, _⟩ := hO.cell 0 h0
    have := block_lt_of_cell e
    simp only at this
    omega
  · have := block_lt_of_cell (hO.pts k hk 0 h0).1.1
    simp only at this
    omega
  · obtain ⟨q, o, e, h1, h2, h3⟩ := hp k i hk hi
    refine ⟨q, o, e, ?_, h2, fun k' hk' h0 => ?_⟩
    · have h9 := setRow_other W B q (RV (.slice qa (pre ns N) qc) sz) h2
      unfold World.cell? at h1 ⊢
      rw [h9]
      exact h1
    · have := block_lt_of_cell (hO.pts k' hk' 0 h0).1.1
      simp only at this
      omega
set_option maxRecDepth 100000 in
set_option maxHeartbeats 16000000 in
theorem Run_any (a : Option Addr) (N c : Nat) (ns : Nat → Nat) (g : Nat → Nat → Pt) (hN : N ≤ 1000000) (hs : pre ns N ≤ 1000000) (l : List Opn) (pa : Option Addr) (pc : Nat) (hpc : l.length ≤ pc ∧ pc ≤ 9223372036854775807) (sz : Int) (w : World) (hA : OT w a N ns g) (hp : PrA w.heap.size w pa l) :
    Calls Try.prog 12 #[.slice pa l.length pc, .slice a N c, .int .i64 sz] w (RunP N ns (runL (pre ns N : Nat) sz l 0 ⟨[], 0, fl ns (fun k i => shP 0 0 (g k i)) N⟩) w) := by
  have hmf : ∀ (fn : Fn) (first cap : Array Value) (w : World), (Instr.makeFunc fn first cap).run Try.prog w = .ok (.func fn first cap) w := fun _ _ _ _ => rfl
  have SH := Lib.hid (fun W (h : Below w.heap.size w W) => Shift_any a N c ns g 0 0 hN hs W (Go.Proofs.Ytdgagjcocohnnaa.Ot.ot_below hA h))
  have HP := Lib.hid hp
  clear hA hp
  obtain ⟨f0s, hf0s⟩ : ∃ f, f = fl ns (fun k i => shP 0 0 (g k i)) N := ⟨_, rfl⟩
  rw [← hf0s]
  have HF0 := Lib.hid hf0s
  clear hf0s
  obtain ⟨RES, hRES⟩ : ∃ R, R = runL (pre ns N : Nat) sz l 0 ⟨[], 0, f0s⟩ := ⟨_, rfl⟩
  rw [← hRES]
  have HRES := Lib.hid hRES
  clear hRES
  go_enter_defers Try.func12, Try.ntmps12
  go_upto_region 2 with (fail)
  have hb0 : Below w.heap.size w (((w.alloc (.cells #[.slice none 0 0] 28)).alloc (.cells #[.int .i64 0] 3)).alloc (.cells #[.int .i64 0] 36)) := ba (ba (ba (Below.refl _ _) _) _) _
  have c0 : (((w.alloc (.cells #[.slice none 0 0] 28)).alloc (.cells #[.int .i64 0] 3)).alloc (.cells #[.int .i64 0] 36)).cell? ⟨w.heap.size, 0, none⟩ = some (.slice none 0 0) := by go_cell
  have f0 : (((w.alloc (.cells #[.slice none 0 0] 28)).alloc (.cells #[.int .i64 0] 3)).alloc (.cells #[.int .i64 0] 36)).frozen? ⟨w.heap.size, 0, none⟩ = false := by go_cell
  have c1 : (((w.alloc (.cells #[.slice none 0 0] 28)).alloc (.cells #[.int .i64 0] 3)).alloc (.cells #[.int .i64 0] 36)).cell? ⟨w.heap.size + 1, 0, none⟩ = some (.int .i64 0) := by go_cell
  have f1 : (((w.alloc (.cells #[.slice none 0 0] 28)).alloc (.cells #[.int .i64 0] 3)).alloc (.cells #[.int .i64 0] 36)).frozen? ⟨w.heap.size + 1, 0, none⟩ = false := by go_cell
  have c2 : (((w.alloc (.cells #[.slice none 0 0] 28)).alloc (.cells #[.int .i64 0] 3)).alloc (.cells #[.int .i64 0] 36)).cell? ⟨w.heap.size + 1 + 1, 0, none⟩ = some (.int .i64 0) := by go_cell
  have f2 : (((w.alloc (.cells #[.slice none 0 0] 28)).alloc (.cells #[.int .i64 0] 3)).alloc (.cells #[.int .i64 0] 36)).frozen? ⟨w.heap.size + 1 + 1, 0, none⟩ = false := by go_cell
  have hn0 : (((w.alloc (.cells #[.slice none 0 0] 28)).alloc (.cells #[.int .i64 0] 3)).alloc (.cells #[.int .i64 0] 36)).heap.size = w.heap.size + 1 + 1 + 1 := by simp
  have HN0 := Lib.hid hn0
  have HB0 := Lib.hid hb0
  have SH1 := Lib.hid (SH.out _ hb0)
  clear hb0 hn0 SH
  generalize (((w.alloc (.cells #[.slice none 0 0] 28)).alloc (.cells #[.int .i64 0] 3)).alloc (.cells #[.int .i64 0] 36)) = W0 at *
  generalize hbb : w.heap.size = b0 at *
  have HBB := Lib.hid hbb
  clear hbb
  have b1 : ¬ b0 = b0 + 1 := by omega
  have b2 : ¬ b0 = b0 + 1 + 1 := by omega
  have b3 : ¬ b0 + 1 = b0 + 1 + 1 := by omega
  go_upto_region 3 with ((with_reducible refine SH1.out.mono ?_); rintro e V1 ⟨S, Bk, rfl, hO, hB1⟩; replace f0 := kf hB1 c0 f0; replace f1 := kf hB1 c1 f1; replace f2 := kf hB1 c2 f2; replace c0 := kc hB1 c0; replace c1 := kc hB1 c1; replace c2 := kc hB1 c2)
  have hG : V1.grownBy (V1.setCell ⟨b0, 0, none⟩ (.slice (some ⟨S, 0, none⟩) N N)) (some b0) := gs (gr _ _) _
  have hsl := hO.lo
  have HO2 : Hid (OO (V1.setCell ⟨b0, 0, none⟩ (.slice (some ⟨S, 0, none⟩) N N)) W0.heap.size S N ns Bk (fun k i => shP 0 0 (g k i))) := Lib.hid ⟨hO.lo, fun k hk => by
    obtain ⟨a', c', e, h1, h2, h3⟩ := hO.cell k hk
    exact ⟨a', c', gc hG e (by have := HN0.out; omega), h1, h2, h3⟩, fun k hk => Go.Proofs.Ytdgagjcocohnnaa.Ot.po_grown (hO.pts k hk) hG (fun h0 => by have := (hO.far k hk h0).1; have := HN0.out; omega), hO.far, hO.own⟩
  have c0' : (V1.setCell ⟨b0, 0, none⟩ (.slice (some ⟨S, 0, none⟩) N N)).cell? ⟨b0, 0, none⟩ = some (.slice (some ⟨S, 0, none⟩) N N) := by go_cell
  have f0' : (V1.setCell ⟨b0, 0, none⟩ (.slice (some ⟨S, 0, none⟩) N N)).frozen? ⟨b0, 0, none⟩ = false := by go_cell
  have c1' : (V1.setCell ⟨b0, 0, none⟩ (.slice (some ⟨S, 0, none⟩) N N)).cell? ⟨b0 + 1, 0, none⟩ = some (.int .i64 0) := by go_cell
  have f1' : (V1.setCell ⟨b0, 0, none⟩ (.slice (some ⟨S, 0, none⟩) N N)).frozen? ⟨b0 + 1, 0, none⟩ = false := by go_cell
  have c2' : (V1.setCell ⟨b0, 0, none⟩ (.slice (some ⟨S, 0, none⟩) N N)).cell? ⟨b0 + 1 + 1, 0, none⟩ = some (.int .i64 0) := by go_cell
  have f2' : (V1.setCell ⟨b0, 0, none⟩ (.slice (some ⟨S, 0, none⟩) N N)).frozen? ⟨b0 + 1 + 1, 0, none⟩ = false := by go_cell
  have HB2 : Hid (Below b0 w (V1.setCell ⟨b0, 0, none⟩ (.slice (some ⟨S, 0, none⟩) N N))) := Lib.hid ((HB0.out.trans (hB1.mono (by have := HN0.out; omega))).setCell (Nat.le_refl _) _)
  have HL2 : Hid (W0.heap.size ≤ (V1.setCell ⟨b0, 0, none⟩ (.slice (some ⟨S, 0, none⟩) N N)).heap.size) := Lib.hid (Nat.le_trans hB1.size hG.size)
  have hsS : Hid (b0 < S) := Lib.hid (by have := HN0.out; omega)
  clear c0 f0 c1 f1 c2 f2 hG hO hB1 SH1 hsl
  generalize V1.setCell ⟨b0, 0, none⟩ (.slice (some ⟨S, 0, none⟩) N N) = V2 at *
  have KA := Lib.hid (fun W => kinds_any W)
  have PT := Lib.hid (fun W (h : Below V2.heap.size V2 W) => pointsOf_any W0.heap.size S N ns Bk _ hN hs W (Go.Proofs.Ytdgagjcocohnnaa.Ot.oo_below HO2.out h))
  obtain ⟨RF, hRF⟩ : ∃ RF : Option Addr → Nat → Nat → Array Value, ∀ qa n c, RF qa n c = RV (.slice qa n c) sz := ⟨fun qa n c => RV (.slice qa n c) sz, fun _ _ _ => rfl⟩
  have hbl : ∀ (qa : Option Addr) (n c : Nat) (W : World), (Instr.build 71 #[(0, .agg KV), (1, .slice qa n c), (2, .int .i64 sz)]).run Try.prog W = .ok (.agg (RF qa n c)) W := fun _ _ _ _ => by rw [hRF]; kernel_rfl
  have STO := Lib.hid (fun (W : World) (B : Nat) (qa : Option Addr) (n c : Nat) (Z : Array Value) (hZ : Z.size = 108) (h : W.heap[B]? = some (.cells Z 71 (0, 0))) => run_storeVar_row (P := Try.prog) W B 71 71 Z (RF qa n c) h (by rw [hRF, rv_size]; kernel_rfl) (by rw [hRF, rv_size, hZ]) (by rw [hRF]; exact rv_one qa n c sz))
  have hZS : (Try.zeroCells71 : Array Value).size = 108 := by kernel_rfl
  have HBL := Lib.hid hbl
  have HO3 : Hid (OO V2 W0.heap.size S N ns Bk (fun k i => f0s (pre ns k + i))) := Lib.hid (Go.Proofs.Ytdgagjcocohnnaa.Ot.oo_congr HO2.out (fun k hk i hi => by rw [HF0.out]; exact (fl_at (g := fun k i => shP 0 0 (g k i)) hi hk).symm))
  go_cut [9] from 13 to 18 (fun s9 V' => ∃ B qa qc, s9 = .pointer (some ⟨B, 0, none⟩) ∧ Mac W0.heap.size S N (pre ns N) qc B qa ns Bk sz ⟨[], 0, f0s⟩ V' ∧ Below V2.heap.size V2 V')
  case rest =>
    obtain ⟨B, qa, qc, rfl, hM, hbe⟩ := hcut
    rename World => V3
    have hlo3 : W0.heap.size ≤ V3.heap.size := Nat.le_trans HL2.out hbe.size
    have hb3 : Below b0 w V3 := HB2.out.trans (hbe.mono (by have := HL2.out; have := HN0.out; omega))
    have hPr : PrA W0.heap.size V3 pa l := fun i p hp => by
      obtain ⟨b, o, e, hb, h1, h2, h3⟩ := pra_B HP.out hb3 i p hp
      exact ⟨b, o, e, by have := HN0.out; omega, h1, h2, h3⟩
    have OPC := operations_any W0.heap.size S N (pre ns N) qc B qa ns Bk sz l.length l (Nat.le_refl _) pa pc 0 ⟨[], 0, f0s⟩ V3 ⟨Int.le_refl _, by decide⟩ ⟨hM, hlo3, hpc, hPr⟩
    rw [← HRES.out] at OPC
    replace f0' := kf hbe c0' f0'
    replace c0' := kc hbe c0'
    replace f1' := kf hbe c1' f1'
    replace c1' := kc hbe c1'
    replace f2' := kf hbe c2' f2'
    replace c2' := kc hbe c2'
    have HM := Lib.hid hM
    have HB3 := Lib.hid hb3
    have HL3 := Lib.hid hlo3
    have hbB : Hid (b0 + 1 + 1 < B) := Lib.hid (by have := hM.b0; have := HN0.out; omega)
    clear hM hb3 hlo3 hbe hPr HB2 HL2 HO3 HO2 PT KA HBL hbl hRF STO HF0 HRES hZS
    obtain ⟨l', hl'⟩ : ∃ l', l.length = l' := ⟨_, rfl⟩
    rw [hl'] at OPC ⊢
    clear hl'
    cases RES with
    | ok s =>
      have OP2 : Hid (Calls Try.prog 28 #[.pointer (some ⟨B, 0, none⟩), .slice pa l' pc, .int .i64 0] V3 (fun e w' => e = .returned (.tuple #[]) ∧ Mac W0.heap.size S N (pre ns N) qc B qa ns Bk sz s w' ∧ Fr B N ns Bk V3 w')) := Lib.hid (OPC.mono (by rintro e w' ⟨h1, _, h3⟩; exact ⟨(h1 s rfl).1, (h1 s rfl).2, h3⟩))
      clear OPC
      go_upto_region 5 with ((with_reducible refine OP2.out.mono ?_); rintro e V4 ⟨rfl, hM4, hF4⟩)
      have hb4 := fr_lo HM.out hF4 HL3.out
      replace f0' := fB hb4 (by have := HN0.out; omega) f0'
      replace c0' := kB hb4 (by have := HN0.out; omega) c0'
      replace f1' := fB hb4 (by have := HN0.out; omega) f1'
      replace c1' := kB hb4 (by have := HN0.out; omega) c1'
      replace f2' := fB hb4 (by have := HN0.out; omega) f2'
      replace c2' := kB hb4 (by have := HN0.out; omega) c2'
      have c98 := hM4.ru.c98
      have R : Hid (∀ V5, V5 = (((V4.setCell ⟨b0, 0, none⟩ (.slice (some ⟨S, 0, none⟩) N N)).setCell ⟨b0 + 1, 0, none⟩ (.int .i64 s.st)).setCell ⟨b0 + 1 + 1, 0, none⟩ (.int .i64 0)).drew → OO V5 b0 S N ns Bk (fun k i => s.f (pre ns k + i)) ∧ Below b0 w V5) := Lib.hid (by
        rintro V5 rfl
        have hn := HN0.out
        have h1 := oo_gr (oo_gr (oo_gr hM4.oo (gs (gr V4 b0) (o := 0) (.slice (some ⟨S, 0, none⟩) N N)) (by omega)) (gs (gr _ (b0 + 1)) (o := 0) (.int .i64 s.st)) (by omega)) (gs (gr _ (b0 + 1 + 1)) (o := 0) (.int .i64 0)) (by omega)
        refine ⟨Go.Proofs.Ytdgagjcocohnnaa.Ot.oo_lo (oo_drew h1) (by omega), ?_⟩
        exact dB ((((HB3.out.trans (hb4.mono (by omega))).setCell (Nat.le_refl _) _).setCell (Nat.le_succ _) _).setCell (by simp only; omega) _))
      have n1 : ¬ b0 = B := by have := hbB.out; omega
      clear hM4 hF4 hb4 HM HB3 HL3 HP OP2
      have z0 : (((V4.setCell ⟨b0, 0, none⟩ (.slice (some ⟨S, 0, none⟩) N N)).setCell ⟨b0 + 1, 0, none⟩ (.int .i64 s.st)).setCell ⟨b0 + 1 + 1, 0, none⟩ (.int .i64 0)).drew.cell? ⟨b0, 0, none⟩ = some (.slice (some ⟨S, 0, none⟩) N N) := by go_cell
      have z1 : (((V4.setCell ⟨b0, 0, none⟩ (.slice (some ⟨S, 0, none⟩) N N)).setCell ⟨b0 + 1, 0, none⟩ (.int .i64 s.st)).setCell ⟨b0 + 1 + 1, 0, none⟩ (.int .i64 0)).drew.cell? ⟨b0 + 1, 0, none⟩ = some (.int .i64 s.st) := by go_cell
      have z2 : (((V4.setCell ⟨b0, 0, none⟩ (.slice (some ⟨S, 0, none⟩) N N)).setCell ⟨b0 + 1, 0, none⟩ (.int .i64 s.st)).setCell ⟨b0 + 1 + 1, 0, none⟩ (.int .i64 0)).drew.cell? ⟨b0 + 1 + 1, 0, none⟩ = some (.int .i64 0) := by go_cell
      go_region
      go_wp2_with fail
      have R2 : Hid (RunP N ns (.ok s) w (.returned (.tuple #[.slice (some ⟨S, 0, none⟩) N N, .int .i64 s.st, .int .i64 0])) (((V4.setCell ⟨b0, 0, none⟩ (.slice (some ⟨S, 0, none⟩) N N)).setCell ⟨b0 + 1, 0, none⟩ (.int .i64 s.st)).setCell ⟨b0 + 1 + 1, 0, none⟩ (.int .i64 0)).drew) := Lib.hid ⟨fun s' h => by
        injection h with h
        subst h
        rw [HBB.out]
        exact ⟨S, Bk, rfl, (R.out _ rfl).1, (R.out _ rfl).2⟩, fun E' h => (by cases h)⟩
      generalize (((V4.setCell ⟨b0, 0, none⟩ (.slice (some ⟨S, 0, none⟩) N N)).setCell ⟨b0 + 1, 0, none⟩ (.int .i64 s.st)).setCell ⟨b0 + 1 + 1, 0, none⟩ (.int .i64 0)).drew = X at *
      refine leaves_cons (f := 24) (args := #[.pointer (some ⟨b0, 0, none⟩), .pointer (some ⟨b0 + 1, 0, none⟩), .pointer (some ⟨b0 + 1 + 1, 0, none⟩)]) (by simp) (by simp [go_sem]) ?_
      refine (catch_idle ⟨b0, 0, none⟩ ⟨b0 + 1, 0, none⟩ ⟨b0 + 1 + 1, 0, none⟩ X).mono ?_
      rintro e u' w'' ⟨rfl, rfl, rfl⟩
      simp [Leaves, settle, results, Try.results12, go_sem, z0, z1, z2]
      exact R2.out
    | er E =>
      have OP2 : Hid (Calls Try.prog 28 #[.pointer (some ⟨B, 0, none⟩), .slice pa l' pc, .int .i64 0] V3 (fun e w' => e = .panicked [{ v := .iface 36 (.int .i64 E), recovered := false }] ∧ Fr B N ns Bk V3 w')) := Lib.hid (OPC.mono (by rintro e w' ⟨_, h2, h3⟩; exact ⟨h2 E rfl, h3⟩))
      clear OPC
      go_wp2_with ((with_reducible refine OP2.out.mono ?_); rintro e V4 ⟨rfl, hF4⟩)
      have hb4 := fr_lo HM.out hF4 HL3.out
      replace f0' := fB hb4 (by have := HN0.out; omega) f0'
      replace c0' := kB hb4 (by have := HN0.out; omega) c0'
      replace f1' := fB hb4 (by have := HN0.out; omega) f1'
      replace c1' := kB hb4 (by have := HN0.out; omega) c1'
      replace f2' := fB hb4 (by have := HN0.out; omega) f2'
      replace c2' := kB hb4 (by have := HN0.out; omega) c2'
      refine leaves_cons (f := 24) (args := #[.pointer (some ⟨b0, 0, none⟩), .pointer (some ⟨b0 + 1, 0, none⟩), .pointer (some ⟨b0 + 1 + 1, 0, none⟩)]) (by simp) (by simp [go_sem]) ?_
      refine (catch_panicking b0 _ _ _ E [] _ c0' f0' c1' f1' c2' f2').mono ?_
      rintro e u' w'' ⟨rfl, rfl, rfl⟩
      have R : Hid (RunP N ns (.er E) w (.returned (.tuple #[.slice none 0 0, .int .i64 0, .int .i64 E])) (((V4.setCell ⟨b0, 0, none⟩ (.slice none 0 0)).setCell ⟨b0 + 1, 0, none⟩ (.int .i64 0)).setCell ⟨b0 + 1 + 1, 0, none⟩ (.int .i64 E)).drew) := Lib.hid ⟨fun s h => (by cases h), fun E' h => by
        injection h with h
        subst h
        refine ⟨rfl, ?_⟩
        rw [HBB.out]
        have hn := HN0.out
        exact dB ((((HB3.out.trans (hb4.mono (by omega))).setCell (Nat.le_refl _) _).setCell (Nat.le_succ _) _).setCell (by simp only; omega) _)⟩
      have z0 : (((V4.setCell ⟨b0, 0, none⟩ (.slice none 0 0)).setCell ⟨b0 + 1, 0, none⟩ (.int .i64 0)).setCell ⟨b0 + 1 + 1, 0, none⟩ (.int .i64 E)).drew.cell? ⟨b0, 0, none⟩ = some (.slice none 0 0) := by go_cell
      have z1 : (((V4.setCell ⟨b0, 0, none⟩ (.slice none 0 0)).setCell ⟨b0 + 1, 0, none⟩ (.int .i64 0)).setCell ⟨b0 + 1 + 1, 0, none⟩ (.int .i64 E)).drew.cell? ⟨b0 + 1, 0, none⟩ = some (.int .i64 0) := by go_cell
      have z2 : (((V4.setCell ⟨b0, 0, none⟩ (.slice none 0 0)).setCell ⟨b0 + 1, 0, none⟩ (.int .i64 0)).setCell ⟨b0 + 1 + 1, 0, none⟩ (.int .i64 E)).drew.cell? ⟨b0 + 1 + 1, 0, none⟩ = some (.int .i64 E) := by go_cell
      generalize (((V4.setCell ⟨b0, 0, none⟩ (.slice none 0 0)).setCell ⟨b0 + 1, 0, none⟩ (.int .i64 0)).setCell ⟨b0 + 1 + 1, 0, none⟩ (.int .i64 E)).drew = X at *
      simp [Leaves, settle, results, Try.results12, go_sem, z0, z1, z2]
      exact R.out
  case first =>
    have HRF := Lib.hid hRF
    clear hbl hRF
    generalize KV = K at *
    have C0 : ∀ W, Below V2.heap.size V2 W → W.cell? ⟨b0, 0, none⟩ = some (.slice (some ⟨S, 0, none⟩) N N) := fun _ h => kc h c0'
    refine wp_region_noPanic ?_
    refine wp_region_held_drew (S := fun w' => Below V2.heap.size V2 w') (by kernel_rfl) (bd1 (Below.refl _ _)) (fun hHeld => ?_)
    refine wpAnyH_take (i := 1) (v := ?_) rfl (by kernel_rfl) (by kernel_rfl) (by kernel_rfl) (fun _ _ _ h => h) (Or.inl ⟨by rfl, ?_⟩) (by assumption) ?_
    rotate_left
    · intro w hSw; (try dsimp only at hSw); go_simp; try with_reducible rfl
    try simp only [Act.put, List.getElem_toArray, List.getElem_cons_zero, List.getElem_cons_succ, List.setIfInBounds_toArray, List.set_cons_zero, List.set_cons_succ]
    refine wpAnyH_take (i := 3) (v := ?_) rfl (by kernel_rfl) (by kernel_rfl) (by kernel_rfl) (fun _ _ _ h => h) (Or.inl ⟨by rfl, ?_⟩) (by assumption) ?_
    rotate_left
    · intro w hSw; (try dsimp only at hSw); go_simp; try with_reducible rfl
    try simp only [Act.put, List.getElem_toArray, List.getElem_cons_zero, List.getElem_cons_succ, List.setIfInBounds_toArray, List.set_cons_zero, List.set_cons_succ]
    refine wpAnyH_ready (rs := [0, 5]) (by kernel_rfl) (by simp) ?_
    refine AllReadyH.cons rfl (fun K hK => ?_) (AllReadyH.cons rfl (fun K hK => ?_) AllReadyH.nil)
    · go_simp
      with_reducible refine (KA.out _).mono ?_
      rintro e w1 ⟨rfl, hw1⟩
      try dsimp only
      refine hK.out _ _ (bt hHeld hw1) (fun hHeld => ?_)
      clear hK K
      try simp only [Act.put, List.getElem_toArray, List.getElem_cons_zero, List.getElem_cons_succ, List.setIfInBounds_toArray, List.set_cons_zero, List.set_cons_succ]
      have hs1 := hw1.size
      have hHeld0 := hHeld.size
      try (replace hz := hz_keep hw1 hz)
      refine wpAnyH_ready (rs := [2, 5]) (by kernel_rfl) (by simp) ?_
      refine AllReadyH.cons rfl (fun K hK => ?_) (AllReadyH.cons rfl (fun K hK => ?_) AllReadyH.nil)
      · go_simp
        with_reducible refine (PT.out _ hHeld).mono ?_
        rintro e w2 ⟨qa, qc, rfl, hw2, hpp⟩
        try dsimp only
        refine hK.out _ _ (bt hHeld hw2) (fun hHeld => ?_)
        clear hK K
        try simp only [Act.put, List.getElem_toArray, List.getElem_cons_zero, List.getElem_cons_succ, List.setIfInBounds_toArray, List.set_cons_zero, List.set_cons_succ]
        try (replace hz := hz_keep hw2 hz)
        replace hpp := Lib.hid hpp
        refine wpAnyH_take (i := 4) (v := .agg (RF qa (pre ns N) qc)) rfl (by kernel_rfl) (by kernel_rfl) (by kernel_rfl) (fun _ _ _ h => h) (Or.inl ⟨by rfl, ?_⟩) (by assumption) ?_
        · intro w hSw; exact build_ex (u := .agg K) (v := .slice qa (pre ns N) qc) (q := .int .i64 sz) rfl rfl rfl rfl (HBL.out _ _ _ _)
        try simp only [Act.put, List.getElem_toArray, List.getElem_cons_zero, List.getElem_cons_succ, List.setIfInBounds_toArray, List.set_cons_zero, List.set_cons_succ]
        refine wpAnyH_ready (rs := [5]) (by kernel_rfl) (by simp) ?_
        refine AllReadyH.cons rfl (fun K hK => ?_) AllReadyH.nil
        go_simp
        try dsimp only
        refine hK.out _ _ (ba hHeld _) (fun hHeld => ?_)
        clear hK K
        try simp only [Act.put, List.getElem_toArray, List.getElem_cons_zero, List.getElem_cons_succ, List.setIfInBounds_toArray, List.set_cons_zero, List.set_cons_succ]
        have hz := (by first | exact za_last hHeld | exact za_last' hHeld)
        refine wpAnyH_ready (rs := [6]) (by kernel_rfl) (by simp) ?_
        refine AllReadyH.cons rfl (fun K hK => ?_) AllReadyH.nil
        refine (if_pos (by kernel_rfl)).mpr ?_
        refine wp_skip_of (store_ex rfl rfl rfl (STO.out _ _ _ _ _ _ hZS hz)) ?_
        have MN := mac_new (sz := sz) (qc := qc) (qa := qa) HO3.out HL2.out hHeld (by first | exact Nat.le_refl _ | (have q2 := hw2.size; have q1 := hs1; simp at q1 q2 ⊢; omega)) hz (fun k i hk hi => by
          obtain ⟨q, o, e, h1, h2⟩ := hpp.out k i hk hi
          have hlt := block_lt_of_cell h1
          refine ⟨q, o, e, (by first | exact h1 | exact kc (ba (Below.refl _ _) _) h1), ?_, ?_⟩
          · intro e9
            have q1 := hs1
            simp at hlt h2 q1
            omega
          · have q1 := hs1
            simp at hlt h2 q1
            omega)
        rw [← HRF.out] at MN
        refine hK.out _ _ MN.2 (fun hHeld2 => ?_)
        clear hK K
        try simp only [Act.put, List.getElem_toArray, List.getElem_cons_zero, List.getElem_cons_succ]
        refine wpAnyH_done (by kernel_rfl) ?_ _
        refine NoPanic.normal ?_
        go_step
        go_step
        go_meet
        exact ⟨_, _, _, rfl, MN.1, MN.2⟩
      · go_simp
        try dsimp only
        refine hK.out _ _ (ba hHeld _) (fun hHeld => ?_)
        clear hK K
        try simp only [Act.put, List.getElem_toArray, List.getElem_cons_zero, List.getElem_cons_succ, List.setIfInBounds_toArray, List.set_cons_zero, List.set_cons_succ]
        have hz := (by first | exact za_last hHeld | exact za_last' hHeld)
        refine wpAnyH_ready (rs := [2]) (by kernel_rfl) (by simp) ?_
        refine AllReadyH.cons rfl (fun K hK => ?_) AllReadyH.nil
        go_simp
        with_reducible refine (PT.out _ hHeld).mono ?_
        rintro e w2 ⟨qa, qc, rfl, hw2, hpp⟩
        try dsimp only
        refine hK.out _ _ (bt hHeld hw2) (fun hHeld => ?_)
        clear hK K
        try simp only [Act.put, List.getElem_toArray, List.getElem_cons_zero, List.getElem_cons_succ, List.setIfInBounds_toArray, List.set_cons_zero, List.set_cons_succ]
        try (replace hz := hz_keep hw2 hz)
        replace hpp := Lib.hid hpp
        refine wpAnyH_take (i := 4) (v := .agg (RF qa (pre ns N) qc)) rfl (by kernel_rfl) (by kernel_rfl) (by kernel_rfl) (fun _ _ _ h => h) (Or.inl ⟨by rfl, ?_⟩) (by assumption) ?_
        · intro w hSw; exact build_ex (u := .agg K) (v := .slice qa (pre ns N) qc) (q := .int .i64 sz) rfl rfl rfl rfl (HBL.out _ _ _ _)
        try simp only [Act.put, List.getElem_toArray, List.getElem_cons_zero, List.getElem_cons_succ, List.setIfInBounds_toArray, List.set_cons_zero, List.set_cons_succ]
        refine wpAnyH_ready (rs := [6]) (by kernel_rfl) (by simp) ?_
        refine AllReadyH.cons rfl (fun K hK => ?_) AllReadyH.nil
        refine (if_pos (by kernel_rfl)).mpr ?_
        refine wp_skip_of (store_ex rfl rfl rfl (STO.out _ _ _ _ _ _ hZS hz)) ?_
        have MN := mac_new (sz := sz) (qc := qc) (qa := qa) HO3.out HL2.out hHeld (by first | exact Nat.le_refl _ | (have q2 := hw2.size; have q1 := hs1; simp at q1 q2 ⊢; omega)) hz (fun k i hk hi => by
          obtain ⟨q, o, e, h1, h2⟩ := hpp.out k i hk hi
          have hlt := block_lt_of_cell h1
          refine ⟨q, o, e, (by first | exact h1 | exact kc (ba (Below.refl _ _) _) h1), ?_, ?_⟩
          · intro e9
            have q1 := hs1
            simp at hlt h2 q1
            omega
          · have q1 := hs1
            simp at hlt h2 q1
            omega)
        rw [← HRF.out] at MN
        refine hK.out _ _ MN.2 (fun hHeld2 => ?_)
        clear hK K
        try simp only [Act.put, List.getElem_toArray, List.getElem_cons_zero, List.getElem_cons_succ]
        refine wpAnyH_done (by kernel_rfl) ?_ _
        refine NoPanic.normal ?_
        go_step
        go_step
        go_meet
        exact ⟨_, _, _, rfl, MN.1, MN.2⟩
    · go_simp
      try dsimp only
      refine hK.out _ _ (ba hHeld _) (fun hHeld => ?_)
      clear hK K
      try simp only [Act.put, List.getElem_toArray, List.getElem_cons_zero, List.getElem_cons_succ, List.setIfInBounds_toArray, List.set_cons_zero, List.set_cons_succ]
      have hz := (by first | exact za_last hHeld | exact za_last' hHeld)
      refine wpAnyH_ready (rs := [0]) (by kernel_rfl) (by simp) ?_
      refine AllReadyH.cons rfl (fun K hK => ?_) AllReadyH.nil
      go_simp
      with_reducible refine (KA.out _).mono ?_
      rintro e w1 ⟨rfl, hw1⟩
      try dsimp only
      refine hK.out _ _ (bt hHeld hw1) (fun hHeld => ?_)
      clear hK K
      try simp only [Act.put, List.getElem_toArray, List.getElem_cons_zero, List.getElem_cons_succ, List.setIfInBounds_toArray, List.set_cons_zero, List.set_cons_succ]
      have hs1 := hw1.size
      have hHeld0 := hHeld.size
      try (replace hz := hz_keep hw1 hz)
      refine wpAnyH_ready (rs := [2]) (by kernel_rfl) (by simp) ?_
      refine AllReadyH.cons rfl (fun K hK => ?_) AllReadyH.nil
      go_simp
      with_reducible refine (PT.out _ hHeld).mono ?_
      rintro e w2 ⟨qa, qc, rfl, hw2, hpp⟩
      try dsimp only
      refine hK.out _ _ (bt hHeld hw2) (fun hHeld => ?_)
      clear hK K
      try simp only [Act.put, List.getElem_toArray, List.getElem_cons_zero, List.getElem_cons_succ, List.setIfInBounds_toArray, List.set_cons_zero, List.set_cons_succ]
      try (replace hz := hz_keep hw2 hz)
      replace hpp := Lib.hid hpp
      refine wpAnyH_take (i := 4) (v := .agg (RF qa (pre ns N) qc)) rfl (by kernel_rfl) (by kernel_rfl) (by kernel_rfl) (fun _ _ _ h => h) (Or.inl ⟨by rfl, ?_⟩) (by assumption) ?_
      · intro w hSw; exact build_ex (u := .agg K) (v := .slice qa (pre ns N) qc) (q := .int .i64 sz) rfl rfl rfl rfl (HBL.out _ _ _ _)
      try simp only [Act.put, List.getElem_toArray, List.getElem_cons_zero, List.getElem_cons_succ, List.setIfInBounds_toArray, List.set_cons_zero, List.set_cons_succ]
      refine wpAnyH_ready (rs := [6]) (by kernel_rfl) (by simp) ?_
      refine AllReadyH.cons rfl (fun K hK => ?_) AllReadyH.nil
      refine (if_pos (by kernel_rfl)).mpr ?_
      refine wp_skip_of (store_ex rfl rfl rfl (STO.out _ _ _ _ _ _ hZS hz)) ?_
      have MN := mac_new (sz := sz) (qc := qc) (qa := qa) HO3.out HL2.out hHeld (by first | exact Nat.le_refl _ | (have q2 := hw2.size; have q1 := hs1; simp at q1 q2 ⊢; omega)) hz (fun k i hk hi => by
        obtain ⟨q, o, e, h1, h2⟩ := hpp.out k i hk hi
        have hlt := block_lt_of_cell h1
        refine ⟨q, o, e, (by first | exact h1 | exact kc (ba (Below.refl _ _) _) h1), ?_, ?_⟩
        · intro e9
          have q1 := hs1
          simp at hlt h2 q1
          omega
        · have q1 := hs1
          simp at hlt h2 q1
          omega)
      rw [← HRF.out] at MN
      refine hK.out _ _ MN.2 (fun hHeld2 => ?_)
      clear hK K
      try simp only [Act.put, List.getElem_toArray, List.getElem_cons_zero, List.getElem_cons_succ]
      refine wpAnyH_done (by kernel_rfl) ?_ _
      refine NoPanic.normal ?_
      go_step
      go_step
      go_meet
      exact ⟨_, _, _, rfl, MN.1, MN.2⟩
end Go.Proofs.Ytdgagjcocohnnaa.Mc
