/-
  Layer 7 (raster): edges of the program, and the iterator over them.
-/
import Derived.Test.YtjeiapgniflnaaaRsA
namespace Go.Proofs.Ytjeiapgniflnaaa.Rs
open Go.RowKit Go.Shelf
open Go.Proofs.Ytjeiapgniflnaaa.Ot
attribute [local go_sem] Oper.semAt_some
def edV (e : Ed) : Value := .agg #[.int .i64 e.l.x, .int .i64 e.l.y, .bool e.l.o, .int .i64 e.h.x, .int .i64 e.h.y, .bool e.h.o, .int .i64 e.w]
theorem w_id {x : Int} (h : -9223372036854775808 ≤ x ∧ x ≤ 9223372036854775807) : wrap64 x = x := by
  unfold RowKit.wrap64; omega
theorem quo_in {a b : Int} (_hb : 0 < b) (ha : -4611686018427387904 ≤ a ∧ a ≤ 4611686018427387904) : -4611686018427387904 ≤ a.tdiv b ∧ a.tdiv b ≤ 4611686018427387904 := by
  have h1 : (a.tdiv b).natAbs ≤ a.natAbs := by rw [Int.natAbs_tdiv]; exact Nat.div_le_self _ _
  omega
theorem floor_p {a b : Int} (hb : 0 < b) (h : ¬ a.tmod b < 0) : a.tdiv b = a / b := by
  rw [Int.tdiv_eq_ediv]
  rw [Int.tmod_eq_emod] at h
  have := Int.emod_lt_of_pos a hb
  have e : ((b.natAbs : Nat) : Int) = b := by omega
  split
  · simp
  · rename_i h2
    rw [if_neg h2] at h
    have := Int.emod_lt_of_pos a hb
    omega
theorem floor_q {a b : Int} (hb : 0 < b) (h : a.tmod b < 0) : a.tdiv b - 1 = a / b := by
  rw [Int.tdiv_eq_ediv]
  rw [Int.tmod_eq_emod] at h
  have := Int.emod_nonneg a (show b ≠ 0 by omega)
  split
  · rename_i h2
    rw [if_pos h2] at h
    omega
  · rw [Int.sign_eq_one_of_pos hb]; omega
set_option maxRecDepth 100000 in
theorem floor_any (a b : Int) (hb : 0 < b) (ha : -4611686018427387904 ≤ a ∧ a ≤ 4611686018427387904) (w : World) :
    Calls Try.prog 46 #[.int .i64 a, .int .i64 b] w fun e w' => e = .returned (.int .i64 (a / b)) ∧ w = w' := by
  have hq := quo_in hb ha
  have e1 : IntKind.i64.wrap (a.tdiv b) = a.tdiv b := IntWalk.i64_in _ (by omega)
  have e1' : wrap64 (a.tdiv b) = a.tdiv b := w_id (by omega)
  have hz : ¬ b = 0 := by omega
  have hz2 : (b == 0) = false := beq_eq_false_iff_ne.2 hz
  by_cases h : a.tmod b < 0
  · have hd := decide_eq_true h
    rw [← floor_q hb h]
    have e2 : wrap64 (a.tdiv b - 1) = a.tdiv b - 1 := w_id (by omega)
    go_enter Try.func46, Try.ntmps46
    go_wp2_with fail
    go_ret
    exact ⟨by first | rfl | (rw [e2]; rfl), rfl⟩
  · have hd := decide_eq_false h
    rw [← floor_p hb h]
    go_enter Try.func46, Try.ntmps46
    go_wp2_with fail
    go_ret
    exact ⟨rfl, rfl⟩
set_option maxRecDepth 100000 in
set_option maxHeartbeats 4000000 in
theorem newEdge_any (p q : Pt) (w : World) :
    Calls Try.prog 45 #[ptV p, ptV q] w fun e w' => e = .returned (edV (mkE p q)) ∧ Below w.heap.size w w' := by
  unfold mkE ptV
  by_cases h : p.y ≤ q.y
  · rw [if_pos h]
    unfold edV
    have d := decide_eq_true h
    go_enter Try.func45, Try.ntmps45
    go_wp2_with fail
    refine bodyPost_ret (v := .agg #[.int .i64 p.x, .int .i64 p.y, .bool p.o, .int .i64 q.x, .int .i64 q.y, .bool q.o, .int .i64 1]) (by simp [results, Try.results45, go_sem]) rfl ⟨rfl, ?_⟩
    have hn : w.heap.size ≤ w.heap.size + 1 + 1 := by omega
    repeat (with_reducible refine bs ?_ hn _)
    with_reducible exact ba (ba (ba (Below.refl _ _) _) _) _
  · rw [if_neg h]
    unfold edV
    have d := decide_eq_false h
    go_enter Try.func45, Try.ntmps45
    go_wp2_with fail
    refine bodyPost_ret (v := .agg #[.int .i64 q.x, .int .i64 q.y, .bool q.o, .int .i64 p.x, .int .i64 p.y, .bool p.o, .int .i64 (-1)]) (by simp [results, Try.results45, go_sem]) rfl ⟨rfl, ?_⟩
    have hn : w.heap.size ≤ w.heap.size + 1 + 1 := by omega
    repeat (with_reducible refine bs ?_ hn _)
    with_reducible exact ba (ba (ba (Below.refl _ _) _) _) _
set_option maxRecDepth 100000 in
set_option maxHeartbeats 4000000 in
theorem passes_any (e : Ed) (y : Int) (w : World) :
    Calls Try.prog 29 #[edV e, .int .i64 y] w fun e' w' => e' = .returned (.bool (pasE e y)) ∧ Below w.heap.size w w' := by
  unfold pasE edV
  rcases h : decide (e.l.y ≤ y) with _ | _
  · go_enter Try.func29, Try.ntmps29
    go_wp2
    go_ret
    exact ⟨rfl, ba (Below.refl _ _) _⟩
  · go_enter Try.func29, Try.ntmps29
    go_wp2
    go_ret
    exact ⟨rfl, ba (Below.refl _ _) _⟩
/-- Numbers of an edge that fit. -/
def okE (e : Ed) : Prop := okR e.l = true ∧ okR e.h = true
theorem mkE_ok {p q : Pt} (hp : okR p = true) (hq : okR q = true) : okE (mkE p q) := by
  unfold mkE okE; split <;> exact ⟨by assumption, by assumption⟩
theorem ev_abs {n d : Int} (hd : 0 < d) {x : Int} (h1 : 0 ≤ n ∧ n ≤ d) (M : Int) (hM : 0 ≤ M) (hx : -M ≤ x ∧ x ≤ M) : -(M * d) ≤ x * n ∧ x * n ≤ M * d := by
  have a1 : x * n ≤ M * n := Int.mul_le_mul_of_nonneg_right hx.2 h1.1
  have a2 : M * n ≤ M * d := Int.mul_le_mul_of_nonneg_left h1.2 hM
  have a3 : (-M) * n ≤ x * n := Int.mul_le_mul_of_nonneg_right hx.1 h1.1
  rw [Int.neg_mul] at a3
  omega
theorem at_facts {e : Ed} (he : okE e) {y : Int} (h1 : e.l.y ≤ y) (h2 : y < e.h.y) :
    0 < e.h.y - e.l.y ∧ (-4611686018427387904 ≤ (e.h.x - e.l.x) * (y - e.l.y) ∧ (e.h.x - e.l.x) * (y - e.l.y) ≤ 4611686018427387904) ∧ -2147483648 ≤ (e.h.x - e.l.x) * (y - e.l.y) / (e.h.y - e.l.y) ∧ (e.h.x - e.l.x) * (y - e.l.y) / (e.h.y - e.l.y) ≤ 2147483648 ∧ (-2147483648 ≤ e.h.x - e.l.x ∧ e.h.x - e.l.x ≤ 2147483648) ∧ (0 ≤ y - e.l.y ∧ y - e.l.y ≤ 2147483648) ∧ e.h.y - e.l.y ≤ 2147483648 ∧ (-1073741824 ≤ e.l.x ∧ e.l.x ≤ 1073741824) := by
  obtain ⟨⟨a1, a2⟩, a3, a4⟩ := (okR_iff _).1 he.1
  obtain ⟨⟨b1, b2⟩, b3, b4⟩ := (okR_iff _).1 he.2
  have hd : 0 < e.h.y - e.l.y := by omega
  have hx : -2147483648 ≤ e.h.x - e.l.x ∧ e.h.x - e.l.x ≤ 2147483648 := by omega
  have hn : 0 ≤ y - e.l.y ∧ y - e.l.y ≤ e.h.y - e.l.y := by omega
  have hD : e.h.y - e.l.y ≤ 2147483648 := by omega
  have k := ev_abs hd hn 2147483648 (by omega) hx
  refine ⟨hd, ⟨by omega, by omega⟩, ?_, ?_, hx, ⟨by omega, by omega⟩, hD, by omega, by omega⟩
  · rw [Int.le_ediv_iff_mul_le hd]
    rw [Int.neg_mul]
    exact k.1
  · exact Int.ediv_le_of_le_mul hd k.2
theorem edges_any (a : Option Addr) (N c : Nat) (w : World) :
    Calls Try.prog 28 #[.slice a N c] w fun e w' => e = .returned (.func (.func 44) #[] #[.pointer (some ⟨w.heap.size, 0, none⟩)]) ∧ w' = w.alloc (.cells #[.slice a N c] 23) := by
  go_enter Try.func28, Try.ntmps28
  go_wp2
  go_ret
  exact ⟨rfl, rfl⟩
set_option maxRecDepth 100000 in
set_option maxHeartbeats 8000000 in
theorem at_any (e : Ed) (he : okE e) (y : Int) (h1 : e.l.y ≤ y) (h2 : y < e.h.y) (w : World) :
    Calls Try.prog 30 #[edV e, .int .i64 y] w fun e' w' => e' = .returned (.int .i64 (atE e y)) ∧ Below w.heap.size w w' := by
  obtain ⟨f1, f2, f3, f4, f5, f6, f7, f8⟩ := at_facts he h1 h2
  have C := Lib.hid (fun w => floor_any ((e.h.x - e.l.x) * (y - e.l.y)) (e.h.y - e.l.y) f1 f2 w)
  have e1 : wrap64 (e.h.x - e.l.x) = e.h.x - e.l.x := w_id (by omega)
  have e2 : wrap64 (y - e.l.y) = y - e.l.y := w_id (by omega)
  have e3 : wrap64 (e.h.y - e.l.y) = e.h.y - e.l.y := w_id (by omega)
  have e4 : wrap64 ((e.h.x - e.l.x) * (y - e.l.y)) = (e.h.x - e.l.x) * (y - e.l.y) := w_id (by omega)
  have e5 : wrap64 (e.l.x + (e.h.x - e.l.x) * (y - e.l.y) / (e.h.y - e.l.y)) = e.l.x + (e.h.x - e.l.x) * (y - e.l.y) / (e.h.y - e.l.y) := w_id (by omega)
  have g1 : IntKind.i64.wrap (e.h.x - e.l.x) = e.h.x - e.l.x := IntWalk.i64_in _ (by omega)
  have g2 : IntKind.i64.wrap (y - e.l.y) = y - e.l.y := IntWalk.i64_in _ (by omega)
  have g3 : IntKind.i64.wrap (e.h.y - e.l.y) = e.h.y - e.l.y := IntWalk.i64_in _ (by omega)
  have g4 : IntKind.i64.wrap ((e.h.x - e.l.x) * (y - e.l.y)) = (e.h.x - e.l.x) * (y - e.l.y) := IntWalk.i64_in _ (by omega)
  have g5 : IntKind.i64.wrap (e.l.x + (e.h.x - e.l.x) * (y - e.l.y) / (e.h.y - e.l.y)) = e.l.x + (e.h.x - e.l.x) * (y - e.l.y) / (e.h.y - e.l.y) := IntWalk.i64_in _ (by omega)
  have C2 : Hid (∀ w, Calls Try.prog 46 #[.int .i64 ((e.h.x - e.l.x) * (y - e.l.y)), .int .i64 (e.h.y - e.l.y)] w fun e' w' => e' = .returned (.int .i64 ((e.h.x - e.l.x) * (y - e.l.y) / (e.h.y - e.l.y))) ∧ Below w.heap.size w w') := Lib.hid (fun w => (C.out w).mono (fun e' w' ⟨h1, h2⟩ => ⟨h1, by rw [← h2]; exact Below.refl _ _⟩))
  clear C f1 f2 f3 f4 f5 f6 f7 f8 h1 h2 he
  unfold edV atE
  go_enter Try.func30, Try.ntmps30
  go_wp2_with fail
  have c0 : (w.alloc (.cells #[.int .i64 e.l.x, .int .i64 e.l.y, .bool e.l.o, .int .i64 e.h.x, .int .i64 e.h.y, .bool e.h.o, .int .i64 e.w] 70)).cell? ⟨w.heap.size, 0, none⟩ = some (.int .i64 e.l.x) := by go_cell
  have c1 : (w.alloc (.cells #[.int .i64 e.l.x, .int .i64 e.l.y, .bool e.l.o, .int .i64 e.h.x, .int .i64 e.h.y, .bool e.h.o, .int .i64 e.w] 70)).cell? ⟨w.heap.size, 1, none⟩ = some (.int .i64 e.l.y) := by go_cell
  have c3 : (w.alloc (.cells #[.int .i64 e.l.x, .int .i64 e.l.y, .bool e.l.o, .int .i64 e.h.x, .int .i64 e.h.y, .bool e.h.o, .int .i64 e.w] 70)).cell? ⟨w.heap.size, 3, none⟩ = some (.int .i64 e.h.x) := by go_cell
  have c4 : (w.alloc (.cells #[.int .i64 e.l.x, .int .i64 e.l.y, .bool e.l.o, .int .i64 e.h.x, .int .i64 e.h.y, .bool e.h.o, .int .i64 e.w] 70)).cell? ⟨w.heap.size, 4, none⟩ = some (.int .i64 e.h.y) := by go_cell
  have hA : Below w.heap.size w (w.alloc (.cells #[.int .i64 e.l.x, .int .i64 e.l.y, .bool e.l.o, .int .i64 e.h.x, .int .i64 e.h.y, .bool e.h.o, .int .i64 e.w] 70)) := ba (Below.refl _ _) _
  generalize (w.alloc (.cells #[.int .i64 e.l.x, .int .i64 e.l.y, .bool e.l.o, .int .i64 e.h.x, .int .i64 e.h.y, .bool e.h.o, .int .i64 e.w] 70)) = V at *
  have z0 := cell_regrown c0
  have z1 := cell_regrown c1
  have z3 := cell_regrown c3
  have z4 := cell_regrown c4
  refine wp_region_quiet_below (by kernel_rfl) (by kernel_rfl) ?_
  repeat (go_big_quiet_step ((with_reducible exact Calls.regrown_of (C2.out _))))
  refine wpQuiet_nil ?_
  intro _ hw'
  obtain ⟨⟨dq, osq⟩, hw''⟩ := hw'
  subst hw''
  go_wp2
  go_ret
  exact ⟨by first | rfl | (rw [e5]; rfl), bt hA (below_regrown V dq osq)⟩
def eargs (N : Nat) (ns : Nat → Nat) (g : Nat → Nat → Pt) (j : Nat) : Array Value := #[edV (eJ N ns g j)]
def EMem (X : Nat) (a : Option Addr) (N c : Nat) (ns B O : Nat → Nat) (g : Nat → Nat → Pt) (V : World) : Prop := V.cell? ⟨X, 0, none⟩ = some (.slice a N c) ∧ OX V a N ns B O ∧ ∀ k, k < N → ∀ i, i < ns k → PtAt V (B k) (O k + i * 3) (g k i)
theorem em_below {X : Nat} {a : Option Addr} {N c : Nat} {ns B O : Nat → Nat} {g : Nat → Nat → Pt} {V V' : World} (h : EMem X a N c ns B O g V) (hB : Below V.heap.size V V') : EMem X a N c ns B O g V' :=
  ⟨kc hB h.1, ox_below h.2.1 hB, fun k hk i hi => ptat_below (h.2.2 k hk i hi) hB⟩
theorem put_pt {W : World} {r : Nat} {o : Obj} (o' : Obj) {b k : Nat} {p : Pt} (ho : W.heap[r]? = some o) (hc : o.isCells = false) (h : PtAt W b k p) : PtAt (W.putObj r o') b k p :=
  ⟨(put_cell o' ho hc h.1).1, (put_cell o' ho hc h.2.1).1, (put_cell o' ho hc h.2.2).1⟩
theorem em_put {X : Nat} {a : Option Addr} {N c : Nat} {ns B O : Nat → Nat} {g : Nat → Nat → Pt} {V : World} {r : Nat} {o : Obj} (o' : Obj) (ho : V.heap[r]? = some o) (hc : o.isCells = false) (h : EMem X a N c ns B O g V) : EMem X a N c ns B O g (V.putObj r o') :=
  ⟨(put_cell o' ho hc h.1).1, fun k hk => by
    obtain ⟨b, off, a', c', e, hcl, h1, h2, hp⟩ := h.2.1 k hk
    exact ⟨b, off, a', c', e, (put_cell o' ho hc hcl).1, h1, h2, hp⟩, fun k hk i hi => put_pt o' ho hc (h.2.2 k hk i hi)⟩
def ItO (N : Nat) (ns : Nat → Nat) (J : Nat → World → Prop) (s9 : Value) (wr : World) : Prop := ∃ k : Nat, k ≤ N ∧ s9 = .int .i64 k ∧ J (pre ns k) wr
def ItI (ns : Nat → Nat) (k : Nat) (J : Nat → World → Prop) (s15 : Value) (wr : World) : Prop := ∃ i : Nat, i ≤ ns k ∧ s15 = .int .i64 i ∧ J (pre ns k + i) wr
theorem mixedF : Try.prog.follows .mixedOrders = true := by kernel_rfl
theorem next_mod {i n : Nat} (h : i < n) (hn : n ≤ 1000000) : ((i : Int) + 1).tmod n = (((i + 1) % n : Nat) : Int) ∧ ((i : Int) + 1) % n = (((i + 1) % n : Nat) : Int) ∧ (i + 1) % n < n := by
  refine ⟨?_, ?_, Nat.mod_lt _ (by omega)⟩
  · rw [Int.tmod_eq_emod_of_nonneg (by omega), Int.natCast_emod]
    rfl
  · rw [Int.natCast_emod]
    rfl
theorem lt_c {i n : Nat} (h : i < n) : (i : Int) < (n : Int) := by omega
theorem nat_c (i : Nat) : (0 : Int) ≤ (i : Int) := by omega
theorem wrap_n {i n : Nat} (h : i < n) (hn : n ≤ 1000000) : wrap64 ((i : Int) + 1) = (i : Int) + 1 ∧ IntKind.i64.wrap ((i : Int) + 1) = (i : Int) + 1 := ⟨w_id (by omega), IntWalk.i64_in _ (by omega)⟩
theorem ne_c {i n : Nat} (h : i < n) : ¬ ((n : Nat) : Int) = 0 := by omega
theorem ltn {i n : Nat} (h : i < n) : n - (intOf (.int .i64 ((i : Int) + 1))).toNat < n - (intOf (.int .i64 (i : Int))).toNat := by simp [intOf]; omega
set_option maxRecDepth 100000 in
set_option maxHeartbeats 8000000 in
theorem edges_gives (n : Nat) (hn : 2 ≤ n) (a : Option Addr) (N c : Nat) (ns B O : Nat → Nat) (g : Nat → Nat → Pt) (X : Nat) (hN : N ≤ 1000000) (hs : pre ns N ≤ 1000000) :
    Gives Try.prog n 44 #[.pointer (some ⟨X, 0, none⟩)] (pre ns N) (fun _ => true) (eargs N ns g) (EMem X a N c ns B O g) := by
  intro rec J V hY hS hBl hM h0
  obtain ⟨c0, hD⟩ := hM 0 V h0
  have HY := Lib.hid hY
  have HB := Lib.hid hBl
  have HM := Lib.hid hM
  have hmix := mixedF
  clear hY hS hBl hM hD
  refine callsIn_of_wp Try.func44 rfl trivial ?_ rfl
  simp only [Try.ntmps44, List.size_toArray, List.length_cons, List.length_nil, Nat.reduceAdd, Nat.reduceSub, Array.replicate_succ, Array.replicate_zero, List.push_toArray, List.append_toArray, List.nil_append, List.cons_append]
  gi_wp2
  gi_loopw [9] (fun s9 wr => ItO N ns J s9 wr) (fun s9 _ => N - (intOf s9).toNat)
  case atStart => exact ⟨0, by omega, rfl, h0⟩
  case round =>
    clear h0 c0
    obtain ⟨k, hk, rfl, hJ⟩ := hrel
    rcases Nat.lt_or_ge k N with hkN | hkN
    · obtain ⟨c0, hX, hQ⟩ := HM.out _ wr hJ
      obtain ⟨b, off, a', c', rfl, hc, h1, h2, hp⟩ := hX k hkN
      have k2 : (0 : Int) ≤ (k : Int) := by omega
      have k3 : (k : Int) < (N : Int) := by omega
      have hm := pre_mono ns (show k + 1 ≤ N by omega)
      have he : Hid (pre ns (k + 1) = pre ns k + ns k) := Lib.hid rfl
      have hm2 : pre ns k + ns k ≤ pre ns N := by rw [← he.out]; exact hm
      have hNX : Hid (∀ W, J (pre ns k + ns k) W → ItO N ns J (.int .i64 ((k : Int) + 1)) W) := Lib.hid (fun W hJ => ⟨k + 1, by omega, rfl, hJ⟩)
      have HP := Lib.hid hp
      have hn1 : ns k ≤ 1000000 := by omega
      clear hp hm hX he hQ
      gi_wp2
      gi_loopw [15] (fun s15 wr => ItI ns k J s15 wr) (fun s15 _ => ns k - (intOf s15).toNat)
      case atStart => exact ⟨0, by omega, rfl, hJ⟩
      case round =>
        clear hJ hc c0
        obtain ⟨i, hi, rfl, hJ⟩ := hrel
        rename World => V2
        rcases Nat.lt_or_ge i (ns k) with hin | hin
        · obtain ⟨c0, hX, hQ⟩ := HM.out _ V2 hJ
          obtain rfl := HP.out (by omega)
          have i2 := nat_c i
          have i3 := lt_c hin
          obtain ⟨m1, m3, m2⟩ := next_mod hin hn1
          obtain ⟨x0, x1, x2⟩ := hQ k hkN i hin
          obtain ⟨y0, y1, y2⟩ := hQ k hkN _ m2
          have NE := Lib.hid (newEdge_any (g k i) (g k ((i + 1) % ns k)))
          have YY : Hid (∀ V3, J (pre ns k + i) V3 → YieldAt Fence.wide (n - 1) Try.prog rec #[edV (mkE (g k i) (g k ((i + 1) % ns k)))] V3 fun e V' => e = .returned (.bool true) ∧ J (pre ns k + i + 1) V') := Lib.hid (fun V3 h3 => by
            have := HY.out (pre ns k + i) V3 h3 (by omega) trivial
            unfold eargs at this
            rw [eJ_at hkN hin] at this
            exact this)
          have JB : Hid (∀ V3, Below V2.heap.size V2 V3 → J (pre ns k + i) V3) := Lib.hid (fun V3 h3 => HB.out _ _ _ hJ h3)
          have RR : Hid (∀ W, J (pre ns k + i + 1) W → ItI ns k J (.int .i64 ((i : Int) + 1)) W) := Lib.hid (fun W hJ => ⟨i + 1, by omega, rfl, hJ⟩)
          clear HY HM HB hJ hNX hX hQ
          generalize (i + 1) % ns k = i' at *
          have j2 := nat_c i'
          have j3 := lt_c m2
          obtain ⟨wi, wi2⟩ := wrap_n hin hn1
          have nz := ne_c hin
          have nz3 : ¬ ns k = 0 := Nat.ne_of_gt (Nat.lt_of_le_of_lt (Nat.zero_le _) hin)
          have nz2 : (((ns k : Nat) : Int) == 0) = false := beq_eq_false_iff_ne.2 nz
          generalize g k i = p at *
          generalize g k i' = q at *
          unfold ptV at NE
          gi_wp2
          have hA : Below V2.heap.size V2 (V2.alloc (.cells #[.int .i64 p.x, .int .i64 p.y, .bool p.o] 63)) := ba (Below.refl _ _) _
          replace y0 := kc hA y0
          replace y1 := kc hA y1
          replace y2 := kc hA y2
          have z0 : (V2.alloc (.cells #[.int .i64 p.x, .int .i64 p.y, .bool p.o] 63)).cell? ⟨V2.heap.size, 0, none⟩ = some (.int .i64 p.x) := by go_cell
          have z1 : (V2.alloc (.cells #[.int .i64 p.x, .int .i64 p.y, .bool p.o] 63)).cell? ⟨V2.heap.size, 1, none⟩ = some (.int .i64 p.y) := by go_cell
          have z2 : (V2.alloc (.cells #[.int .i64 p.x, .int .i64 p.y, .bool p.o] 63)).cell? ⟨V2.heap.size, 2, none⟩ = some (.bool p.o) := by go_cell
          generalize (V2.alloc (.cells #[.int .i64 p.x, .int .i64 p.y, .bool p.o] 63)) = V4 at *
          clear x0 x1 x2 c0
          gi_region_with_o (first | (refine ⟨trivial, fun _ => (by omega), ?_⟩; refine (callsIn_wide.2 (NE.out _)).mono ?_; rintro e w3 ⟨rfl, hB3⟩; obtain ⟨fn, tmps, assign, body, hy, hR⟩ := YY.out _ (JB.out _ (bt (bd1 hA) hB3))) | (refine ⟨fun _ => (by omega), ?_⟩; refine hR.mono ?_; rintro e w2 ⟨rfl, hJ2⟩; have R := Lib.hid (RR.out _ hJ2)))
          all_goals (try gi_wp2)
          all_goals (go_roundw)
          all_goals (first | (with_reducible exact R.out) | (with_reducible exact ltn hin))
        · obtain rfl : i = ns k := by omega
          have R := Lib.hid (hNX.out _ hJ)
          gi_wp2
          go_roundw
          case rel => exact R.out
          case measure => simp [intOf]; omega
    · obtain rfl : k = N := by omega
      gi_wp2
      go_end0
      exact ⟨⟨_, rfl⟩, hJ⟩
end Go.Proofs.Ytjeiapgniflnaaa.Rs
