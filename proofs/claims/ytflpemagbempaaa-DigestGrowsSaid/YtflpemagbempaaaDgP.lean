/-
  Layer 3 (digest): the document's own tree.
-/
import Derived.Test.YtflpemagbempaaaDgO
namespace Go.Proofs.Ytflpemagbempaaa.Dg
open Go.RowKit
theorem gr0g (w : World) (r : Option Nat) : w.grownBy w r := ⟨rfl, rfl, rfl, Nat.le_refl _, fun _ _ _ => rfl⟩
theorem gg {a w v : World} {r : Option Nat} (h : a.grownBy w r) (k : w.grownBy v r) : a.grownBy v r :=
  ⟨k.os.trans h.os, k.tape.trans h.tape, k.output.trans h.output, Nat.le_trans h.size k.size, fun i hi hne => (k.block i (Nat.lt_of_lt_of_le hi h.size) hne).trans (h.block i hi hne)⟩
theorem gco {a w : World} {r : Option Nat} {b o : Nat} {v : Value} (h : a.grownBy w r) (hc : a.cell? ⟨b, o, none⟩ = some v) (hn : r ≠ some b) : w.cell? ⟨b, o, none⟩ = some v := by
  have hb : w.heap[b]? = a.heap[b]? := h.block b (block_lt_of_cell hc) (by first | exact hn | exact fun e => hn e.symm)
  unfold World.cell? at hc ⊢
  rw [hb]; exact hc
theorem owns_drew {W : World} {base e size n : Nat} {v : Value} {xs : List Value} (h : W.ownsRow base e size v n xs) : W.drew.ownsRow base e size v n xs := h
theorem app_str2 (W : World) (base : Nat) (v : Value) (n : Nat) (xs : List Value) (hown : W.ownsRow base 9 1 v n xs) (hn : n ≤ 1000000) (hb : base ≤ W.heap.size) (s : ByteArray) :
    ∃ g' cap' w', (Builtin.append_ #[28, 28] 28 #[v, .slice (some ⟨W.heap.size, 0, none⟩) 1 1]).run Try.prog (W.alloc (.cells #[.string s] 9)) = .ok (.slice (some ⟨g', 0, none⟩) (n + 1) cap') w' ∧
      w'.ownsRow base 9 1 (.slice (some ⟨g', 0, none⟩) (n + 1) cap') (n + 1) (xs ++ [.string s]) ∧ (W.alloc (.cells #[.string s] 9)).grownBy w' v.ownBlock := by
  obtain ⟨v', w', h1, h2, h3⟩ := app_str W base v n xs hown hn hb s
  obtain ⟨g', cap', rfl⟩ := ownsRow_succ h2
  exact ⟨g', cap', w', h1, h2, h3⟩
def AbRel (g : Nat → List UInt8) (w : World) (h : Nat) (sv sk : Value) (wr : World) : Prop := ∃ k : Nat, k ≤ h ∧ sk = .int .i64 (2 * (k : Int)) ∧ wr.ownsRow w.heap.size 9 1 sv k ((bl (up g) k).map Value.string) ∧ Below w.heap.size w wr
set_option maxRecDepth 100000 in
set_option maxHeartbeats 4000000 in
theorem rAbove_any (g : Nat → List UInt8) (hg : ∀ j, (g j).length = 8) (a : Option Addr) (c h : Nat) (hh : h ≤ 1000000) (w : World) (hl : StrsAt w a (bl g (2 * h))) :
    Calls Try.prog 40 #[.slice a (2 * h) c] w fun e w' => ∃ v, e = .returned v ∧ w'.ownsRow w.heap.size 9 1 v h ((bl (up g) h).map Value.string) ∧ Below w.heap.size w w' := by
  have HL := Lib.hid hl
  clear hl
  obtain ⟨i0, hi, hz0, hz1, hz2⟩ := info_parts infoS
  have KI := Lib.hid (And.intro hi (And.intro hz0 (And.intro hz1 hz2)))
  clear hi hz0 hz1 hz2
  go_enter Try.func40, Try.ntmps40
  go_wp2_with fail
  go_loopw [3, 4] (fun s3 s4 wr => AbRel g w h s3 s4 wr) (fun _ s4 _ => 2 * h - (intOf s4).toNat)
  case atStart => exact ⟨0, by omega, rfl, World.ownsRow_nil _ _ _ _, Below.refl _ _⟩
  case round =>
    obtain ⟨k, hk, rfl, hown, hB⟩ := hrel
    rcases Nat.lt_or_ge k h with hlt | hge
    · obtain ⟨bb, off, rfl, hc⟩ := HL.out (2 * k) _ (bl_get g (by omega))
      obtain ⟨bb', off', e', hc'⟩ := HL.out (2 * k + 1) _ (bl_get g (by omega))
      cases e'
      have hbbw : bb < w.heap.size := block_lt_of_cell hc
      have ck := kc hB (block_lt_of_cell hc) hc
      have ck' := kc hB (block_lt_of_cell hc') hc'
      have hsx : (B (g (2 * k))).size = 8 := by rw [B_size, hg]
      have hsy : (B (g (2 * k + 1))).size = 8 := by rw [B_size, hg]
      have RO := Lib.hid (rOf_any (⟨#[110]⟩ ++ B (g (2 * k)) ++ B (g (2 * k + 1))) (by rw [size_append, size_append, one_size, hsx, hsy]; decide))
      rw [D_node, show node (g (2 * k)) (g (2 * k + 1)) = up g k from rfl] at RO
      have c1 := fun w => run_string_add_sum (P := Try.prog) (w := w) ⟨#[110]⟩ (B (g (2 * k))) (by rw [one_size, hsx]; decide)
      have c2 := fun w => run_string_add_sum (P := Try.prog) (w := w) (⟨#[110]⟩ ++ B (g (2 * k))) (B (g (2 * k + 1))) (by rw [size_append, one_size, hsx, hsy]; decide)
      clear hc hc' hsx hsy
      generalize B (g (2 * k)) = x at *
      generalize B (g (2 * k + 1)) = y at *
      have t1 : (2 * (k : Int)).toNat = 2 * k := by omega
      have t2 : (2 * (k : Int) + 1).toNat = 2 * k + 1 := by omega
      rename World => V
      have hHO := Lib.hid hown
      have n1 : ∀ g, u3.ownBlock = some g → w.heap.size ≤ g := fun g hg => (hown.lt g hg).1
      have hbw : bb < w.heap.size := hbbw
      have lx : ∀ W, V.grownBy W u3.ownBlock → W.cell? ⟨bb, off + 2 * k, none⟩ = some (.string x) := fun W h => gco h ck (fun e => by have := n1 _ e; omega)
      have ly : ∀ W, V.grownBy W u3.ownBlock → W.cell? ⟨bb, off + (2 * k + 1), none⟩ = some (.string y) := fun W h => gco h ck' (fun e => by have := n1 _ e; omega)
      have b1 : (0 : Int) ≤ 2 * (k : Int) := by omega
      have b2 : 2 * (k : Int) < 2 * (h : Int) := by omega
      have b3 : (0 : Int) ≤ 2 * (k : Int) + 1 := by omega
      have b4 : 2 * (k : Int) + 1 < 2 * (h : Int) := by omega
      have b5 : RowKit.wrap64 (2 * (k : Int)) = 2 * (k : Int) := wrapi _ (by omega) (by omega)
      have b6 : RowKit.wrap64 (2 * (k : Int) + 1) = 2 * (k : Int) + 1 := wrapi _ (by omega) (by omega)
      have b7 : IntKind.i64.wrap (2 * (k : Int)) = 2 * (k : Int) := IntWalk.i64_in _ (by omega)
      have b8 : IntKind.i64.wrap (2 * (k : Int) + 1) = 2 * (k : Int) + 1 := IntWalk.i64_in _ (by omega)
      have hzV := hB.size
      go_upto_region 5 with (fail)
      go_region_held3 (fun w' => V.grownBy w' u3.ownBlock) (first
          | (with_reducible exact gd1 (gr0g _ _))
          | (with_reducible assumption)
          | (with_reducible exact gt (by assumption) hba)
          | (with_reducible exact ga (by assumption) _))
        (first
          | ((with_reducible refine (RO.out _).mono ?_); rintro en w2 ⟨rfl, hba⟩; have hqa : V.grownBy w2 u3.ownBlock := gt (by assumption) hba; obtain ⟨g', cap', w4, hr4, hown4, hgrow⟩ := app_str2 w2 w.heap.size u3 k _ (owns_below (owns_drew hHO.out) hba) (by omega) (by have := hqa.size; omega) (B (up g k)); have hqd : V.grownBy w4 u3.ownBlock := gg (ga hqa _) hgrow; simp [go_sem] at hr4))
      have R : Hid (AbRel g w h (.slice (some ⟨g', 0, none⟩) (k + 1) cap') (.int .i64 (2 * (k : Int) + 2)) w4) := Lib.hid ⟨k + 1, by omega, by congr 1, by rw [bl_succ]; exact hown4, hB.grown hqd hzV n1⟩
      clear hr4
      go_wp2_with fail
      go_roundw
      case rel => exact R.out
      case measure => simp [intOf]; omega
    · have hkn : k = h := by omega
      subst hkn
      go_wp2_with fail
      go_ret
      exact ⟨_, rfl, hown, hB⟩
set_option maxHeartbeats 1000000 in
theorem neighbour_any (j : Nat) (h : j ≤ 1000000000) (w : World) :
    Calls Try.prog 39 #[.int .i64 j] w fun e w' => e = .returned (.int .i64 (nb j)) ∧ w = w' := by
  rcases Nat.mod_two_eq_zero_or_one j with hm | hm
  · have h2 : ((j : Int) % 2 == 0) = true := by rw [beq_iff_eq]; omega
    go_enter Try.func39, Try.ntmps39
    go_wp2
    go_ret
    exact ⟨congrArg (fun n : Int => Ending.returned (Value.int .i64 n)) (by unfold nb; rw [if_pos hm]; omega), rfl⟩
  · have h2 : ((j : Int) % 2 == 0) = false := by rw [beq_eq_false_iff_ne]; omega
    go_enter Try.func39, Try.ntmps39
    go_wp2
    go_ret
    exact ⟨congrArg (fun n : Int => Ending.returned (Value.int .i64 n)) (by unfold nb; rw [if_neg (by omega)]; omega), rfl⟩
/-- A level, as the document's own code holds it. -/
def LvRel (l : List ByteArray) (w : World) (N : Nat) (sv : Value) (wr : World) : Prop := ∃ k a c, k ≤ ht N ∧ sv = .slice a (cnt N k) c ∧ StrsAt wr a (bl (lv (g0 l) k) (cnt N k)) ∧ Below w.heap.size w wr
set_option maxRecDepth 100000 in
set_option maxHeartbeats 4000000 in
theorem rRoot_any (l : List ByteArray) (a : Option Addr) (N c : Nat) (hN : l.length = N) (hs : N ≤ 1000000) (hz : ∀ s ∈ l, s.size ≤ 100000) (w : World) (hl : StrsAt w a l) :
    Calls Try.prog 26 #[.slice a N c] w fun e w' => e = .returned (.string (B (lv (g0 l) (ht N) 0))) ∧ Below w.heap.size w w' := by
  have LE := Lib.hid (leaves_any l a N c hN hs w hl hz)
  clear hl
  go_enter Try.func26, Try.ntmps26
  go_wp2_with fail
  refine LE.out.mono ?_
  rintro e w1 ⟨v, rfl, hown, hB⟩
  clear LE
  obtain ⟨a1, c1, rfl, hs1, _⟩ := row_bytes (bl_length _ _) hown
  clear hown
  go_wp2_with fail
  go_loopw [3] (fun s3 wr => LvRel l w N s3 wr) (fun s3 _ => lenOf s3)
  case atStart => exact ⟨0, a1, c1, by omega, rfl, hs1, hB⟩
  case round =>
    clear hs1 hB
    obtain ⟨k, a2, c2, hk, rfl, hst, hB⟩ := hrel
    rcases Nat.lt_or_ge k (ht N) with h | h
    · have hle := cnt_le hs (k + 1)
      have hp1 := cnt_pos N (k + 1)
      rw [cnt_next h] at hst
      rw [cnt_next h]
      have hle2 := cnt_le hs k
      rw [cnt_next h] at hle2
      have RR : Hid (∀ a3 c3 w3, StrsAt w3 a3 (bl (up (lv (g0 l) k)) (cnt N (k + 1))) → Below w.heap.size w w3 → LvRel l w N (.slice a3 (cnt N (k + 1)) c3) w3) := Lib.hid (fun a3 c3 w3 x1 x2 => ⟨k + 1, a3, c3, h, rfl, x1, x2⟩)
      generalize cnt N (k + 1) = q at *
      have AB := Lib.hid (rAbove_any (lv (g0 l) k) (lv_len (g0 l) (g0_len l) k) a2 c2 q (by omega) wr hst)
      have g3 : 1 < 2 * q := by omega
      go_wp2_with fail
      refine AB.out.mono ?_
      rintro e w3 ⟨v, rfl, hown, hB3⟩
      obtain ⟨a3, c3, rfl, hs3, _⟩ := row_bytes (bl_length _ _) hown
      go_wp2_with fail
      go_roundw
      case rel => exact RR.out _ _ _ hs3 (bt hB hB3)
      case measure => simp [lenOf]; omega
    · have hkH : k = ht N := by omega
      subst hkH
      rw [cnt_last] at hst
      rw [cnt_last]
      obtain ⟨bb, off, rfl, hc⟩ := hst 0 _ (bl_get _ (by omega))
      have hc2 : wr.cell? ⟨bb, off, none⟩ = some (.string (B (lv (g0 l) (ht N) 0))) := hc
      generalize hr : B (lv (g0 l) (ht N) 0) = res at *
      go_wp2_with fail
      go_ret
      exact ⟨by rw [hr]; rfl, hB⟩
end Go.Proofs.Ytflpemagbempaaa.Dg
