/-
  Layer 2 (wire): the law WireInverse, walked.
-/
import Derived.Test.YtadnkofbgifliaaWrRd
namespace Go.Proofs.Ytadnkofbgifliaa.Wr
open Go.RowKit

/-- A value of the law, as it lies in memory, and what its lists hold. -/
structure Va where
  (K n : Int) (s : ByteArray) (a a' : Option Addr) (L : List Int) (T : List ByteArray) (l l' c c' : Nat)
def Va.ok (w : World) (v : Va) : Prop := v.L.length = v.l ∧ v.T.length = v.l' ∧ v.l ≤ v.c ∧ v.s.size ≤ 9223372036854775807 ∧ v.c ≤ 9223372036854775807 ∧ v.l' ≤ 9223372036854775807 ∧ IntsAt w v.a v.L ∧ StrsAt w v.a' v.T ∧ (∀ x ∈ v.T, x.size ≤ 9223372036854775807) ∧ 0 ≤ v.K ∧ v.K < 256 ∧ inI v.n ∧ (∀ x ∈ v.L, inI x)
def Va.at (w : World) (v : Va) (b o : Nat) : Prop := w.cell? ⟨b, o, none⟩ = some (.int .u8 v.K) ∧ w.cell? ⟨b, o + 1, none⟩ = some (.int .i64 v.n) ∧ w.cell? ⟨b, o + 2, none⟩ = some (.string v.s) ∧ w.cell? ⟨b, o + 3, none⟩ = some (.slice v.a v.l v.c) ∧ w.cell? ⟨b, o + 4, none⟩ = some (.slice v.a' v.l' v.c')
def Va.by (v : Va) : ByteArray := byK v.K v.n v.s v.L v.T
def ValsAt (w : World) (a : Option Addr) (l : List Va) : Prop := ∀ (i : Nat) (v : Va), l[i]? = some v → (∃ b off, a = some ⟨b, off, none⟩ ∧ v.at w b (off + i * 5)) ∧ v.ok w
theorem Va.at_below {w w' : World} {v : Va} {b o : Nat} (h : v.at w b o) (hb : Below w.heap.size w w') : v.at w' b o :=
  ⟨kc hb h.1, kc hb h.2.1, kc hb h.2.2.1, kc hb h.2.2.2.1, kc hb h.2.2.2.2⟩
theorem Va.ok_below {w w' : World} {v : Va} (h : v.ok w) (hb : Below w.heap.size w w') : v.ok w' := by
  obtain ⟨x1, x2, x3, x4, x5, x6, x7, x8, x9, x10, x11, x12, x13⟩ := h
  exact ⟨x1, x2, x3, x4, x5, x6, Wr.at_below x7 hb, sat_below x8 hb, x9, x10, x11, x12, x13⟩
theorem vals_below {w w' : World} {a : Option Addr} {l : List Va} (h : ValsAt w a l) (hb : Below w.heap.size w w') : ValsAt w' a l := fun i v hi => by
  obtain ⟨⟨b, off, rfl, h1⟩, h2⟩ := h i v hi
  exact ⟨⟨b, off, rfl, Va.at_below (v := v) h1 hb⟩, Va.ok_below (v := v) h2 hb⟩
theorem vals_take {w : World} {a : Option Addr} {l : List Va} (h : ValsAt w a l) (k : Nat) : ValsAt w a (l.take k) := fun i x hx => by
  rw [List.getElem?_take] at hx
  split at hx
  · exact h i x hx
  · cases hx
theorem va_bytes (v : Va) (W : World) (h : v.ok W) : Calls Try.prog 36 #[.agg #[.int .u8 v.K, .int .i64 v.n, .string v.s, .slice v.a v.l v.c, .slice v.a' v.l' v.c'], .int .u8 v.K] W fun e w' => e = .returned (.string v.by) ∧ Below W.heap.size W w' := by
  obtain ⟨x1, x2, x3, x4, x5, x6, x7, x8, x9, x10, x11, x12, x13⟩ := h
  exact bytes_any v.K v.n v.s v.a v.a' v.L v.T v.l v.l' v.c v.c' x1 x2 x3 v.K x10 x11 x12 x4 x5 x6 W x7 x8 x13 x9
theorem va_read (v : Va) (W : World) (h : v.ok W) (b : Nat) (S : ByteArray) (hR : RS W b S false) (hS : S.size ≤ 1000000) (t : List UInt8) (ht : S.data.toList = v.by.data.toList ++ t) (hb : ∀ g, v.a = some g → v.L ≠ [] → g.block ≠ b) (hb' : ∀ g, v.a' = some g → v.T ≠ [] → g.block ≠ b) :
    Calls Try.prog 37 #[.agg #[.int .u8 v.K, .int .i64 v.n, .string v.s, .slice v.a v.l v.c, .slice v.a' v.l' v.c'], .pointer (some ⟨b, 0, none⟩), .int .u8 v.K] W fun e w' => e = .returned (.bool true) ∧ RS w' b ⟨t.toArray⟩ false ∧ W.grownBy w' (some b) := by
  obtain ⟨x1, x2, x3, x4, x5, x6, x7, x8, x9, x10, x11, x12, x13⟩ := h
  exact read_any v.K v.n v.s v.a v.a' v.L v.T v.l v.l' v.c v.c' x1 x2 x3 v.K x10 x11 x12 x4 x5 x6 W x7 x8 x13 x9 b S hR hS t ht hb hb'
theorem va_size (v : Va) {W : World} (h : v.ok W) : v.by.size ≤ 10000 := by
  obtain ⟨x1, x2, x3, x4, x5, x6, x7, x8, x9, x10, x11, x12, x13⟩ := h
  exact (by_size v.K v.n v.s v.L v.T x10 x12 x13).2

theorem vals_flat {w : World} : ∀ {l : List Va}, (∀ v ∈ l, Va.ok w v) → (l.flatMap fun v => v.by.data.toList).length ≤ 10000 * l.length := by
  intro l
  induction l with
  | nil => intro _; simp
  | cons v l ih =>
    intro h
    have h1 := ih (fun x hx => h x (by simp [hx]))
    have h2 := va_size v (h v (by simp))
    rw [size_list] at h2
    rw [List.flatMap_cons, List.length_append, List.length_cons]
    omega
theorem vals_all {w : World} {a : Option Addr} {l : List Va} (h : ValsAt w a l) : ∀ v ∈ l, Va.ok w v := fun v hv => by
  obtain ⟨i, hi⟩ := List.mem_iff_getElem?.1 hv
  exact (h i v hi).2
theorem va_kept {w w' : World} {v : Va} {b : Nat} (h : v.ok w) (hg : w.grownBy w' (some b)) (hb : w.heap.size ≤ b) : v.ok w' := by
  obtain ⟨x1, x2, x3, x4, x5, x6, x7, x8, x9, x10, x11, x12, x13⟩ := h
  exact ⟨x1, x2, x3, x4, x5, x6, at_kept2 x7 hg (fun g hh hl => by have := ints_lt x7 g hh hl; omega), sat_kept2 x8 hg (fun g hh hl => by have := strs_lt x8 g hh hl; omega), x9, x10, x11, x12, x13⟩
theorem va_held {w w' : World} {v : Va} {b b' o : Nat} (h : v.at w b o) (hg : w.grownBy w' (some b')) (hne : b ≠ b') : v.at w' b o :=
  ⟨kg hg h.1 hne, kg hg h.2.1 hne, kg hg h.2.2.1 hne, kg hg h.2.2.2.1 hne, kg hg h.2.2.2.2 hne⟩
theorem va_lt {w : World} {v : Va} {b o : Nat} (h : v.at w b o) : b < w.heap.size := block_lt_of_cell h.1
theorem va_apart {w : World} {v : Va} {b : Nat} (h : v.ok w) (hb : w.heap.size ≤ b) : (∀ g, v.a = some g → v.L ≠ [] → g.block ≠ b) ∧ (∀ g, v.a' = some g → v.T ≠ [] → g.block ≠ b) := by
  obtain ⟨x1, x2, x3, x4, x5, x6, x7, x8, x9, x10, x11, x12, x13⟩ := h
  exact ⟨fun g hg hl => by have := ints_lt x7 g hg hl; omega, fun g hg hl => by have := strs_lt x8 g hg hl; omega⟩

theorem elemV : Try.prog.elem 43 = 45 := by kernel_rfl
theorem sizeV (w : World) : (sizeOf 45).run Try.prog w = .ok 5 w := by kernel_rfl
theorem slice_vals (a : Option Addr) (n c m : Nat) (hm : m ≤ c) (h : Int) (hh : h = m) (W : World) :
    (Instr.slice 43 (.slice a n c) none (some (.int .i64 h)) none).run Try.prog W = .ok (.slice a m c) W := by
  subst hh
  have := run_slice_h (P := Try.prog) W 43 a n c (by rw [elemV]; exact Try.underlying43) .i64 m (by omega) (by omega)
  rw [this, elemV, sizeV]
  simp [Result.andThen, sliced]
  intro _
  cases a <;> simp [Addr.add]

set_option maxRecDepth 100000 in
set_option maxHeartbeats 4000000 in
theorem inverse_any (a : Option Addr) (l : List Va) (n c : Nat) (hn : l.length = n) (hnc : n ≤ c) (w : World) (hl : ValsAt w a l) (hs : c ≤ 9223372036854775807) :
    Calls Try.prog 5 #[.slice a n c] w fun e w' => e = .returned (.bool true) ∧ Below w.heap.size w w' := by
  have SA := Lib.hid sanity_any
  have hsl := slice_vals a n c (min n 8) (by omega) (min (n : Int) 8) (by omega)
  have hA : ValsAt w a (l.take (min n 8)) := vals_take hl _
  have hAl : (l.take (min n 8)).length = min n 8 := by rw [List.length_take, hn]; omega
  have hm40 : min n 8 ≤ 8 := by omega
  clear hl hn hnc
  generalize l.take (min n 8) = L at *
  generalize hmm : min n 8 = m at *
  clear hmm
  have HL := Lib.hid (And.intro hA hAl)
  clear hA hAl
  go_enter Try.func5, Try.ntmps5
  go_wp2_with fail
  refine (SA.out _).mono ?_
  rintro e w1 ⟨rfl, hB1⟩
  go_wp2_with fail
  have HB := Lib.hid hB1
  have HV := Lib.hid (vals_below HL.out.1 hB1)
  clear hB1 SA hsl
  go_loopw [4, 18] (fun s4 s18 wr => ∃ k : Nat, k ≤ m ∧ s18 = .int .i64 k ∧ s4 = .string ⟨((L.take k).flatMap fun v => v.by.data.toList).toArray⟩ ∧ Below w1.heap.size w1 wr) (fun _ s18 _ => m - (intOf s18).toNat)
  case atStart => exact ⟨0, by omega, rfl, by simp, Below.refl _ _⟩
  case round =>
    obtain ⟨k, hk, rfl, rfl, hB⟩ := hrel
    rcases Nat.lt_or_ge k m with hlt | hge
    · have hx : L[k]? = some (L[k]'(by rw [HL.out.2]; exact hlt)) := List.getElem?_eq_getElem _
      have G0 := vals_flat (vals_all HL.out.1)
      rw [HL.out.2] at G0
      obtain ⟨⟨b, off, rfl, hc⟩, hok⟩ := HV.out k _ hx
      have F := flat_take (fun v : Va => v.by.data.toList) L k (by rw [HL.out.2]; exact hlt)
      generalize L[k]'(by rw [HL.out.2]; exact hlt) = v at *
      obtain ⟨g0, g1, g2, g3, g4⟩ := Va.at_below (v := v) hc hB
      have hok' := Va.ok_below (v := v) hok hB
      have G := flat_le (fun v : Va => v.by.data.toList) L (k + 1)
      rw [F, List.length_append] at G
      have hz2 : v.by.size = v.by.data.toList.length := size_list _
      have Y : (⟨((L.take (k + 1)).flatMap fun v => v.by.data.toList).toArray⟩ : ByteArray) = ⟨((L.take k).flatMap fun v => v.by.data.toList).toArray⟩ ++ v.by := by rw [F, ← ByteArray.mk_append_mk]
      have hz1 : (⟨((L.take k).flatMap fun v => v.by.data.toList).toArray⟩ : ByteArray).size = ((L.take k).flatMap fun v => v.by.data.toList).length := mk_size _
      generalize (⟨((L.take k).flatMap fun v => v.by.data.toList).toArray⟩ : ByteArray) = S at *
      have HY := Lib.hid Y
      have cat := fun w => run_string_add_sum (P := Try.prog) (w := w) S v.by (by omega)
      have hbx : Below wr.heap.size wr (wr.alloc (.cells #[.int .u8 v.K, .int .i64 v.n, .string v.s, .slice v.a v.l v.c, .slice v.a' v.l' v.c'] 45)) := by go_grown
      have I := Lib.hid (va_bytes v _ (Va.ok_below hok' hbx))
      have HBX := Lib.hid (bt hB hbx)
      clear hx hc F G G0 hz1 hz2 Y hok hok' hB hbx
      go_wp2_with fail
      refine I.out.mono ?_
      rintro e w3 ⟨rfl, hB3⟩
      have hB4 := bt HBX.out hB3
      clear hB3 HBX I
      go_wp2_with fail
      go_roundw
      case rel => exact ⟨k + 1, by omega, by congr 1, by rw [HY.out], hB4⟩
      case measure => simp [intOf]; omega
    · have hkm : k = m := by omega
      subst hkm
      rw [List.take_of_length_le (by rw [HL.out.2]; omega)]
      have hz : (⟨(L.flatMap fun v => v.by.data.toList).toArray⟩ : ByteArray).size ≤ 1000000 := by
        rw [mk_size]; have := vals_flat (vals_all HL.out.1); rw [HL.out.2] at this; omega
      have HD : Hid ((⟨(L.flatMap fun v => v.by.data.toList).toArray⟩ : ByteArray) = ⟨((L.drop 0).flatMap fun v => v.by.data.toList).toArray⟩) := Lib.hid (by rw [List.drop_zero])
      generalize (⟨(L.flatMap fun v => v.by.data.toList).toArray⟩ : ByteArray) = S at *
      have HZ := Lib.hid hz
      have NW := Lib.hid (new_any S)
      obtain ⟨wo, rfl⟩ : ∃ wo : World, wo = wr := ⟨_, rfl⟩
      have HVV := Lib.hid (vals_below HV.out hB)
      have HBB := Lib.hid (bt HB.out hB)
      have hL2 := Lib.hid HL.out.2
      clear hB HB HV HL hz
      go_wp2_with fail
      refine (NW.out _).mono ?_
      rintro e w3 ⟨rfl, hR, hB4, hlt3⟩
      have LF := Lib.hid (left_any _ _ _ _ hR)
      have HR := Lib.hid hR
      have H3 := Lib.hid (And.intro hB4 hlt3)
      have hsz := HBB.out.size
      clear hR hB4 hlt3
      generalize hb1 : wo.heap.size = b1 at *
      have Hb1 := Lib.hid hb1
      clear hb1
      have H3 := Lib.hid (show Below wo.heap.size wo w3 by rw [Hb1.out]; exact H3.out.1)
      go_wp2_with fail
      refine LF.out.mono ?_
      rintro e w4 ⟨rfl, rfl⟩
      go_wp2_with fail
      obtain ⟨wn, rfl⟩ : ∃ wn : World, wn = w3 := ⟨_, rfl⟩
      go_loopw [42] (fun s42 wr => ∃ j : Nat, j ≤ k ∧ s42 = .int .i64 j ∧ RS wr b1 ⟨((L.drop j).flatMap fun v => v.by.data.toList).toArray⟩ false ∧ wn.grownBy wr (some b1)) (fun s42 _ => k - (intOf s42).toNat)
      case atStart => exact ⟨0, by omega, rfl, by rw [← HD.out]; exact HR.out, gr _ _⟩
      case round =>
        clear HR LF NW
        obtain ⟨j, hj, rfl, hR, hG⟩ := hrel
        rcases Nat.lt_or_ge j k with hlt | hge2
        · have hx : L[j]? = some (L[j]'(by rw [hL2.out]; exact hlt)) := List.getElem?_eq_getElem _
          obtain ⟨⟨b, off, rfl, hc⟩, hok⟩ := HVV.out j _ hx
          have F : (L.drop j).flatMap (fun v => v.by.data.toList) = (L[j]'(by rw [hL2.out]; exact hlt)).by.data.toList ++ (L.drop (j + 1)).flatMap (fun v => v.by.data.toList) := by
            rw [List.drop_eq_getElem_cons (by rw [hL2.out]; exact hlt), List.flatMap_cons]
          have F2 : ((L.drop j).flatMap fun v => v.by.data.toList).length ≤ 1000000 := by
            have h := vals_flat (w := wo) (l := L.drop j) (fun v hv => vals_all HVV.out v (List.mem_of_mem_drop hv))
            rw [List.length_drop, hL2.out] at h; omega
          generalize L[j]'(by rw [hL2.out]; exact hlt) = v at *
          have hbb : b ≠ b1 := by have := va_lt (v := v) hc; have := Hb1.out; omega
          obtain ⟨g0, g1, g2, g3, g4⟩ := va_held (v := v) (Va.at_below (v := v) hc H3.out) hG hbb
          have hbx : Below wr.heap.size wr (wr.alloc (.cells #[.int .u8 v.K, .int .i64 v.n, .string v.s, .slice v.a v.l v.c, .slice v.a' v.l' v.c'] 45)) := by go_grown
          have ok1 := Va.ok_below (va_kept hok (bgr H3.out hG) (by rw [Hb1.out]; exact Nat.le_refl _)) hbx
          have ap := va_apart hok (Nat.le_of_eq Hb1.out)
          have hRb := rs_below hR hbx
          have I := Lib.hid (va_read v _ ok1 b1 _ hRb (by rw [mk_size]; exact F2) _ (by rw [F]) ap.1 ap.2)
          have HG := Lib.hid (gtb hG hbx)
          clear hx hc hok ok1 ap hR hRb hG hbx F F2
          go_wp2_with fail
          refine I.out.mono ?_
          rintro e w5 ⟨rfl, hR, hg⟩
          have BA := Lib.hid (bad_any _ _ _ _ hR)
          have HQ := Lib.hid (And.intro hR (gg HG.out hg))
          clear hR hg I HG
          go_wp2_with fail
          refine BA.out.mono ?_
          rintro e w6 ⟨rfl, rfl⟩
          go_wp2_with fail
          go_roundw
          case rel => exact ⟨j + 1, by omega, by congr 1, HQ.out.1, HQ.out.2⟩
          case measure => simp [intOf]; omega
        · have hjk : j = k := by omega
          subst hjk
          rw [List.drop_of_length_le (by rw [hL2.out]; omega)] at hR
          have LE := Lib.hid (left_empty b1 false wr hR)
          have HF := Lib.hid (bg (bt HBB.out H3.out) hG (by rw [← Hb1.out]; exact HBB.out.size))
          clear hR hG
          go_wp2_with fail
          refine LE.out.mono ?_
          rintro e w5 ⟨rfl, rfl⟩
          go_wp2_with fail
          go_ret
          exact ⟨rfl, HF.out⟩
end Go.Proofs.Ytadnkofbgifliaa.Wr
