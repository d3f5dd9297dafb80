/-
  Layer 6 (outline): the iterator over the points.
-/
import Derived.Test.YtdgagjcocohnnaaOtC
namespace Go.Proofs.Ytdgagjcocohnnaa.Ot
open Go.RowKit Go.Shelf
attribute [local go_sem] Oper.semAt_some
/-- The contour of a point, and its number in it. -/
def loc (ns : Nat → Nat) : Nat → Nat → Nat × Nat
  | 0, j => (0, j)
  | K + 1, j => if pre ns K ≤ j then (K, j - pre ns K) else loc ns K j
theorem loc_at (ns : Nat → Nat) {k i : Nat} (hi : i < ns k) : ∀ {K : Nat}, k < K → loc ns K (pre ns k + i) = (k, i)
  | 0, h => by omega
  | K + 1, h => by
    unfold loc
    rcases Nat.lt_or_ge k K with hk | hk
    · have := pre_mono ns (show k + 1 ≤ K by omega)
      rw [pre] at this
      rw [if_neg (by omega)]
      exact loc_at ns hi hk
    · obtain rfl : k = K := by omega
      rw [if_pos (by omega), Nat.add_sub_cancel_left]
theorem loc_in (ns : Nat → Nat) {j : Nat} : ∀ {K : Nat}, j < pre ns K → (loc ns K j).1 < K ∧ (loc ns K j).2 < ns (loc ns K j).1 ∧ pre ns (loc ns K j).1 + (loc ns K j).2 = j
  | 0, h => by unfold pre at h; omega
  | K + 1, h => by
    unfold loc
    rw [pre] at h
    by_cases hk : pre ns K ≤ j
    · rw [if_pos hk]
      refine ⟨Nat.lt_succ_self K, ?_, ?_⟩
      · show j - pre ns K < ns K
        omega
      · show pre ns K + (j - pre ns K) = j
        omega
    · rw [if_neg hk]
      obtain ⟨h1, h2⟩ := loc_in ns (j := j) (K := K) (by omega)
      exact ⟨by omega, h2⟩
/-- The lists of an outline, with where their points lie. -/
def OX (w : World) (a : Option Addr) (N : Nat) (ns B O : Nat → Nat) : Prop :=
  ∀ k, k < N → ∃ b off a' c', a = some ⟨b, off, none⟩ ∧ w.cell? ⟨b, off + k, none⟩ = some (.slice a' (ns k) c') ∧ ns k ≤ c' ∧ c' ≤ 9223372036854775807 ∧ (0 < ns k → a' = some ⟨B k, O k, none⟩)
theorem ox_below {w W : World} {a : Option Addr} {N : Nat} {ns B O : Nat → Nat} (h : OX w a N ns B O) (hB : Below w.heap.size w W) : OX W a N ns B O := fun k hk => by
  obtain ⟨b, off, a', c', e, hc, h1, h2, hp⟩ := h k hk
  exact ⟨b, off, a', c', e, kc hB hc, h1, h2, hp⟩
theorem ot_ox {w : World} {a : Option Addr} {N : Nat} {ns : Nat → Nat} {g : Nat → Nat → Pt} (h : OT w a N ns g) : ∃ B O : Nat → Nat, OX w a N ns B O ∧ ∀ k, k < N → ∀ i, i < ns k → PtAt w (B k) (O k + i * 3) (g k i) := by
  have hx : ∀ k, ∃ x : Nat × Nat, k < N → (∃ b off a' c', a = some ⟨b, off, none⟩ ∧ w.cell? ⟨b, off + k, none⟩ = some (.slice a' (ns k) c') ∧ ns k ≤ c' ∧ c' ≤ 9223372036854775807 ∧ (0 < ns k → a' = some ⟨x.1, x.2, none⟩)) ∧ ∀ i, i < ns k → PtAt w x.1 (x.2 + i * 3) (g k i) := by
    intro k
    by_cases hk : k < N
    · obtain ⟨b, off, a', c', e, hc, h1, h2, hp⟩ := h k hk
      by_cases h0 : 0 < ns k
      · obtain ⟨b', o', rfl, hq⟩ := hp 0 h0
        refine ⟨(b', o'), fun _ => ⟨⟨b, off, _, c', e, hc, h1, h2, fun _ => rfl⟩, fun i hi => ?_⟩⟩
        obtain ⟨b2, o2, e2, hq2⟩ := hp i hi
        cases e2
        exact hq2
      · exact ⟨(0, 0), fun _ => ⟨⟨b, off, a', c', e, hc, h1, h2, fun h => absurd h h0⟩, fun i hi => by omega⟩⟩
    · exact ⟨(0, 0), fun h => absurd h hk⟩
  refine ⟨fun k => (Classical.choose (hx k)).1, fun k => (Classical.choose (hx k)).2, fun k hk => ?_, fun k hk => ?_⟩
  · exact (Classical.choose_spec (hx k) hk).1
  · exact (Classical.choose_spec (hx k) hk).2
def pargs (N : Nat) (ns B O : Nat → Nat) (j : Nat) : Array Value := #[.int .i64 (j : Int), .pointer (some ⟨B (loc ns N j).1, O (loc ns N j).1 + (loc ns N j).2 * 3, none⟩)]
def PMem (X : Nat) (a : Option Addr) (N c : Nat) (ns B O : Nat → Nat) (V : World) : Prop := V.cell? ⟨X, 0, none⟩ = some (.slice a N c) ∧ OX V a N ns B O
theorem points_any (a : Option Addr) (N c : Nat) (w : World) :
    Calls Try.prog 58 #[.slice a N c] w fun e w' => e = .returned (.func (.func 71) #[] #[.pointer (some ⟨w.heap.size, 0, none⟩)]) ∧ w' = w.alloc (.cells #[.slice a N c] 28) := by
  go_enter Try.func58, Try.ntmps58
  go_wp2
  go_ret
  exact ⟨rfl, rfl⟩
def ItOut (N : Nat) (ns : Nat → Nat) (J : Nat → World → Prop) (s3 s9 : Value) (wr : World) : Prop := ∃ k : Nat, k ≤ N ∧ s9 = .int .i64 k ∧ s3 = .int .i64 (pre ns k : Nat) ∧ J (pre ns k) wr
def ItIn (ns : Nat → Nat) (k : Nat) (J : Nat → World → Prop) (s3 s15 : Value) (wr : World) : Prop := ∃ i : Nat, i ≤ ns k ∧ s15 = .int .i64 i ∧ s3 = .int .i64 (pre ns k + i : Nat) ∧ J (pre ns k + i) wr
theorem mixedF : Try.prog.follows .mixedOrders = true := by kernel_rfl
set_option maxRecDepth 100000 in
set_option maxHeartbeats 4000000 in
theorem points_gives (n : Nat) (hn : 2 ≤ n) (a : Option Addr) (N c : Nat) (ns B O : Nat → Nat) (X : Nat) (hN : N ≤ 1000000) (hs : pre ns N ≤ 1000000) :
    Gives Try.prog n 71 #[.pointer (some ⟨X, 0, none⟩)] (pre ns N) (fun _ => true) (pargs N ns B O) (PMem X a N c ns B O) := by
  intro rec J V hY hS hBl hM h0
  obtain ⟨c0, hD⟩ := hM 0 V h0
  have HY := Lib.hid hY
  have HB := Lib.hid hBl
  have HM := Lib.hid hM
  clear hY hS hBl hM hD
  refine callsIn_of_wp Try.func71 rfl trivial ?_ rfl
  simp only [Try.ntmps71, List.size_toArray, List.length_cons, List.length_nil, Nat.reduceAdd, Nat.reduceSub, Array.replicate_succ, Array.replicate_zero, List.push_toArray, List.append_toArray, List.nil_append, List.cons_append]
  gi_wp2
  gi_loopw [3, 9] (fun s3 s9 wr => ItOut N ns J s3 s9 wr) (fun _ s9 _ => N - (intOf s9).toNat)
  case atStart => exact ⟨0, by omega, rfl, rfl, h0⟩
  case round =>
    clear h0 c0
    obtain ⟨k, hk, rfl, rfl, hJ⟩ := hrel
    rcases Nat.lt_or_ge k N with hkN | hkN
    · obtain ⟨c0, hX⟩ := HM.out _ wr hJ
      obtain ⟨b, off, a', c', rfl, hc, h1, h2, hp⟩ := hX k hkN
      have HP := Lib.hid hp
      have k2 : (0 : Int) ≤ (k : Int) := by omega
      have k3 : (k : Int) < (N : Int) := by omega
      have hm := pre_mono ns (show k + 1 ≤ N by omega)
      have he : Hid (pre ns (k + 1) = pre ns k + ns k) := Lib.hid rfl
      have hm2 : pre ns k + ns k ≤ pre ns N := by rw [← he.out]; exact hm
      have hNX : Hid (∀ W, J (pre ns k + ns k) W → ItOut N ns J (.int .i64 (pre ns k + ns k : Nat)) (.int .i64 ((k : Int) + 1)) W) := Lib.hid (fun W hJ => ⟨k + 1, by omega, rfl, rfl, hJ⟩)
      clear hp hm hX he
      gi_wp2
      gi_loopw [3, 15] (fun s3 s15 wr => ItIn ns k J s3 s15 wr) (fun _ s15 _ => ns k - (intOf s15).toNat)
      case atStart => exact ⟨0, by omega, rfl, rfl, hJ⟩
      case round =>
        clear hJ hc c0
        obtain ⟨i, hi, rfl, rfl, hJ⟩ := hrel
        rename World => V2
        rcases Nat.lt_or_ge i (ns k) with hin | hin
        · obtain ⟨fn, tmps, assign, body, hy, hR⟩ := HY.out (pre ns k + i) V2 hJ (by omega) trivial
          obtain rfl := HP.out (by omega)
          have i2 : (0 : Int) ≤ (i : Int) := by omega
          have i3 : (i : Int) < ((ns k : Nat) : Int) := by omega
          unfold pargs at hy
          rw [loc_at ns hin hkN] at hy
          simp only at hy
          have RR : Hid (∀ W, J (pre ns k + i + 1) W → ItIn ns k J (.int .i64 ((pre ns k + i : Nat) + 1 : Int)) (.int .i64 ((i : Int) + 1)) W) := Lib.hid (fun W hJ => ⟨i + 1, by omega, rfl, by congr 1, hJ⟩)
          clear HY HM hJ hNX
          have hpi : pre ns k + i ≤ 1000000 := by omega
          generalize pre ns k + i = j at *
          gi_wp2
          refine ⟨fun _ => (by omega), ?_⟩
          refine hR.mono ?_
          rintro e w2 ⟨rfl, hJ2⟩
          have R := Lib.hid (RR.out _ hJ2)
          gi_wp2
          go_roundw
          case rel => exact R.out
          case measure => simp [intOf]; omega
        · obtain rfl : i = ns k := by omega
          have R := Lib.hid (hNX.out _ hJ)
          gi_wp2
          go_roundw
          case rel => exact R.out
          case measure => simp [intOf]; omega
    · obtain rfl : k = N := by omega
      gi_wp2
      go_end0
      exact ⟨⟨_, rfl⟩, hJ⟩
end Go.Proofs.Ytdgagjcocohnnaa.Ot
