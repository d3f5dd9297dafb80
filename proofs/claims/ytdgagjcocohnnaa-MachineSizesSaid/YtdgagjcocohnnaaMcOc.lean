/-
  Layer 9 (machine): MachineSizes, walked.
-/
import Derived.Test.YtdgagjcocohnnaaMcOb
import Derived.Test.YtdgagjcocohnnaaMcS
namespace Go.Proofs.Ytdgagjcocohnnaa.Mc
open Go.RowKit
open Go.Proofs.Ytdgagjcocohnnaa.Ot (Pt PtAt PA PO OO OT LX pre pre_mono shP scP p0 ot_below pa_below ot_congr oo_ot mo_oo rCount_any rSame_any EqO EqC)
/-- A run that fails. -/
def RunEr (N : Nat) (ns : Nat → Nat) (g : Nat → Nat → Pt) (l : List Opn) (sz E : Int) : Prop :=
  ∀ (a : Option Addr) (c : Nat) (pa : Option Addr) (n pc : Nat) (w : World), l.length = n → n ≤ pc ∧ pc ≤ 9223372036854775807 → OT w a N ns g → PrA w.heap.size w pa l →
    Calls Try.prog 12 #[.slice pa n pc, .slice a N c, .int .i64 sz] w fun e w' => e = .returned (.tuple #[.slice none 0 0, .int .i64 0, .int .i64 E]) ∧ Below w.heap.size w w'
theorem run_erP {N : Nat} {ns : Nat → Nat} {g : Nat → Nat → Pt} {l : List Opn} {sz E : Int} (hN : N ≤ 2) (hs : pre ns N ≤ 12) (e : runL (pre ns N : Nat) sz l 0 ⟨[], 0, fl ns (fun k i => shP 0 0 (g k i)) N⟩ = .er E) : RunEr N ns g l sz E := fun a c pa n pc w hn hpc hA hp => by
  subst hn
  refine (Run_any a N c ns g (by omega) (by omega) l pa pc hpc sz w hA hp).mono ?_
  rintro e' w' ⟨_, h1⟩
  exact h1 E e
theorem sizes_run {N : Nat} {ns : Nat → Nat} {g : Nat → Nat → Pt} {l : List Opn} (one two : Int) (hN : N ≤ 2) (hs : pre ns N ≤ 12) (h : ∀ p ∈ l, p.c ≠ 9) :
    (∃ st G, RunOk N ns g l one st G ∧ RunOk N ns g l two st G) ∨ ∃ E, RunEr N ns g l one E ∧ RunEr N ns g l two E := by
  have e := runL_size (np := (pre ns N : Nat)) (sz := one) (sz2 := two) h 0 ⟨[], 0, fl ns (fun k i => shP 0 0 (g k i)) N⟩
  cases hr : runL (pre ns N : Nat) one l 0 ⟨[], 0, fl ns (fun k i => shP 0 0 (g k i)) N⟩ with
  | ok s => exact .inl ⟨s.st, _, run_okP hN hs hr, run_okP hN hs (e ▸ hr)⟩
  | er E => exact .inr ⟨E, run_erP hN hs hr, run_erP hN hs (e ▸ hr)⟩
def an9 (l : List Opn) (i : Nat) : Bool := (l.take i).any (fun p => p.c == 9)
theorem an9_succ {l : List Opn} {i : Nat} {q : Opn} (h : l[i]? = some q) : an9 l (i + 1) = (an9 l i || q.c == 9) := by
  unfold an9
  rw [List.take_add_one, h, List.any_append]
  simp
theorem an9_all {l : List Opn} {n : Nat} (hn : l.length = n) (h : an9 l n = false) : ∀ p ∈ l, p.c ≠ 9 := fun p hp => by
  unfold an9 at h
  rw [List.take_of_length_le (by omega)] at h
  have := List.any_eq_false.1 h p hp
  simpa using this
set_option maxRecDepth 100000 in
set_option maxHeartbeats 16000000 in
theorem Sizes_any (la : Option Addr) (lN lc : Nat) (L : Nat → Nat) (l : Nat → Nat → Int) (pa : Option Addr) (pn pc : Nat) (p : Nat → Int) (x y z : Int) (hpc : pn ≤ 9223372036854775807) (hx : Ax.R64 x) (hy : Ax.R64 y) (hz : Ax.R64 z) (ra : Option Addr) (rn rc : Nat) (lr : List Opn) (hrl : lr.length = rn) (hrc : rn ≤ rc ∧ rc ≤ 9223372036854775807) (one two : Int) (w : World) (hL : LX w la lN L l) (hP : Ax.LA w pa pn p) (hR : ∀ i, i < pn → Ax.R64 (p i)) (hr : PrA w.heap.size w ra lr) :
    Calls Try.prog 6 #[.agg #[.slice la lN lc, .slice pa pn pc, .int .i64 x, .int .i64 y, .int .i64 z], .slice ra rn rc, .int .i64 one, .int .i64 two] w fun e w' => e = .returned (.bool true) ∧ Below w.heap.size w w' := by
  have hB0 : Below w.heap.size w (w.alloc (.cells #[.slice la lN lc, .slice pa pn pc, .int .i64 x, .int .i64 y, .int .i64 z] 26)) := ba (Below.refl _ _) _
  have c0 : (w.alloc (.cells #[.slice la lN lc, .slice pa pn pc, .int .i64 x, .int .i64 y, .int .i64 z] 26)).cell? ⟨w.heap.size, 0, none⟩ = some (.slice la lN lc) := by go_cell
  have c1 : (w.alloc (.cells #[.slice la lN lc, .slice pa pn pc, .int .i64 x, .int .i64 y, .int .i64 z] 26)).cell? ⟨w.heap.size, 1, none⟩ = some (.slice pa pn pc) := by go_cell
  have c2 : (w.alloc (.cells #[.slice la lN lc, .slice pa pn pc, .int .i64 x, .int .i64 y, .int .i64 z] 26)).cell? ⟨w.heap.size, 2, none⟩ = some (.int .i64 x) := by go_cell
  have c3 : (w.alloc (.cells #[.slice la lN lc, .slice pa pn pc, .int .i64 x, .int .i64 y, .int .i64 z] 26)).cell? ⟨w.heap.size, 3, none⟩ = some (.int .i64 y) := by go_cell
  have c4 : (w.alloc (.cells #[.slice la lN lc, .slice pa pn pc, .int .i64 x, .int .i64 y, .int .i64 z] 26)).cell? ⟨w.heap.size, 4, none⟩ = some (.int .i64 z) := by go_cell
  have HL := Lib.hid (Go.Proofs.Ytdgagjcocohnnaa.Ot.lx_below hL hB0)
  have HP := Lib.hid (Ax.la_below hP hB0)
  have HM := Lib.hid (pra_up hr hB0)
  have HX := Lib.hid (And.intro hx (And.intro hy hz))
  have HR := Lib.hid hR
  clear hL hP hR hr hx hy hz
  go_enter Try.func6, Try.ntmps6
  go_upto_region 1 with (fail)
  generalize (w.alloc (.cells #[.slice la lN lc, .slice pa pn pc, .int .i64 x, .int .i64 y, .int .i64 z] 26)) = V0 at *
  obtain ⟨B, hBw⟩ : ∃ B, w.heap.size = B := ⟨_, rfl⟩
  rw [hBw] at c0 c1 c2 c3 c4 ⊢
  have HBw := Lib.hid hBw
  clear hBw
  go_wp2_with fail
  refine (sanity_any _).mono ?_
  rintro e V1 ⟨rfl, h1⟩
  have hB := bt hB0 h1
  replace c0 := kc h1 c0
  replace c1 := kc h1 c1
  replace c2 := kc h1 c2
  replace c3 := kc h1 c3
  replace c4 := kc h1 c4
  have HL1 := Lib.hid (Go.Proofs.Ytdgagjcocohnnaa.Ot.lx_below HL.out h1)
  have HP1 := Lib.hid (Ax.la_below HP.out h1)
  have HM1 := Lib.hid (pra_up HM.out h1)
  clear h1 HL HP HM hB0
  go_wp2_with fail
  refine (made_any la lN lc L l pa pn pc p x y z hpc V1 HL1.out HP1.out HR.out).mono ?_
  rintro e V2 ⟨a, N, c, ns, g, pv, out, rfl, hN, hns, hpr, hA, hb, hown, hmp, h2⟩
  have HA := Lib.hid hA
  have Hns := Lib.hid hns
  have hB2 := bt hB h2
  have HL2 := Lib.hid (Go.Proofs.Ytdgagjcocohnnaa.Ot.lx_below HL1.out h2)
  have HP2 := Lib.hid (Ax.la_below HP1.out h2)
  have HM2 := Lib.hid (pra_up HM1.out h2)
  replace c0 := kc h2 c0
  replace c1 := kc h2 c1
  replace c2 := kc h2 c2
  replace c3 := kc h2 c3
  replace c4 := kc h2 c4
  clear hown h2 HL1 HP1 HM1 hns hb hmp hA hB
  go_wp2_with fail
  refine (programs_any la lN lc L l pa pn pc p x y z hpc HX.out.1 HX.out.2.1 HX.out.2.2 ra rn rc lr hrl hrc V2 HL2.out HP2.out HR.out HM2.out).mono ?_
  rintro e V3 ⟨v0, v1, v2, v3, l0, l1, l2, l3, rfl, P0, P1, P2, P3, h3⟩
  clear c0 c1 c2 c3 c4 HL2 HP2 HM2 HX HR
  replace hB2 := bt hB2 h3
  have HA3 := Lib.hid (ot_below HA.out h3)
  clear h3 HA
  obtain ⟨a0, n0, k0, rfl, A0⟩ := P0
  obtain ⟨a1, n1, k1, rfl, A1⟩ := P1
  obtain ⟨a2, n2, k2, rfl, A2⟩ := P2
  obtain ⟨a3, n3, k3, rfl, A3⟩ := P3
  have HA0' := Lib.hid A0
  have HA1' := Lib.hid A1
  have HA2' := Lib.hid A2
  have HA3' := Lib.hid A3
  clear A0 A1 A2 A3
  have bX : Below V3.heap.size V3 (V3.alloc (.cells #[.slice a0 n0 k0, .slice a1 n1 k1, .slice a2 n2 k2, .slice a3 n3 k3] 33)) := ba (Below.refl _ _) _
  have y0 : (V3.alloc (.cells #[.slice a0 n0 k0, .slice a1 n1 k1, .slice a2 n2 k2, .slice a3 n3 k3] 33)).cell? ⟨V3.heap.size, 0, none⟩ = some (.slice a0 n0 k0) := by go_cell
  have y1 : (V3.alloc (.cells #[.slice a0 n0 k0, .slice a1 n1 k1, .slice a2 n2 k2, .slice a3 n3 k3] 33)).cell? ⟨V3.heap.size, 1, none⟩ = some (.slice a1 n1 k1) := by go_cell
  have y2 : (V3.alloc (.cells #[.slice a0 n0 k0, .slice a1 n1 k1, .slice a2 n2 k2, .slice a3 n3 k3] 33)).cell? ⟨V3.heap.size, 2, none⟩ = some (.slice a2 n2 k2) := by go_cell
  have y3 : (V3.alloc (.cells #[.slice a0 n0 k0, .slice a1 n1 k1, .slice a2 n2 k2, .slice a3 n3 k3] 33)).cell? ⟨V3.heap.size, 3, none⟩ = some (.slice a3 n3 k3) := by go_cell
  have KF : Hid (∀ k : Nat, k < 4 → ∀ W, Below (V3.alloc (.cells #[.slice a0 n0 k0, .slice a1 n1 k1, .slice a2 n2 k2, .slice a3 n3 k3] 33)).heap.size (V3.alloc (.cells #[.slice a0 n0 k0, .slice a1 n1 k1, .slice a2 n2 k2, .slice a3 n3 k3] 33)) W → ∃ a n c l, W.cell? ⟨V3.heap.size, k, none⟩ = some (.slice a n c) ∧ l.length = n ∧ n ≤ 100 ∧ n ≤ c ∧ c ≤ 9223372036854775807 ∧ PrA W.heap.size W a l) := Lib.hid (fun k hk W h => by
    obtain rfl | rfl | rfl | rfl : k = 0 ∨ k = 1 ∨ k = 2 ∨ k = 3 := by omega
    · exact ⟨a0, n0, k0, l0, kc h y0, HA0'.out.1, HA0'.out.2.1, HA0'.out.2.2.1, HA0'.out.2.2.2.1, pra_up HA0'.out.2.2.2.2 (bt bX h)⟩
    · exact ⟨a1, n1, k1, l1, kc h y1, HA1'.out.1, HA1'.out.2.1, HA1'.out.2.2.1, HA1'.out.2.2.2.1, pra_up HA1'.out.2.2.2.2 (bt bX h)⟩
    · exact ⟨a2, n2, k2, l2, kc h y2, HA2'.out.1, HA2'.out.2.1, HA2'.out.2.2.1, HA2'.out.2.2.2.1, pra_up HA2'.out.2.2.2.2 (bt bX h)⟩
    · exact ⟨a3, n3, k3, l3, kc h y3, HA3'.out.1, HA3'.out.2.1, HA3'.out.2.2.1, HA3'.out.2.2.2.1, pra_up HA3'.out.2.2.2.2 (bt bX h)⟩)
  have HA4 := Lib.hid (ot_below HA3.out bX)
  have hB4 := Lib.hid (bt hB2 bX)
  clear bX y0 y1 y2 y3 hB2 HA3 HA0' HA1' HA2' HA3'
  go_upto_region 4 with (fail)
  generalize (V3.alloc (.cells #[.slice a0 n0 k0, .slice a1 n1 k1, .slice a2 n2 k2, .slice a3 n3 k3] 33)) = V4 at *
  obtain ⟨Q, hQ⟩ : ∃ Q, V3.heap.size = Q := ⟨_, rfl⟩
  rw [hQ] at KF ⊢
  clear hQ
  go_wp2_with fail
  go_loopw [13] (fun s13 V => ∃ k : Nat, s13 = .int .i64 k ∧ k ≤ 4 ∧ Below V4.heap.size V4 V) (fun s13 _ => 4 - (intOf s13).toNat)
  case atStart => exact ⟨0, rfl, Nat.zero_le _, Below.refl _ _⟩
  case round =>
    obtain ⟨k, rfl, hk, hV⟩ := hrel
    rename World => V
    rcases Nat.lt_or_ge k 4 with hk4 | hk4
    · obtain ⟨a9, n9, c9, l9, hc, hl9, hn9, hc1, hc2, hpr9⟩ := KF.out k hk4 V hV
      have z1 : (0 : Int) ≤ (k : Int) := by omega
      have z2 : (k : Int) < 4 := by omega
      have R : Hid (∀ W, Below V.heap.size V W → ∃ j : Nat, (Value.int .i64 ((k : Int) + 1)) = .int .i64 j ∧ j ≤ 4 ∧ Below V4.heap.size V4 W) := Lib.hid (fun W h => ⟨k + 1, rfl, by omega, bt hV h⟩)
      have HC := Lib.hid hc
      have Hl9 := Lib.hid hl9
      have HP9 := Lib.hid hpr9
      have HA5 := Lib.hid (ot_below HA4.out hV)
      clear hl9 hpr9 hV
      go_wp2_with fail
      go_loopw [14, 15] (fun s14 s15 W => ∃ i : Nat, s14 = .bool (an9 l9 i) ∧ s15 = .int .i64 i ∧ i ≤ n9 ∧ Below V.heap.size V W) (fun _ s15 _ => n9 - (intOf s15).toNat)
      case atStart => exact ⟨0, rfl, rfl, Nat.zero_le _, Below.refl _ _⟩
      case round =>
        clear hc
        obtain ⟨i, rfl, rfl, hi, hW⟩ := hrel
        rename World => W
        have hc := kc hW HC.out
        have i1 : (0 : Int) ≤ (i : Int) := by omega
        rcases Nat.lt_or_ge i n9 with hin | hin
        · have i2 : (i : Int) < (n9 : Int) := by omega
          obtain ⟨q, hq⟩ : ∃ q, l9[i]? = some q := ⟨_, List.getElem?_eq_getElem (by have := Hl9.out; omega)⟩
          obtain ⟨b, o, rfl, _, k0, _, _⟩ := pra_up HP9.out hW i q hq
          have hs := an9_succ hq
          have R2 : Hid (∃ j : Nat, (Value.bool (an9 l9 i || q.c == 9)) = .bool (an9 l9 j) ∧ (Value.int .i64 ((i : Int) + 1)) = .int .i64 j ∧ j ≤ n9 ∧ Below V.heap.size V W) := Lib.hid ⟨i + 1, by rw [hs], rfl, by omega, hW⟩
          clear hs
          obtain ⟨sv, hsv⟩ : ∃ sv, an9 l9 i = sv := ⟨_, rfl⟩
          rw [hsv] at R2 ⊢
          clear hsv hW
          cases sv with
          | false =>
            go_wp2_with fail
            exact ⟨R2.out, by simp [intOf]; omega⟩
          | true =>
            go_wp2_with fail
            exact ⟨R2.out, by simp [intOf]; omega⟩
        · obtain rfl : i = n9 := by omega
          have ha := an9_all Hl9.out
          obtain ⟨sv, hsv⟩ : ∃ sv, an9 l9 i = sv := ⟨_, rfl⟩
          rw [hsv] at ha ⊢
          clear hsv
          cases sv with
          | true =>
            have R3 := Lib.hid (R.out W hW)
            clear hW ha
            go_wp2_with fail
            exact ⟨R3.out, by simp [intOf]; omega⟩
          | false =>
            have SR := sizes_run (ns := ns) (g := g) one two hN hpr (ha rfl)
            clear ha
            have HAW := Lib.hid (ot_below HA5.out hW)
            have HPW := Lib.hid (pra_up HP9.out hW)
            rcases SR with ⟨st, G, R1, R2⟩ | ⟨E, R1, R2⟩
            · have HR1 := Lib.hid R1
              have HR2 := Lib.hid R2
              clear R1 R2
              go_wp2_with fail
              refine (HR1.out a c a9 i c9 W Hl9.out ⟨hc1, hc2⟩ HAW.out HPW.out).mono ?_
              rintro e W1 ⟨S1, rfl, hA1, h1⟩
              replace hc := kc h1 hc
              have HA6 := Lib.hid (ot_below HAW.out h1)
              have HP6 := Lib.hid (pra_up HPW.out h1)
              have HG1 := Lib.hid hA1
              replace hW := bt hW h1
              clear h1 hA1 HAW HPW
              go_wp2_with fail
              refine (HR2.out a c a9 i c9 W1 Hl9.out ⟨hc1, hc2⟩ HA6.out HP6.out).mono ?_
              rintro e W2 ⟨S2, rfl, hA2, h2⟩
              replace hW := bt hW h2
              have SA := Lib.hid (rSame_any (some ⟨S1, 0, none⟩) (some ⟨S2, 0, none⟩) N N N N ns ns G G true (Lib.hid ⟨fun _ => ⟨rfl, fun _ _ => ⟨rfl, fun _ _ => rfl⟩⟩, fun _ => rfl⟩) (by omega) (by omega) (fun k hk => by have := Hns.out k hk; omega) (fun k hk => by have := Hns.out k hk; omega) W2 (ot_below HG1.out h2) hA2)
              clear h2 HR1 HR2 HA6 HP6 hc
              go_wp2_with fail
              refine SA.out.mono ?_
              rintro e W3 ⟨rfl, h3⟩
              have R3 := Lib.hid (R.out W3 (bt hW h3))
              clear SA hW h3
              go_wp2_with fail
              exact ⟨R3.out, by simp [intOf]; omega⟩
            · have HR1 := Lib.hid R1
              have HR2 := Lib.hid R2
              clear R1 R2
              go_wp2_with fail
              refine (HR1.out a c a9 i c9 W Hl9.out ⟨hc1, hc2⟩ HAW.out HPW.out).mono ?_
              rintro e W1 ⟨rfl, h1⟩
              replace hc := kc h1 hc
              have HA6 := Lib.hid (ot_below HAW.out h1)
              have HP6 := Lib.hid (pra_up HPW.out h1)
              replace hW := bt hW h1
              clear h1 HAW HPW
              go_wp2_with fail
              refine (HR2.out a c a9 i c9 W1 Hl9.out ⟨hc1, hc2⟩ HA6.out HP6.out).mono ?_
              rintro e W2 ⟨rfl, h2⟩
              replace hW := bt hW h2
              have SA := Lib.hid (rSame_any none none 0 0 0 0 ns ns g g true (Lib.hid ⟨fun _ => ⟨rfl, fun _ _ => ⟨rfl, fun _ _ => rfl⟩⟩, fun _ => rfl⟩) (by omega) (by omega) (fun k hk => absurd hk (Nat.not_lt_zero _)) (fun k hk => absurd hk (Nat.not_lt_zero _)) W2 (fun k hk => absurd hk (Nat.not_lt_zero _)) (fun k hk => absurd hk (Nat.not_lt_zero _)))
              clear h2 HR1 HR2 HA6 HP6 hc
              go_wp2_with fail
              refine SA.out.mono ?_
              rintro e W3 ⟨rfl, h3⟩
              have R3 := Lib.hid (R.out W3 (bt hW h3))
              clear SA hW h3
              go_wp2_with fail
              exact ⟨R3.out, by simp [intOf]; omega⟩
    · obtain rfl : k = 4 := by omega
      have RB := Lib.hid (bt hB4.out hV)
      go_wp2_with fail
      go_ret
      exact ⟨rfl, RB.out⟩
end Go.Proofs.Ytdgagjcocohnnaa.Mc
