/-
  Layer 9 (machine): operations, walked.
-/
import Derived.Test.YtdgagjcocohnnaaMcI
import Derived.WalkMore
namespace Go.Proofs.Ytdgagjcocohnnaa.Mc
open Go.RowKit
open Go.Proofs.Ytdgagjcocohnnaa.Ot (Pt PtAt PO OO pre pre_mono)
/-- A program in memory, below a bound. -/
def PrA (n₀ : Nat) (V : World) (a : Option Addr) (l : List Opn) : Prop := ∀ i p, l[i]? = some p → ∃ b o, a = some ⟨b, o, none⟩ ∧ b < n₀ ∧ V.cell? ⟨b, o + i * 3, none⟩ = some (.int .i64 p.c) ∧ V.cell? ⟨b, o + i * 3 + 1, none⟩ = some (.int .i64 p.n) ∧ V.cell? ⟨b, o + i * 3 + 2, none⟩ = some (.int .i64 p.m)
theorem kB {B : Nat} {w a : World} (h : Below B w a) {b o : Nat} {v : Value} (hb : b < B) (hc : w.cell? ⟨b, o, none⟩ = some v) : a.cell? ⟨b, o, none⟩ = some v := by
  rw [h.cell (p := ⟨b, o, none⟩) hb]; exact hc
theorem pra_B {B : Nat} {V V' : World} {a : Option Addr} {l : List Opn} (h : PrA B V a l) (hB : Below B V V') : PrA B V' a l := fun i p hp => by
  obtain ⟨b, o, e, hb, h1, h2, h3⟩ := h i p hp
  exact ⟨b, o, e, hb, kB hB hb h1, kB hB hb h2, kB hB hb h3⟩
theorem pra_drop {B : Nat} {V : World} {b o : Nat} {l : List Opn} (h : PrA B V (some ⟨b, o, none⟩) l) (k : Nat) : PrA B V (some ⟨b, o + k * 3, none⟩) (l.drop k) := fun i p hp => by
  rw [List.getElem?_drop] at hp
  obtain ⟨b', o', e, hb, h1, h2, h3⟩ := h _ p hp
  cases e
  rw [show o + (k + i) * 3 = o + k * 3 + i * 3 by omega] at h1 h2 h3
  exact ⟨b, o + k * 3, rfl, hb, h1, h2, h3⟩
theorem pra_take {B : Nat} {V : World} {a : Option Addr} {l : List Opn} (h : PrA B V a l) (k : Nat) : PrA B V a (l.take k) := fun i p hp => by
  rw [List.getElem?_take] at hp
  split at hp
  · exact h i p hp
  · cases hp
theorem pra_rest {B : Nat} {V : World} {b o c m : Nat} {p : Opn} {rest : List Opn} (h : PrA B V (some ⟨b, o, none⟩) (p :: rest)) (hm : rest.length = m) (hc : m + 1 ≤ c) : PrA B V (if c = 1 then some ⟨b, o, none⟩ else some ⟨b, o + 3, none⟩) rest := by
  split
  · intro i q hq
    have : i < rest.length := (List.getElem?_eq_some_iff.1 hq).1
    omega
  · exact pra_drop h 1
/-- What a call of operations leaves. -/
def OpP (n₀ S N np pc B : Nat) (pa : Option Addr) (ns Bk : Nat → Nat) (sz : Int) (res : Res) (w : World) (e : Ending) (w' : World) : Prop :=
  (∀ s, res = .ok s → e = .returned (.tuple #[]) ∧ Mac n₀ S N np pc B pa ns Bk sz s w') ∧ (∀ E, res = .er E → e = pan E) ∧ Fr B N ns Bk w w'
theorem op_ok {n₀ S N np pc B : Nat} {pa : Option Addr} {ns Bk : Nat → Nat} {sz : Int} {s : MS} {w w' : World} (hM : Mac n₀ S N np pc B pa ns Bk sz s w') (hF : Fr B N ns Bk w w') : OpP n₀ S N np pc B pa ns Bk sz (.ok s) w (.returned (.tuple #[])) w' :=
  ⟨fun t h => by injection h with h; subst h; exact ⟨rfl, hM⟩, fun _ h => (by cases h), hF⟩
theorem op_er {n₀ S N np pc B : Nat} {pa : Option Addr} {ns Bk : Nat → Nat} {sz : Int} {E : Int} {w w' : World} (hF : Fr B N ns Bk w w') : OpP n₀ S N np pc B pa ns Bk sz (.er E) w (.panicked [{ v := .iface 36 (.int .i64 E), recovered := false }]) w' :=
  ⟨fun _ h => (by cases h), fun t h => by injection h with h; subst h; rfl, hF⟩
/-- What a call is handed. -/
structure Hand (n₀ S N np pc B : Nat) (pa : Option Addr) (ns Bk : Nat → Nat) (sz : Int) (l : List Opn) (a : Option Addr) (c : Nat) (s : MS) (w : World) : Prop where
  mac : Mac n₀ S N np pc B pa ns Bk sz s w
  lo : n₀ ≤ w.heap.size
  cap : l.length ≤ c ∧ c ≤ 9223372036854775807
  pr : PrA n₀ w a l
def OpsC (n₀ S N np pc B : Nat) (pa : Option Addr) (ns Bk : Nat → Nat) (sz : Int) (l : List Opn) : Prop := ∀ (a : Option Addr) (c : Nat) (enc : Int) (s : MS) (w : World), 0 ≤ enc ∧ enc ≤ 3 → Hand n₀ S N np pc B pa ns Bk sz l a c s w →
  Calls Try.prog 28 #[.pointer (some ⟨B, 0, none⟩), .slice a l.length c, .int .i64 enc] w (OpP n₀ S N np pc B pa ns Bk sz (runL np sz l enc s) w)
def sLen : Value → Nat
  | .slice _ n _ => n
  | _ => 0
def OpR (n₀ S N np pc B : Nat) (pa : Option Addr) (ns Bk : Nat → Nat) (sz : Int) (M : Nat) (enc : Int) (res : Res) (w : World) (s1 : Value) (V : World) : Prop :=
  ∃ (l : List Opn) (a : Option Addr) (c : Nat) (s : MS), s1 = .slice a l.length c ∧ l.length ≤ M ∧ runL np sz l enc s = res ∧ Hand n₀ S N np pc B pa ns Bk sz l a c s V ∧ Fr B N ns Bk w V
def InR (n₀ S N np pc B : Nat) (pa : Option Addr) (ns Bk : Nat → Nat) (sz : Int) (rest : List Opn) (L R : Nat) (a : Option Addr) (c : Nat) (enc : Int) (res : Res) (w : World) (s28 : Value) (V : World) : Prop :=
  ∃ (j : Nat) (s : MS), s28 = .int .i64 j ∧ j ≤ R ∧ bindR (itr (runL np sz (rest.take L) (enc + 1)) (R - j) s) (runL np sz (rest.drop L) enc) = res ∧ Hand n₀ S N np pc B pa ns Bk sz rest a c s V ∧ Fr B N ns Bk w V
theorem fit_L {p : Opn} {left : Int} (h : fitB p left = true) : 1 ≤ blkL p ∧ blkL p ≤ left ∧ (p.c = 14 ∨ (1 ≤ p.n ∧ p.n ≤ 16)) := by
  unfold fitB at h
  rw [Bool.and_eq_true, Bool.and_eq_true, Bool.or_eq_true, Bool.and_eq_true, decide_eq_true_iff, decide_eq_true_iff, decide_eq_true_iff, decide_eq_true_iff, decide_eq_true_iff] at h
  exact ⟨h.2.1, h.2.2, h.1⟩
theorem rnd_ok {np sz : Int} {s : MS} {p : Opn} {left enc : Int} (hl : 0 ≤ left) (h : chkE np s.l.length s.st p left enc = 0) : 0 ≤ rndS sz p s ∧ rndS sz p s ≤ 16 ∧ (0 < rndS sz p s → enc < 3) ∧ 0 ≤ blkL p ∧ blkL p ≤ left := by
  obtain ⟨_, h1, h2, hb, _⟩ := chk_no h
  obtain ⟨c, n, m⟩ := p
  simp only at h1 h2
  obtain ⟨k, rfl⟩ : ∃ k : Nat, c = (k : Int) := ⟨c.toNat, by omega⟩
  by_cases hB : hasB ⟨(k : Int), n, m⟩ = true
  · obtain ⟨f, he⟩ := hb hB
    obtain ⟨f1, f2, f3⟩ := fit_L f
    refine ⟨?_, ?_, fun _ => he, by omega, f2⟩
    all_goals
      unfold hasB at hB
      rw [Bool.or_eq_true, decide_eq_true_iff, decide_eq_true_iff] at hB
      simp only at hB f3
      have hk : k = 14 ∨ k = 15 := by omega
      unfold rndS resR
      simp only [Int.toNat_natCast]
      rcases hk with rfl | rfl
      · show _ ≤ _
        have e : (kd 14).pu = 0 := rfl
        rw [if_pos e]
        unfold doR
        simp only
        split <;> omega
      · have e : (kd 15).pu = 0 := rfl
        rw [if_pos e]
        unfold doR
        simp only
        omega
  · have hB2 : hasB ⟨(k : Int), n, m⟩ = false := by rcases e : hasB ⟨(k : Int), n, m⟩ with _ | _; rfl; exact absurd e hB
    have hk : k ≠ 14 ∧ k ≠ 15 := by
      unfold hasB at hB2
      rw [Bool.or_eq_false_iff, decide_eq_false_iff_not, decide_eq_false_iff_not] at hB2
      simp only at hB2
      omega
    have e0 : blkL ⟨(k : Int), n, m⟩ = 0 := by
      unfold blkL
      simp only
      rw [if_neg (by omega), if_neg (by omega)]
    have r0 : rndS sz ⟨(k : Int), n, m⟩ s = 0 := by
      unfold rndS resR
      simp only [Int.toNat_natCast]
      obtain rfl | rfl | rfl | rfl | rfl | rfl | rfl | rfl | rfl | rfl | rfl | rfl | rfl : k = 1 ∨ k = 2 ∨ k = 3 ∨ k = 4 ∨ k = 5 ∨ k = 6 ∨ k = 7 ∨ k = 8 ∨ k = 9 ∨ k = 10 ∨ k = 11 ∨ k = 12 ∨ k = 13 := by omega
      all_goals rfl
    rw [e0, r0]
    exact ⟨by omega, by omega, fun h => absurd h (by omega), by omega, hl⟩
set_option maxRecDepth 100000 in
set_option maxHeartbeats 16000000 in
theorem operations_step (n₀ S N np pc B : Nat) (pa : Option Addr) (ns Bk : Nat → Nat) (sz : Int) (l : List Opn) (IH : ∀ l', l'.length < l.length → OpsC n₀ S N np pc B pa ns Bk sz l') : OpsC n₀ S N np pc B pa ns Bk sz l := by
  intro a c enc s w he hH
  have R0 : OpR n₀ S N np pc B pa ns Bk sz l.length enc (runL np sz l enc s) w (.slice a l.length c) w := ⟨l, a, c, s, rfl, Nat.le_refl _, rfl, hH, fr_refl w⟩
  have HI := Lib.hid IH
  have HE := Lib.hid he
  clear IH hH he
  generalize runL np sz l enc s = RES at *
  obtain ⟨M, hN⟩ : ∃ M, l.length = M := ⟨_, rfl⟩
  rw [hN] at R0 HI ⊢
  clear hN
  go_enter Try.func28, Try.ntmps28
  go_wp2_with fail
  go_loopw [1] (fun s1 V => OpR n₀ S N np pc B pa ns Bk sz M enc RES w s1 V) (fun s1 _ => sLen s1)
  case atStart => exact R0
  case round =>
    clear R0
    obtain ⟨l, a, c, s, rfl, hlN, hres, hH, hF⟩ := hrel
    rename World => V
    rcases l with _ | ⟨p, rest⟩
    · rw [runL_nil] at hres
      have R : Hid (OpP n₀ S N np pc B pa ns Bk sz RES w (.returned (.tuple #[])) V) := Lib.hid (by rw [← hres]; exact op_ok hH.mac hF)
      clear hres hH hF hlN
      rw [List.length_nil]
      go_wp2_with fail
      go_end0
      exact R.out
    · obtain ⟨b, o, rfl, hbB, e0, e1, e2⟩ := hH.pr 0 p rfl
      rw [Nat.zero_mul, Nat.add_zero] at e0 e1 e2
      have HH := Lib.hid hH
      have HF := Lib.hid hF
      have hcp : rest.length + 1 ≤ c := by have := hH.cap.1; simpa using this
      have hcm := hH.cap.2
      have HN := Lib.hid (show rest.length < M by have := hlN; simp at this; omega)
      clear hH hF hlN
      rw [List.length_cons]
      obtain ⟨m, hm⟩ : ∃ m, rest.length = m := ⟨_, rfl⟩
      rw [hm] at hcp ⊢
      have PRr := Lib.hid (pra_rest HH.out.pr hm hcp)
      have n1 : (0 : Int) < (m : Int) + 1 := by omega
      have n2 : (m : Int) + 1 ≤ (c : Int) := by omega
      have n3 : (1 : Int) ≤ (m : Int) + 1 := by omega
      have n4 : (m : Int) ≤ 9223372036854775806 := by omega
      have n5 : (0 : Int) ≤ (m : Int) := by omega
      obtain ⟨pc', pn, pm⟩ := p
      simp only at e0 e1 e2
      go_upto_region 1 with (fail)
      have E0 : ∀ W, Below V.heap.size V W → W.cell? ⟨b, o, none⟩ = some (.int .i64 pc') := fun _ h => kc h e0
      have E1 : ∀ W, Below V.heap.size V W → W.cell? ⟨b, o + 1, none⟩ = some (.int .i64 pn) := fun _ h => kc h e1
      have E2 : ∀ W, Below V.heap.size V W → W.cell? ⟨b, o + 2, none⟩ = some (.int .i64 pm) := fun _ h => kc h e2
      clear e0 e1 e2
      go_region_held3 (fun w' => Below V.heap.size V w') (first
        | (with_reducible exact bd1 (Below.refl _ _))
        | (with_reducible exact bd1 (ba (Below.refl _ _) _))
        | (with_reducible exact ba (bd1 (Below.refl _ _)) _)
        | (with_reducible exact ba (by assumption) _)
        | (with_reducible assumption)
        | (with_reducible exact bs (bs (bs (ba (bd1 (Below.refl _ _)) _) (Nat.le_refl _) _) (Nat.le_refl _) _) (Nat.le_refl _) _)
        | (with_reducible exact bs (bs (bs (bd1 (ba (Below.refl _ _) _)) (Nat.le_refl _) _) (Nat.le_refl _) _) (Nat.le_refl _) _))
        (fail)
      go_upto_region 2 with (fail)
      have hb4 : Below V.heap.size V (V.alloc (.cells #[.int .i64 pc', .int .i64 pn, .int .i64 pm] 45)).drew := bd1 (ba (Below.refl _ _) _)
      have e0 : (V.alloc (.cells #[.int .i64 pc', .int .i64 pn, .int .i64 pm] 45)).drew.cell? ⟨V.heap.size, 0, none⟩ = some (.int .i64 pc') := by go_cell
      have e1 : (V.alloc (.cells #[.int .i64 pc', .int .i64 pn, .int .i64 pm] 45)).drew.cell? ⟨V.heap.size, 1, none⟩ = some (.int .i64 pn) := by go_cell
      have e2 : (V.alloc (.cells #[.int .i64 pc', .int .i64 pn, .int .i64 pm] 45)).drew.cell? ⟨V.heap.size, 2, none⟩ = some (.int .i64 pm) := by go_cell
      have M4 := Lib.hid (mac_below HH.out.mac hb4)
      have L4 := Lib.hid (Nat.le_trans HH.out.lo hb4.size)
      have F4 := Lib.hid (fr_trans HF.out (fr_below (B := B) (N := N) (ns := ns) (Bk := Bk) hb4))
      have P4 := Lib.hid (fr_lo (B := B) (N := N) (ns := ns) (Bk := Bk) HH.out.mac (fr_below hb4) HH.out.lo)
      clear E0 E1 E2 hb4
      generalize (V.alloc (.cells #[.int .i64 pc', .int .i64 pn, .int .i64 pm] 45)).drew = V4 at *
      generalize V.heap.size = bo at *
      obtain ⟨o2, ho2⟩ : ∃ o2, (if c = 1 then (some ⟨b, o, none⟩ : Option Addr) else some ⟨b, o + 3, none⟩) = some ⟨b, o2, none⟩ := by split <;> exact ⟨_, rfl⟩
      rw [ho2] at PRr ⊢
      clear ho2
      have CK := check_any B pa np pc sz s.l s.st ⟨pc', pn, pm⟩ m enc V4 M4.out.ru
      unfold opV at CK
      simp only at CK
      have LE := Lib.hid (fun W => lengthOf_any ⟨pc', pn, pm⟩ W)
      unfold opV at LE
      simp only at LE
      have hm' := Lib.hid hm
      clear hm
      by_cases hE : chkE np s.l.length s.st ⟨pc', pn, pm⟩ m enc = 0
      · have CK2 : Hid (Calls Try.prog 51 #[.pointer (some ⟨B, 0, none⟩), .agg #[.int .i64 pc', .int .i64 pn, .int .i64 pm], .int .i64 m, .int .i64 enc] V4 (fun e w' => e = .returned (.tuple #[]) ∧ Below V4.heap.size V4 w')) := Lib.hid (CK.mono (by rintro e w' ⟨he, hb⟩; rw [if_pos hE] at he; exact ⟨he, hb⟩))
        have hE2 : chkE np s.l.length s.st ⟨pc', pn, pm⟩ (rest.length : Nat) enc = 0 := by rw [hm'.out]; exact hE
        rw [runL_go hE2] at hres
        obtain ⟨r1, r2, r3, r4, r5⟩ := rnd_ok (sz := sz) n5 hE
        obtain ⟨L, hL⟩ : ∃ L : Nat, blkL ⟨pc', pn, pm⟩ = (L : Int) := ⟨(blkL ⟨pc', pn, pm⟩).toNat, by omega⟩
        obtain ⟨R, hR⟩ : ∃ R : Nat, rndS sz ⟨pc', pn, pm⟩ s = (R : Int) := ⟨(rndS sz ⟨pc', pn, pm⟩ s).toNat, by omega⟩
        rw [hL] at r5 LE
        rw [hR] at r2 r3
        rw [hL, hR, Int.toNat_natCast, Int.toNat_natCast] at hres
        have HRS := Lib.hid hres
        have HEC := Lib.hid r3
        have HE9 := Lib.hid hE
        have HR := Lib.hid hR
        clear CK hE hE2 hres r1 r3 r4 hL hR
        go_upto_region 3 with ((with_reducible refine CK2.out.mono ?_); rintro e V5 ⟨rfl, hv5⟩)
        have d0 := kc hv5 e0
        have d1 := kc hv5 e1
        have d2 := kc hv5 e2
        clear e0 e1 e2
        go_upto_region 4 with ((with_reducible refine (LE.out _).mono ?_); rintro e V6 ⟨rfl, hv6⟩)
        have e0 := kc hv6 d0
        have e1 := kc hv6 d1
        have e2 := kc hv6 d2
        clear d0 d1 d2 LE CK2
        have M6 := Lib.hid (mac_below (mac_below M4.out hv5) hv6)
        have L6 := Lib.hid (Nat.le_trans (Nat.le_trans L4.out hv5.size) hv6.size)
        have F6 := Lib.hid (fr_trans (fr_trans F4.out (fr_below hv5)) (fr_below hv6))
        have P6 := Lib.hid (P4.out.trans ((fr_lo (B := B) (N := N) (ns := ns) (Bk := Bk) M4.out (fr_below hv5) L4.out).trans (fr_lo (B := B) (N := N) (ns := ns) (Bk := Bk) (mac_below M4.out hv5) (fr_below hv6) (Nat.le_trans L4.out hv5.size))))
        have ST := step_mac M6.out L6.out ⟨pc', pn, pm⟩ m enc HE9.out
        rw [HR.out] at ST
        unfold opV at ST
        simp only at ST
        have ST2 := Lib.hid ST
        clear ST hv5 hv6 M4 L4 F4 P4
        go_upto_region 5 with ((with_reducible refine ST2.out.mono ?_); rintro e V7 ⟨rfl, hM7, hF7⟩)
        have P7 := P6.out.trans (fr_lo M6.out hF7 L6.out)
        have H7 : Hand n₀ S N np pc B pa ns Bk sz rest (some ⟨b, o2, none⟩) (c - 1) (nxS sz ⟨pc', pn, pm⟩ s) V7 := ⟨hM7, Nat.le_trans L6.out hF7.size, ⟨by rw [hm'.out]; omega, by omega⟩, pra_B PRr.out P7⟩
        have IN0 : InR n₀ S N np pc B pa ns Bk sz rest L R (some ⟨b, o2, none⟩) (c - 1) enc RES w (.int .i64 0) V7 := ⟨0, _, rfl, Nat.zero_le _, HRS.out, H7, fr_trans F6.out hF7⟩
        clear e0 e1 e2 hM7 hF7 P7 H7 ST2 M6 L6 F6 P6 HRS HH HF PRr n1 n2 n3
        have hcl : (m : Int) ≤ ((c - 1 : Nat) : Int) := by omega
        have hcl2 : m ≤ c - 1 := by omega
        clear hcp
        go_loopw [28] (fun s28 V => InR n₀ S N np pc B pa ns Bk sz rest L R (some ⟨b, o2, none⟩) (c - 1) enc RES w s28 V) (fun s28 _ => R - (intOf s28).toNat)
        case atStart => exact IN0
        case round =>
          clear IN0
          obtain ⟨j, s', rfl, hj, hres, hH, hF⟩ := hrel
          rename World => V
          have HH := Lib.hid hH
          have HF := Lib.hid hF
          clear hH hF
          rcases Nat.lt_or_ge j R with hjR | hjR
          · have henc := HEC.out (by omega)
            have he0 := HE.out.1
            have w2 : wrap64 (enc + 1) = enc + 1 := IntWalk.wrap64_in _ ⟨by omega, by omega⟩
            have hlt : (rest.take L).length = L := by rw [List.length_take, hm'.out]; omega
            have CAL := HI.out (rest.take L) (by rw [hlt]; have := HN.out; have := hm'.out; omega) (some ⟨b, o2, none⟩) (c - 1) (enc + 1) s' V ⟨by omega, by omega⟩ ⟨HH.out.mac, HH.out.lo, ⟨by rw [hlt]; omega, by omega⟩, pra_take HH.out.pr L⟩
            rw [hlt] at CAL
            rw [show R - j = (R - (j + 1)) + 1 by omega, itr] at hres
            have hjr : (j : Int) < (R : Int) := by omega
            clear HEC hlt
            cases hg : runL np sz (rest.take L) (enc + 1) s' with
            | ok s2 =>
              rw [hg] at hres CAL
              simp only at hres
              have CAL2 : Hid (Calls Try.prog 28 #[.pointer (some ⟨B, 0, none⟩), .slice (some ⟨b, o2, none⟩) L (c - 1), .int .i64 (enc + 1)] V (fun e w' => e = .returned (.tuple #[]) ∧ Mac n₀ S N np pc B pa ns Bk sz s2 w' ∧ Fr B N ns Bk V w')) := Lib.hid (CAL.mono (by rintro e w' ⟨h1, _, h3⟩; exact ⟨(h1 s2 rfl).1, (h1 s2 rfl).2, h3⟩))
              have HRS := Lib.hid hres
              clear hres CAL hg
              go_upto_region 7 with ((with_reducible refine CAL2.out.mono ?_); rintro e V2 ⟨rfl, hM2, hF2⟩)
              have R : Hid (InR n₀ S N np pc B pa ns Bk sz rest L R (some ⟨b, o2, none⟩) (c - 1) enc RES w (.int .i64 ((j : Int) + 1)) V2) := Lib.hid ⟨j + 1, s2, rfl, hjR, HRS.out, ⟨hM2, Nat.le_trans HH.out.lo hF2.size, HH.out.cap, pra_B HH.out.pr (fr_lo HH.out.mac hF2 HH.out.lo)⟩, fr_trans HF.out hF2⟩
              clear hM2 hF2 HRS HH HF CAL2
              go_wp2_with fail
              exact ⟨R.out, by simp [intOf]; omega⟩
            | er E =>
              rw [hg] at hres CAL
              simp only at hres
              unfold bindR at hres
              simp only at hres
              have CAL2 : Hid (Calls Try.prog 28 #[.pointer (some ⟨B, 0, none⟩), .slice (some ⟨b, o2, none⟩) L (c - 1), .int .i64 (enc + 1)] V (fun e w' => e = .panicked [{ v := .iface 36 (.int .i64 E), recovered := false }] ∧ Fr B N ns Bk V w')) := Lib.hid (CAL.mono (by rintro e w' ⟨_, h2, h3⟩; exact ⟨h2 E rfl, h3⟩))
              have FIN : Hid (∀ w', Fr B N ns Bk V w' → OpP n₀ S N np pc B pa ns Bk sz RES w (.panicked [{ v := .iface 36 (.int .i64 E), recovered := false }]) w') := Lib.hid (fun w' h => by rw [← hres]; exact op_er (fr_trans HF.out h))
              clear hres CAL hg
              go_wp2_with ((with_reducible refine CAL2.out.mono ?_); rintro e V2 ⟨rfl, hF2⟩)
              exact ⟨rfl, FIN.out _ hF2⟩
          · obtain rfl : j = R := by omega
            rw [Nat.sub_self, itr] at hres
            unfold bindR at hres
            simp only at hres
            have hld : (rest.drop L).length = m - L := by rw [List.length_drop, hm'.out]
            have hNN := HN.out
            have hmm := hm'.out
            have R2 : Hid (∀ a' c', (rest.drop L).length ≤ c' ∧ c' ≤ 9223372036854775807 → PrA n₀ V a' (rest.drop L) → OpR n₀ S N np pc B pa ns Bk sz M enc RES w (.slice a' (m - L) c') V) := Lib.hid (fun a' c' hc hp => ⟨rest.drop L, a', c', s', by rw [hld], by rw [hld]; omega, hres, ⟨HH.out.mac, HH.out.lo, hc, hp⟩, HF.out⟩)
            have PD := Lib.hid (fun k => pra_drop HH.out.pr k)
            clear hres HI HEC HR HE9 HH HF
            go_wp2_with fail
            refine ⟨R2.out _ _ ⟨by rw [hld]; omega, by omega⟩ ?_, show m - L < m + 1 by omega⟩
            split
            · intro i q hq
              have h9 : i < (rest.drop L).length := (List.getElem?_eq_some_iff.1 hq).1
              omega
            · exact PD.out L
      · have CK2 : Hid (Calls Try.prog 51 #[.pointer (some ⟨B, 0, none⟩), .agg #[.int .i64 pc', .int .i64 pn, .int .i64 pm], .int .i64 m, .int .i64 enc] V4 (fun e w' => e = .panicked [{ v := .iface 36 (.int .i64 (chkE np s.l.length s.st ⟨pc', pn, pm⟩ m enc)), recovered := false }] ∧ Below V4.heap.size V4 w')) := Lib.hid (CK.mono (by rintro e w' ⟨he, hb⟩; rw [if_neg hE] at he; exact ⟨he, hb⟩))
        have hE2 : chkE np s.l.length s.st ⟨pc', pn, pm⟩ (rest.length : Nat) enc ≠ 0 := by rw [hm'.out]; exact hE
        rw [runL_err hE2, hm'.out] at hres
        have FIN : Hid (∀ w', Below V4.heap.size V4 w' → OpP n₀ S N np pc B pa ns Bk sz RES w (.panicked [{ v := .iface 36 (.int .i64 (chkE np s.l.length s.st ⟨pc', pn, pm⟩ m enc)), recovered := false }]) w') := Lib.hid (fun w' h => by rw [← hres]; exact op_er (fr_trans F4.out (fr_below h)))
        generalize chkE np s.l.length s.st ⟨pc', pn, pm⟩ m enc = E at *
        clear hres CK hE hE2 LE M4 F4 P4 L4 HH HF PRr
        go_wp2_with ((with_reducible refine CK2.out.mono ?_); rintro e V5 ⟨rfl, hv5⟩)
        exact ⟨rfl, FIN.out _ hv5⟩
theorem operations_any (n₀ S N np pc B : Nat) (pa : Option Addr) (ns Bk : Nat → Nat) (sz : Int) : ∀ (M : Nat) (l : List Opn), l.length ≤ M → OpsC n₀ S N np pc B pa ns Bk sz l
  | 0, l, hl => operations_step n₀ S N np pc B pa ns Bk sz l (fun l' h => absurd h (by omega))
  | M + 1, l, hl => operations_step n₀ S N np pc B pa ns Bk sz l (fun l' h => operations_any n₀ S N np pc B pa ns Bk sz M l' (by omega))
end Go.Proofs.Ytdgagjcocohnnaa.Mc
