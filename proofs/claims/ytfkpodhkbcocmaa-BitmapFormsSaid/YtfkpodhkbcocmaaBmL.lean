/-
  Layer 4 (bitmap): Text.
-/
import Derived.Test.YtfkpodhkbcocmaaBmK
namespace Go.Proofs.Ytfkpodhkbcocmaa.Bm
open Go.RowKit
theorem below_grown {w v : World} (k : Below w.heap.size w v) : w.grownBy v none := ⟨k.os, k.tape, k.output, k.size, fun i hi _ => k.block i hi⟩
theorem bat_keep {T e B b : Nat} {p : Value} {bs : List Value} {w w' : World} (h : Lib.BuilderAt T e B b p bs w) (k : Below w.heap.size w w') : Lib.BuilderAt T e B b p bs w' := by
  have hlt := h.lt
  obtain ⟨hB, v, hb, hown, hne⟩ := h
  exact ⟨hB, v, by rw [k.block b hlt]; exact hb, hown.kept (below_grown k) (by cases hv : v.ownBlock <;> simp), hne⟩
theorem bld_keep {T e B b : Nat} {bs : List Value} {w w' : World} (h : Lib.IsBuilder T e B b bs w) (k : Below w.heap.size w w') : Lib.IsBuilder T e B b bs w' :=
  h.elim (fun h => Or.inl (bat_keep h k)) (fun h => Or.inr (bat_keep h k))
theorem bld_lt {T e B b : Nat} {bs : List Value} {w : World} (h : Lib.IsBuilder T e B b bs w) : b < w.heap.size := h.elim (·.lt) (·.lt)
theorem byteCells_append (x y : List UInt8) : Lib.byteCells (x ++ y) = Lib.byteCells x ++ Lib.byteCells y := by simp [Lib.byteCells]
theorem byteCells_length (x : List UInt8) : (Lib.byteCells x).length = x.length := by simp [Lib.byteCells]
/-- The beginning of a row. -/
def row (f : Nat → Bool) (p : Nat) (j : Nat) : List UInt8 := (List.range j).map (fun i => ch (f (p + i)))
theorem row_len (f : Nat → Bool) (p j : Nat) : (row f p j).length = j := by unfold row; simp
theorem row_succ (f : Nat → Bool) (p j : Nat) : row f p (j + 1) = row f p j ++ [ch (f (p + j))] := by unfold row; rw [List.range_succ]; simp
/-- The rows, from the highest one on. -/
def tx (W H : Nat) (f : Nat → Bool) : Nat → List UInt8
  | 0 => []
  | k + 1 => tx W H f k ++ row f ((H - 1 - k) * W) W ++ [10]
theorem tx_len (W H : Nat) (f : Nat → Bool) : ∀ k, (tx W H f k).length = k * (W + 1)
  | 0 => by simp [tx]
  | k + 1 => by rw [tx, List.length_append, List.length_append, tx_len W H f k, row_len, Nat.succ_mul, List.length_singleton]; omega
theorem row_lo (v W : Nat) (h : v * W ≤ 9216) : RowKit.wrap64 ((v : Int) * W) = (v * W : Nat) := by
  rw [← Int.natCast_mul]; exact wrap_id ⟨by omega, by omega⟩
theorem row_hi (v W : Nat) (h : v * W + W ≤ 9216) : RowKit.wrap64 (((v : Int) + 1) * W) = (v * W + W : Nat) := by
  have e0 : ((v : Int) + 1) * W = (v * W + W : Nat) := by rw [Int.add_mul, Int.one_mul, Int.natCast_add, Int.natCast_mul]
  rw [e0]; exact wrap_id ⟨by omega, by omega⟩
/-- What the walk of a row needs. -/
theorem row_facts {W H n k : Nat} (f : Nat → Bool) (hW : W ≤ 96) (hH : H ≤ 96) (hn : n = W * H) (hk : k < H) : ∃ v p : Nat, (H : Int) - 1 - k = v ∧ p + W ≤ n ∧ n ≤ 9216 ∧ RowKit.wrap64 ((v : Int) * W) = p ∧ RowKit.wrap64 (((v : Int) + 1) * W) = (p : Int) + W ∧
    tx W H f (k + 1) = tx W H f k ++ row f p W ++ [10] ∧ (tx W H f k).length ≤ 9312 ∧ v ≤ 96 ∧ (H : Int) - 1 - (k + 1 : Nat) = (v : Int) - 1 := by
  obtain ⟨v, hv⟩ : ∃ v, H = v + 1 + k := ⟨H - 1 - k, by omega⟩
  have h1 : (v + 1) * W ≤ H * W := Nat.mul_le_mul_right _ (by omega)
  rw [Nat.succ_mul] at h1
  have h2 : v * W + W ≤ n := by rw [hn, Nat.mul_comm W H]; exact h1
  have h3 : n ≤ 9216 := by rw [hn]; exact Nat.mul_le_mul hW hH
  have h4 : k * (W + 1) ≤ 96 * 97 := Nat.mul_le_mul (by omega) (by omega)
  refine ⟨v, v * W, by omega, h2, h3, row_lo v W (by omega), by rw [row_hi v W (by omega), Int.natCast_add], ?_, by rw [tx_len]; omega, by omega, by omega⟩
  rw [tx, show H - 1 - k = v by omega]
def TRel (w : World) (B : Nat) (W H : Nat) (a : Option Addr) (n c : Nat) (f : Nat → Bool) (s4 : Value) (wr : World) : Prop :=
  ∃ k : Nat, k ≤ H ∧ s4 = .int .i64 ((H : Int) - 1 - k) ∧ Lib.IsBuilder 68 5 B B (Lib.byteCells (tx W H f k)) wr ∧ BoxAt wr w.heap.size W H a n c ∧ Below w.heap.size w wr
def RRel (w : World) (B : Nat) (W H : Nat) (a : Option Addr) (n c : Nat) (f : Nat → Bool) (hd : List UInt8) (p : Nat) (s30 : Value) (wr : World) : Prop :=
  ∃ j : Nat, j ≤ W ∧ s30 = .int .i64 j ∧ Lib.IsBuilder 68 5 B B (Lib.byteCells (hd ++ row f p j)) wr ∧ BoxAt wr w.heap.size W H a n c ∧ Below w.heap.size w wr
theorem boxat_lift {V V' : World} {S B : Nat} {W H : Int} {a : Option Addr} {m c : Nat} (h : BoxAt V B W H a m c) (hS : B < S) (hB : Below S V V') : BoxAt V' B W H a m c :=
  ⟨kc hB hS h.1, kc hB hS h.2.1, kc hB hS h.2.2⟩
theorem rrel_next {w w3 : World} {B W H : Nat} {a : Option Addr} {n c : Nat} {f : Nat → Bool} {hd : List UInt8} {p j : Nat} (hj : j < W) (hb : Lib.IsBuilder 68 5 B B (Lib.byteCells (hd ++ row f p j) ++ [.int .u8 (ch (f (p + j))).toNat]) w3) (hx : BoxAt w3 w.heap.size W H a n c) (hB : Below w.heap.size w w3) :
    RRel w B W H a n c f hd p (.int .i64 ((j : Int) + 1)) w3 :=
  ⟨j + 1, by omega, by congr 1, by
    rw [row_succ, ← List.append_assoc, byteCells_append]
    exact hb, hx, hB⟩
theorem trel_next {w w3 : World} {B W H : Nat} {a : Option Addr} {n c : Nat} {f : Nat → Bool} {k p : Nat} {v : Nat} (hk : k < H) (hv : (H : Int) - 1 - (k + 1 : Nat) = (v : Int) - 1) (ht : tx W H f (k + 1) = tx W H f k ++ row f p W ++ [10])
    (hb : Lib.IsBuilder 68 5 B B (Lib.byteCells (tx W H f k ++ row f p W) ++ [.int .u8 10]) w3) (hx : BoxAt w3 w.heap.size W H a n c) (hB : Below w.heap.size w w3) :
    TRel w B W H a n c f (.int .i64 ((v : Int) - 1)) w3 :=
  ⟨k + 1, by omega, by rw [hv], by
    rw [ht, byteCells_append]
    exact hb, hx, hB⟩
set_option maxRecDepth 100000 in
set_option maxHeartbeats 4000000 in
theorem Text_yes (W H : Nat) (a : Option Addr) (n c : Nat) (f : Nat → Bool) (hW : W ≤ 96) (hH : H ≤ 96) (hn : n = W * H) (hc : n ≤ c) (w : World) (hD : DA w a n f) :
    Calls Try.prog 14 #[bv W H a n c] w fun e w' => e = .returned (.string ⟨(tx W H f H).toArray⟩) ∧ Below w.heap.size w w' := by
  have C := Lib.hid (Check_any W H a n c)
  have hg : gd W H n = true := (gd_iff _ _ _).2 ⟨by omega, by omega, by rw [hn]; simp⟩
  have hz : ck W H n = 0 := by have := ck_zero W H n; rw [hg] at this; exact eq_of_beq this
  rw [hz] at C
  have HD := Lib.hid hD
  have HF := Lib.hid (fun k hk => row_facts (k := k) f hW hH hn hk)
  clear hD hz hg hn
  unfold bv at *
  go_enter Try.func14, Try.ntmps14
  go_wp2_with fail
  refine (C.out _).mono ?_
  rintro e w1 ⟨rfl, hb1⟩
  obtain ⟨c0, c1, c2⟩ := box3 hb1 rfl
  have hB : Below w.heap.size w w1 := bt (ba (Below.refl _ _) _) hb1
  have hlt := block_lt_of_cell c0
  clear hb1
  go_wp2_with fail
  have hBb : Below w.heap.size w (w1.alloc (.cells #[.pointer none, .slice none 0 0] 68)) := ba hB _
  have hb1 := Lib.fresh_isBuilder 68 5 w1
  have hBox : BoxAt (w1.alloc (.cells #[.pointer none, .slice none 0 0] 68)) w.heap.size W H a n c := ⟨by go_cell, by go_cell, by go_cell⟩
  have hwB : w.heap.size ≤ w1.heap.size := by omega
  go_loopw [4] (fun s4 wr => TRel w w1.heap.size W H a n c f s4 wr) (fun s4 _ => (intOf s4 + 1).toNat)
  case atStart => exact ⟨0, by omega, by simp, hb1, hBox, hBb⟩
  case round =>
    clear hBb hb1 hBox c0 c1 c2 hB
    obtain ⟨k, hk, rfl, hbk, ⟨c0, c1, c2⟩, hB⟩ := hrel
    rcases Nat.lt_or_ge k H with hlt2 | hge
    · obtain ⟨v, p, hy, hpn, hn9, e1, e2, ht, hlen, hv96, hv1⟩ := HF.out k hlt2
      rw [hy]
      have HT := Lib.hid ht
      have HV := Lib.hid hv1
      clear hy ht hv1 hk
      rcases Nat.eq_zero_or_pos W with hW0 | hW0
      · have HW0 := Lib.hid hW0
        clear hW0
        rcases Decidable.em (c = p) with hcp0 | hcp0
        · have hcp : (c = p) = True := eq_true hcp0
          clear hcp0
          go_wp2_with fail
          try simp only [e1, e2, Nat.add_sub_cancel_left]
          go_loopw [30] (fun s30 wr => RRel w w1.heap.size W H a n c f (tx W H f k) p s30 wr) (fun s30 _ => W - (intOf s30).toNat)
          case atStart => exact ⟨0, by omega, rfl, by simpa [row] using hbk, ⟨c0, c1, c2⟩, hB⟩
          case round =>
            clear hbk c0 c1 c2 hB
            rename World => V
            obtain ⟨j, hj, rfl, hbk, hbx, hB⟩ := hrel
            have hlr : (Lib.byteCells (tx W H f k ++ row f p j)).length ≤ 1000000 := by rw [byteCells_length, List.length_append, row_len]; omega
            have hz4 := bld_lt hbk
            rcases Nat.lt_or_ge j W with hjW | hjW
            · exact absurd HW0.out (by omega)
            · have hjj : j = W := by omega
              subst hjj
              have HTR := Lib.hid (fun w3 hb hx hB => trel_next (w := w) (w3 := w3) (B := w1.heap.size) (a := a) (n := n) (c := c) hlt2 HV.out HT.out hb hx hB)
              obtain ⟨c0, c1, c2⟩ := id hbx
              go_wp2_with fail
              refine (byte_any w1.heap.size w1.heap.size _ 10 _ hbk hlr (by omega)).mono ?_
              rintro e w3 ⟨rfl, hb3, hB3⟩
              have R := Lib.hid (HTR.out w3 hb3 (boxat_lift hbx hlt hB3) (hB.trans (hB3.mono (by omega))))
              go_wp2_with fail
              refine ⟨?_, ?_⟩
              · first
                  | exact R.out
                  | ((repeat apply Exists.intro)
                     exact ⟨R.out, rfl⟩)
              · first
                  | (simp [intOf]; done)
                  | (simp [intOf]; omega)
        · have hcp : (c = p) = False := eq_false hcp0
          clear hcp0
          go_wp2_with fail
          try simp only [e1, e2, Nat.add_sub_cancel_left]
          go_loopw [30] (fun s30 wr => RRel w w1.heap.size W H a n c f (tx W H f k) p s30 wr) (fun s30 _ => W - (intOf s30).toNat)
          case atStart => exact ⟨0, by omega, rfl, by simpa [row] using hbk, ⟨c0, c1, c2⟩, hB⟩
          case round =>
            clear hbk c0 c1 c2 hB
            rename World => V
            obtain ⟨j, hj, rfl, hbk, hbx, hB⟩ := hrel
            have hlr : (Lib.byteCells (tx W H f k ++ row f p j)).length ≤ 1000000 := by rw [byteCells_length, List.length_append, row_len]; omega
            have hz4 := bld_lt hbk
            rcases Nat.lt_or_ge j W with hjW | hjW
            · exact absurd HW0.out (by omega)
            · have hjj : j = W := by omega
              subst hjj
              have HTR := Lib.hid (fun w3 hb hx hB => trel_next (w := w) (w3 := w3) (B := w1.heap.size) (a := a) (n := n) (c := c) hlt2 HV.out HT.out hb hx hB)
              obtain ⟨c0, c1, c2⟩ := id hbx
              go_wp2_with fail
              refine (byte_any w1.heap.size w1.heap.size _ 10 _ hbk hlr (by omega)).mono ?_
              rintro e w3 ⟨rfl, hb3, hB3⟩
              have R := Lib.hid (HTR.out w3 hb3 (boxat_lift hbx hlt hB3) (hB.trans (hB3.mono (by omega))))
              go_wp2_with fail
              refine ⟨?_, ?_⟩
              · first
                  | exact R.out
                  | ((repeat apply Exists.intro)
                     exact ⟨R.out, rfl⟩)
              · first
                  | (simp [intOf]; done)
                  | (simp [intOf]; omega)
      · obtain ⟨b, o, rfl, hc0⟩ := HD.out p (by omega)
        have hcp : ¬ c = p := by omega
        clear hc0
        go_wp2_with fail
        try simp only [e1, e2, Nat.add_sub_cancel_left]
        go_loopw [30] (fun s30 wr => RRel w w1.heap.size W H (some ⟨b, o, none⟩) n c f (tx W H f k) p s30 wr) (fun s30 _ => W - (intOf s30).toNat)
        case atStart => exact ⟨0, by omega, rfl, by simpa [row] using hbk, ⟨c0, c1, c2⟩, hB⟩
        case round =>
          clear hbk c0 c1 c2 hB
          rename World => V
          obtain ⟨j, hj, rfl, hbk, hbx, hB⟩ := hrel
          have hlr : (Lib.byteCells (tx W H f k ++ row f p j)).length ≤ 1000000 := by rw [byteCells_length, List.length_append, row_len]; omega
          have hz4 := bld_lt hbk
          rcases Nat.lt_or_ge j W with hjW | hjW
          · obtain ⟨b', o', ee, hcc⟩ := da_below HD.out hB (p + j) (by omega)
            cases ee
            have DB := Lib.hid (dotOrBlank_any (f (p + j)))
            rw [← Nat.add_assoc] at hcc
            obtain ⟨c0, c1, c2⟩ := id hbx
            generalize hfv : f (p + j) = fv at *
            go_wp2_with fail
            refine (DB.out _).mono ?_
            rintro e w3 ⟨rfl, rfl⟩
            go_wp2_with fail
            refine (byte_any w1.heap.size w1.heap.size _ _ _ hbk hlr (by omega)).mono ?_
            rintro e w3 ⟨rfl, hb3, hB3⟩
            have R := Lib.hid (rrel_next (w := w) (B := w1.heap.size) (W := W) (H := H) (a := some ⟨b, o, none⟩) (n := n) (c := c) (f := f) (hd := tx W H f k) (p := p) (j := j) hjW (by rw [hfv]; exact hb3) (boxat_lift hbx hlt hB3) (hB.trans (hB3.mono (by omega))))
            go_wp2_with fail
            refine ⟨?_, ?_⟩
            · first
                | exact R.out
                | ((repeat apply Exists.intro)
                   exact ⟨R.out, rfl⟩)
            · first
                | (simp [intOf]; done)
                | (simp [intOf]; omega)
          · have hjj : j = W := by omega
            subst hjj
            have HTR := Lib.hid (fun w3 hb hx hB => trel_next (w := w) (w3 := w3) (B := w1.heap.size) (a := some ⟨b, o, none⟩) (n := n) (c := c) hlt2 HV.out HT.out hb hx hB)
            obtain ⟨c0, c1, c2⟩ := id hbx
            go_wp2_with fail
            refine (byte_any w1.heap.size w1.heap.size _ 10 _ hbk hlr (by omega)).mono ?_
            rintro e w3 ⟨rfl, hb3, hB3⟩
            have R := Lib.hid (HTR.out w3 hb3 (boxat_lift hbx hlt hB3) (hB.trans (hB3.mono (by omega))))
            go_wp2_with fail
            refine ⟨?_, ?_⟩
            · first
                | exact R.out
                | ((repeat apply Exists.intro)
                   exact ⟨R.out, rfl⟩)
            · first
                | (simp [intOf]; done)
                | (simp [intOf]; omega)
    · have hkk : k = H := by omega
      subst hkk
      have hy : ((k : Int) - 1 - k) = -1 := by omega
      rw [hy]
      have hz4 := bld_lt hbk
      go_wp2_with fail
      refine (Try.Builder_String_any _ _ _ _ hbk (by omega)).mono ?_
      rintro e w3 ⟨rfl, hB3⟩
      go_wp2
      go_ret
      exact ⟨rfl, hB.trans (hB3.mono hwB)⟩
end Go.Proofs.Ytfkpodhkbcocmaa.Bm
