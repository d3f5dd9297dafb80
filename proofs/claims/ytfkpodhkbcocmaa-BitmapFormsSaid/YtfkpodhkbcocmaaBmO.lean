/-
  Layer 4 (bitmap): the calls of the chapter's examples.
-/
import Derived.Test.YtfkpodhkbcocmaaBmN
namespace Go.Proofs.Ytfkpodhkbcocmaa.Bm
open Go.RowKit
set_option maxHeartbeats 1000000 in
theorem texts_yes (W H n c : Nat) (a : Option Addr) (f : Nat → Bool) (hW : W ≤ 96) (hH : H ≤ 96) (hn : n = W * H) (hc : n ≤ c) (want : ByteArray) (ht : (⟨(tx W H f H).toArray⟩ : ByteArray) = want) (w : World) (hD : DA w a n f) :
    Calls Try.prog 33 #[bv W H a n c, .int .i64 0, .string want] w fun e w' => e = .returned (.bool true) ∧ Below w.heap.size w w' := by
  have T := Lib.hid (fun w hD => Text_yes W H a n c f hW hH hn hc w hD)
  rw [ht] at T
  have HD := Lib.hid hD
  have es := str_eq (x := want) rfl
  clear hD ht hn
  unfold bv at *
  go_enter Try.func33, Try.ntmps33
  go_wp2_with fail
  refine (T.out _ (da_below HD.out (ba (Below.refl _ _) _))).mono ?_
  rintro e w1 ⟨rfl, hB⟩
  go_wp2
  go_ret
  exact ⟨rfl, bt (ba (Below.refl _ _) _) hB⟩
def fa (i : Nat) : Bool := [false, true, true, true, false, true].getD i false
def fb (i : Nat) : Bool := [true, true].getD i false
def fd (i : Nat) : Bool := [false, true, true, false].getD i false
abbrev av (b : Nat) : Value := .agg #[.int .i64 3, .int .i64 2, .slice (some ⟨b, 0, none⟩) 6 6]
abbrev bbv (b : Nat) : Value := .agg #[.int .i64 2, .int .i64 1, .slice (some ⟨b, 0, none⟩) 2 2]
abbrev zv : Value := .agg #[.int .i64 0, .int .i64 0, .slice none 0 0]
theorem x_check (W H : Int) (a : Option Addr) (n c : Nat) (r : Int) (h : ck W H n = r) (w : World) :
    Calls Try.prog 10 #[.agg #[.int .i64 W, .int .i64 H, .slice a n c]] w fun e w' => e = .returned (.int .i64 r) ∧ Below w.heap.size w w' := by
  subst h; exact Check_any W H a n c w
theorem x_get (x y : Int) (r : Bool) (h : has 3 2 6 fa x y = r) (b : Nat) (w : World) (hD : DA w (some ⟨b, 0, none⟩) 6 fa) :
    Calls Try.prog 21 #[av b, .int .i64 x, .int .i64 y] w fun e w' => e = .returned (.bool r) ∧ Below w.heap.size w w' := by
  subst h; exact Get_any 3 2 _ 6 6 fa x y w hD
theorem x_count (b : Nat) (w : World) (hD : DA w (some ⟨b, 0, none⟩) 6 fa) :
    Calls Try.prog 12 #[av b] w fun e w' => e = .returned (.int .i64 4) ∧ Below w.heap.size w w' := by
  have := Count_any 3 2 _ 6 6 fa w hD
  rw [show count 3 2 6 fa = 4 from by kernel_rfl] at this
  exact this
theorem x_crop (b : Nat) (w : World) (hD : DA w (some ⟨b, 0, none⟩) 6 fa) :
    Calls Try.prog 28 #[av b, .int .i64 1, .int .i64 (-1), .int .i64 3, .int .i64 2] w fun e w' => ∃ b', e = .returned (.tuple #[av b', .int .i64 0]) ∧ OB w' b' 6 (crp 3 3 2 6 fa 1 (-1)) ∧ (w.heap.size ≤ b' ∧ b' < w'.heap.size) ∧ Below w.heap.size w w' :=
  Crop_yes 3 2 _ 6 6 fa 1 (-1) 3 2 6 (by decide) (by decide) (by decide) w hD
theorem x_paste (x y : Int) (hx : R64 x) (hy : R64 y) (b b2 : Nat) (w : World) (hD : DA w (some ⟨b, 0, none⟩) 6 fa) (hD2 : DA w (some ⟨b2, 0, none⟩) 2 fb) :
    Calls Try.prog 26 #[av b, bbv b2, .int .i64 x, .int .i64 y] w fun e w' => ∃ b', e = .returned (av b') ∧ OB w' b' 6 (pst 3 2 1 2 fb fa x y) ∧ (w.heap.size ≤ b' ∧ b' < w'.heap.size) ∧ Below w.heap.size w w' :=
  Paste_yes 3 2 _ 6 6 fa 2 1 _ 2 2 fb x y (by decide) hx hy w hD hD2
theorem x_texts (b : Nat) (f : Nat → Bool) (want : ByteArray) (ht : (⟨(tx 3 2 f 2).toArray⟩ : ByteArray) = want) (w : World) (hD : OB w b 6 f) :
    Calls Try.prog 33 #[av b, .int .i64 0, .string want] w fun e w' => e = .returned (.bool true) ∧ Below w.heap.size w w' :=
  texts_yes 3 2 6 6 _ f (by omega) (by omega) rfl (by omega) want ht w (ob_da hD)
theorem x_only (dx : Int) (ti : Int) (r : Nat) (h : only 3 2 6 fa 2 1 2 fb dx 0 0 ti = r) (b b2 : Nat) (w : World) (hD : DA w (some ⟨b, 0, none⟩) 6 fa) (hD2 : DA w (some ⟨b2, 0, none⟩) 2 fb) :
    Calls Try.prog 30 #[av b, bbv b2, .int .i64 dx, .int .i64 0, .int .i64 0, .int .i64 ti] w fun e w' => e = .returned (.int .i64 r) ∧ Below w.heap.size w w' := by
  subst h; exact Only_any 3 2 _ 6 6 fa 2 1 _ 2 2 fb dx 0 0 ti w hD hD2
theorem x_only2 (b b2 : Nat) (w : World) (hD : DA w (some ⟨b, 0, none⟩) 6 fa) (hD2 : DA w (some ⟨b2, 0, none⟩) 2 fb) :
    Calls Try.prog 30 #[bbv b2, av b, .int .i64 0, .int .i64 0, .int .i64 0, .int .i64 0] w fun e w' => e = .returned (.int .i64 1) ∧ Below w.heap.size w w' := by
  have := Only_any 2 1 _ 2 2 fb 3 2 _ 6 6 fa 0 0 0 0 w hD2 hD
  rw [show only 2 1 2 fb 3 2 6 fa 0 0 0 0 = 1 from by kernel_rfl] at this
  exact this
theorem x_parse (w : World) :
    Calls Try.prog 24 #[.string ⟨#[35, 46, 10, 46, 35, 10]⟩] w fun e w' => ∃ b, e = .returned (.tuple #[.agg #[.int .i64 2, .int .i64 2, .slice (some ⟨b, 0, none⟩) 4 4], .bool true]) ∧ OB w' b 4 fd ∧ (w.heap.size ≤ b ∧ b < w'.heap.size) ∧ Below w.heap.size w w' := by
  refine (Parse_yes ⟨#[35, 46, 10, 46, 35, 10]⟩ 2 2 4 ⟨by decide, by decide, by decide, by decide, by decide⟩ rfl (by decide) w).mono ?_
  rintro e w' ⟨b, e1, e2, e3⟩
  refine ⟨b, e1, ob_congr e2 (fun i hi => ?_), e3⟩
  have : i = 0 ∨ i = 1 ∨ i = 2 ∨ i = 3 := by omega
  rcases this with rfl | rfl | rfl | rfl <;> decide
theorem x_parse_no (s : ByteArray) (i : Int) (hi : Lib.indexByte s.data.toList 10 = i) (hn : ¬ PT s i.toNat (s.size / (i.toNat + 1))) (hs : s.size ≤ 1000000) (w : World) :
    Calls Try.prog 24 #[.string s] w fun e w' => e = .returned (.tuple #[zv, .bool false]) ∧ Below w.heap.size w w' := by
  refine Parse_no s (fun W H h => ?_) hs w
  obtain ⟨h1, h2⟩ := pt_index h
  rw [hi] at h1
  subst h1
  rw [Int.toNat_natCast, ← h2] at hn
  exact hn h
theorem x_same (b b2 : Nat) (w : World) (hD : OB w b 4 fd) (hD2 : OB w b2 4 fd) :
    Calls Try.prog 17 #[.agg #[.int .i64 2, .int .i64 2, .slice (some ⟨b, 0, none⟩) 4 4], .agg #[.int .i64 2, .int .i64 2, .slice (some ⟨b2, 0, none⟩) 4 4]] w fun e w' => e = .returned (.bool true) ∧ Below w.heap.size w w' := by
  have := rSame_any 2 2 (some ⟨b, 0, none⟩) 4 4 fd 2 2 (some ⟨b2, 0, none⟩) 4 4 fd (by omega) w (ob_da hD) (ob_da hD2)
  rw [show sm 2 2 4 fd 2 2 4 fd = true by decide] at this
  exact this
theorem e_t1 : (⟨(tx 3 2 (pst 3 2 1 2 fb fa 0 0) 2).toArray⟩ : ByteArray) = ⟨#[35, 46, 35, 10, 35, 35, 35, 10]⟩ := by kernel_rfl
theorem e_t2 : (⟨(tx 3 2 (pst 3 2 1 2 fb fa 2 1) 2).toArray⟩ : ByteArray) = ⟨#[35, 46, 35, 10, 46, 35, 35, 10]⟩ := by kernel_rfl
theorem e_t3 : (⟨(tx 3 2 (crp 3 3 2 6 fa 1 (-1)) 2).toArray⟩ : ByteArray) = ⟨#[35, 35, 46, 10, 46, 46, 46, 10]⟩ := by kernel_rfl
theorem e_o1 : only 3 2 6 fa 2 1 2 fb 0 0 0 0 = 3 := by kernel_rfl
theorem e_o2 : only 3 2 6 fa 2 1 2 fb 1 0 0 0 = 2 := by kernel_rfl
theorem e_o3 : only 3 2 6 fa 2 1 2 fb 1 0 0 1 = 1 := by kernel_rfl
theorem e_g1 : has 3 2 6 fa 0 1 = true := by kernel_rfl
theorem e_g2 : has 3 2 6 fa 0 0 = false := by kernel_rfl
theorem e_g3 : has 3 2 6 fa 3 0 = false := by kernel_rfl
theorem e_g4 : has 3 2 6 fa (-1) 0 = false := by kernel_rfl
theorem e_p1 : ¬ PT ⟨#[35, 46, 10, 35, 10]⟩ (2 : Int).toNat ((⟨#[35, 46, 10, 35, 10]⟩ : ByteArray).size / ((2 : Int).toNat + 1)) := fun ⟨_, _, _, _, h⟩ => absurd h (by decide)
theorem e_p2 : ¬ PT ⟨#[35]⟩ (-1 : Int).toNat ((⟨#[35]⟩ : ByteArray).size / ((-1 : Int).toNat + 1)) := fun ⟨h, _⟩ => absurd h (by decide)
theorem e_p3 : ¬ PT ⟨#[10]⟩ (0 : Int).toNat ((⟨#[10]⟩ : ByteArray).size / ((0 : Int).toNat + 1)) := fun ⟨h, _⟩ => absurd h (by decide)
end Go.Proofs.Ytfkpodhkbcocmaa.Bm
