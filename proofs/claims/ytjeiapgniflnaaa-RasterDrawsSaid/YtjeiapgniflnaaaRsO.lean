/-
  Layer 7 (raster): pictures that are compared; what the chapter's examples are made of.
-/
import Derived.Test.YtjeiapgniflnaaaRsN
import Derived.Test.YtjeiapgniflnaaaBmTwo
import Derived.Test.YtjeiapgniflnaaaBmOne
namespace Go.Proofs.Ytjeiapgniflnaaa.Rs
open Go.RowKit
open Go.Proofs.Ytjeiapgniflnaaa.Ot
open Go.Proofs.Ytjeiapgniflnaaa.Bm (bv OB DA sd gd tx Text_yes)
def pgV (Le Lo W H : Int) (sa : Option Addr) (n c : Nat) : Value := .agg #[.int .i64 Le, .int .i64 Lo, .int .i64 W, .int .i64 H, .slice sa n c]
set_option maxRecDepth 100000 in
set_option maxHeartbeats 4000000 in
theorem drawn_yes (Le Lo : Int) (W H : Nat) (sa : Option Addr) (n c : Nat) (f : Nat → Bool) (t : ByteArray) (hW : W ≤ 96) (hH : H ≤ 96) (hn : n = W * H) (hc : n ≤ c) (ht : ⟨(tx W H f H).toArray⟩ = t) (w : World) (hD : DA w sa n f) :
    Calls Try.prog 24 #[pgV Le Lo W H sa n c, .int .i64 0, .int .i64 Le, .int .i64 Lo, .string t] w fun e w' => e = .returned (.bool true) ∧ Below w.heap.size w w' := by
  have TX := Lib.hid (fun V (hb : Below w.heap.size w V) => Text_yes W H sa n c f hW hH hn hc V (Bm.da_below hD hb))
  rw [ht] at TX
  clear hD ht hn hc hW hH
  unfold pgV
  unfold bv at TX
  go_enter Try.func24, Try.ntmps24
  have hA1 := Lib.hid (ba (Below.refl w.heap.size w) (.cells #[.int .i64 Le, .int .i64 Lo, .int .i64 (W : Int), .int .i64 (H : Int), .slice sa n c] 40))
  go_wp2_with ((with_reducible refine (TX.out _ hA1.out).mono ?_); rintro e w3 ⟨rfl, hb⟩)
  go_ret
  exact ⟨by first | rfl | simp, bt hA1.out hb⟩
/-- Whether two pictures are equal. -/
def ps (Le Lo W H : Int) (n : Nat) (f : Nat → Bool) (Le' Lo' W' H' : Int) (n' : Nat) (f' : Nat → Bool) : Bool := decide (Le = Le') && (decide (Lo = Lo') && Bm.sm W H n f W' H' n' f')
set_option maxRecDepth 100000 in
set_option maxHeartbeats 4000000 in
theorem pSame_any (Le Lo W H : Int) (a : Option Addr) (n c : Nat) (f : Nat → Bool) (Le' Lo' W' H' : Int) (a' : Option Addr) (n' c' : Nat) (f' : Nat → Bool) (hn : n ≤ 1000000) (w : World) (hD : DA w a n f) (hD' : DA w a' n' f') :
    Calls Try.prog 19 #[pgV Le Lo W H a n c, pgV Le' Lo' W' H' a' n' c'] w fun e w' => e = .returned (.bool (ps Le Lo W H n f Le' Lo' W' H' n' f')) ∧ Below w.heap.size w w' := by
  have SM := Lib.hid (fun V (hb : Below w.heap.size w V) => Bm.rSame_any W H a n c f W' H' a' n' c' f' hn V (Bm.da_below hD hb) (Bm.da_below hD' hb))
  clear hD hD'
  unfold pgV ps
  unfold bv at SM
  have hA1 := Lib.hid (ba (ba (Below.refl w.heap.size w) (.cells #[.int .i64 Le, .int .i64 Lo, .int .i64 W, .int .i64 H, .slice a n c] 40)) (.cells #[.int .i64 Le', .int .i64 Lo', .int .i64 W', .int .i64 H', .slice a' n' c'] 40))
  by_cases h1 : Le = Le'
  · by_cases h2 : Lo = Lo'
    · rw [decide_eq_true h1, decide_eq_true h2, Bool.true_and, Bool.true_and]
      subst h1 h2
      go_enter Try.func19, Try.ntmps19
      go_wp2_with ((with_reducible refine (SM.out _ hA1.out).mono ?_); rintro e w3 ⟨rfl, hb⟩)
      go_ret
      exact ⟨by first | rfl | simp, bt hA1.out hb⟩
    · have q : (Lo == Lo') = false := beq_eq_false_iff_ne.2 h2
      rw [decide_eq_true h1, decide_eq_false h2, Bool.false_and, Bool.true_and]
      subst h1
      go_enter Try.func19, Try.ntmps19
      go_wp2_with fail
      go_ret
      exact ⟨by first | rfl | simp, hA1.out⟩
  · have q : (Le == Le') = false := beq_eq_false_iff_ne.2 h1
    rw [decide_eq_false h1, Bool.false_and]
    go_enter Try.func19, Try.ntmps19
    go_wp2_with fail
    go_ret
    exact ⟨by first | rfl | simp, hA1.out⟩
/-- A row of a literal is the call's own. -/
theorem own_lit (W : World) (v : Value) (T : TypeId) {base : Nat} (h : base ≤ W.heap.size) : (W.alloc (.cells #[v] T)).ownsRow base T 1 (.slice (some ⟨W.heap.size, 0, none⟩) 1 1) 1 [v] :=
  ⟨rfl, .inr ⟨W.heap.size, 1, #[v], rfl, h, World.alloc_heap_new W _, Nat.le_refl _, by unfold maxLen; omega, rfl, rfl⟩⟩
/-- Polygons of one list of points. -/
theorem ot_lit {V : World} {S : Nat} {a : Option Addr} {m c : Nat} {g : Nat → Pt} (hc : V.cell? ⟨S, 0, none⟩ = some (.slice a m c)) (h1 : m ≤ c) (h2 : c ≤ 9223372036854775807) (hP : PA V a m g) : OT V (some ⟨S, 0, none⟩) 1 (fun _ => m) (fun _ => g) := fun k hk => by
  obtain rfl : k = 0 := by omega
  exact ⟨S, 0, a, c, rfl, hc, h1, h2, hP⟩
end Go.Proofs.Ytjeiapgniflnaaa.Rs
