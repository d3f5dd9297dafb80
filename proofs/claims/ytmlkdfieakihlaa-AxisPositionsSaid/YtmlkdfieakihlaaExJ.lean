/-
  The walks of layer 1 (exact): both in lowest terms; a ratio out of two numbers of two words.
-/
import Derived.Test.YtmlkdfieakihlaaExI
import Derived.Test.YtmlkdfieakihlaaExF
namespace Go.Proofs.Ytmlkdfieakihlaa.Ex
open Go.RowKit

set_option maxHeartbeats 4000000 in
theorem both_any (n d m e : Int) (hn : -9223372036854775808 ≤ n ∧ n ≤ 9223372036854775807) (hd : d ≤ 9223372036854775807) (hm : -9223372036854775808 ≤ m ∧ m ≤ 9223372036854775807) (he : e ≤ 9223372036854775807) (w : World) :
    Calls Try.prog 54 #[ratV n d, ratV m e] w fun en w' => en = .returned (.tuple #[ratV (LoN n d) (LoD n d), ratV (LoN m e) (LoD m e), .bool (LoB d && LoB e)]) ∧ Below w.heap.size w w' := by
  have A := Lib.hid (lowest_any n d hn hd)
  have B := Lib.hid (lowest_any m e hm he)
  unfold ratV at *
  generalize LoN n d = n1 at *
  generalize LoD n d = d1 at *
  generalize LoB d = p at *
  generalize LoN m e = m1 at *
  generalize LoD m e = e1 at *
  generalize LoB e = q at *
  clear hn hd hm he
  cases p <;> cases q
  all_goals
    go_enter Try.func54, Try.ntmps54
    go_wp2_with fail
    refine (A.out _).mono ?_
    rintro en w1 ⟨rfl, hb1⟩
    have a1 := kc hb1 (b := w.heap.size) (o := 0) (v := .int .i64 n) (by go_cell)
    have fa1 := kf hb1 (b := w.heap.size) (o := 0) (v := .int .i64 n) (t := false) (by go_cell) (by go_cell)
    have b1 := kc hb1 (b := w.heap.size) (o := 1) (v := .int .i64 d) (by go_cell)
    have fb1 := kf hb1 (b := w.heap.size) (o := 1) (v := .int .i64 d) (t := false) (by go_cell) (by go_cell)
    have c1 := kc hb1 (b := w.heap.size + 1) (o := 0) (v := .int .i64 m) (by go_cell)
    have fc1 := kf hb1 (b := w.heap.size + 1) (o := 0) (v := .int .i64 m) (t := false) (by go_cell) (by go_cell)
    have g1 := kc hb1 (b := w.heap.size + 1) (o := 1) (v := .int .i64 e) (by go_cell)
    have fg1 := kf hb1 (b := w.heap.size + 1) (o := 1) (v := .int .i64 e) (t := false) (by go_cell) (by go_cell)
    have r1 := kc hb1 (b := w.heap.size + 1 + 1) (o := 0) (v := .int .i64 0) (by go_cell)
    have fr1 := kf hb1 (b := w.heap.size + 1 + 1) (o := 0) (v := .int .i64 0) (t := false) (by go_cell) (by go_cell)
    have s1 := kc hb1 (b := w.heap.size + 1 + 1) (o := 1) (v := .int .i64 0) (by go_cell)
    have fs1 := kf hb1 (b := w.heap.size + 1 + 1) (o := 1) (v := .int .i64 0) (t := false) (by go_cell) (by go_cell)
    have t1 := kc hb1 (b := w.heap.size + 1 + 1 + 1) (o := 0) (v := .int .i64 0) (by go_cell)
    have ft1 := kf hb1 (b := w.heap.size + 1 + 1 + 1) (o := 0) (v := .int .i64 0) (t := false) (by go_cell) (by go_cell)
    have u1 := kc hb1 (b := w.heap.size + 1 + 1 + 1) (o := 1) (v := .int .i64 0) (by go_cell)
    have fu1 := kf hb1 (b := w.heap.size + 1 + 1 + 1) (o := 1) (v := .int .i64 0) (t := false) (by go_cell) (by go_cell)
    have hB : Below w.heap.size w w1 := bt (ba (ba (ba (ba (Below.refl _ _) _) _) _) _) hb1
    clear hb1
    go_wp2_with fail
    refine (B.out _).mono ?_
    rintro en w2 ⟨rfl, hb2⟩
    have a2 := kc hb2 (b := w.heap.size) (o := 0) (v := .int .i64 n1) (by go_cell)
    have fa2 := kf hb2 (b := w.heap.size) (o := 0) (v := .int .i64 n1) (t := false) (by go_cell) (by go_cell)
    have b2 := kc hb2 (b := w.heap.size) (o := 1) (v := .int .i64 d1) (by go_cell)
    have fb2 := kf hb2 (b := w.heap.size) (o := 1) (v := .int .i64 d1) (t := false) (by go_cell) (by go_cell)
    have c2 := kc hb2 (b := w.heap.size + 1) (o := 0) (v := .int .i64 m) (by go_cell)
    have fc2 := kf hb2 (b := w.heap.size + 1) (o := 0) (v := .int .i64 m) (t := false) (by go_cell) (by go_cell)
    have g2 := kc hb2 (b := w.heap.size + 1) (o := 1) (v := .int .i64 e) (by go_cell)
    have fg2 := kf hb2 (b := w.heap.size + 1) (o := 1) (v := .int .i64 e) (t := false) (by go_cell) (by go_cell)
    have r2 := kc hb2 (b := w.heap.size + 1 + 1) (o := 0) (v := .int .i64 0) (by go_cell)
    have fr2 := kf hb2 (b := w.heap.size + 1 + 1) (o := 0) (v := .int .i64 0) (t := false) (by go_cell) (by go_cell)
    have s2 := kc hb2 (b := w.heap.size + 1 + 1) (o := 1) (v := .int .i64 0) (by go_cell)
    have fs2 := kf hb2 (b := w.heap.size + 1 + 1) (o := 1) (v := .int .i64 0) (t := false) (by go_cell) (by go_cell)
    have t2 := kc hb2 (b := w.heap.size + 1 + 1 + 1) (o := 0) (v := .int .i64 0) (by go_cell)
    have ft2 := kf hb2 (b := w.heap.size + 1 + 1 + 1) (o := 0) (v := .int .i64 0) (t := false) (by go_cell) (by go_cell)
    have u2 := kc hb2 (b := w.heap.size + 1 + 1 + 1) (o := 1) (v := .int .i64 0) (by go_cell)
    have fu2 := kf hb2 (b := w.heap.size + 1 + 1 + 1) (o := 1) (v := .int .i64 0) (t := false) (by go_cell) (by go_cell)
    replace hB : Below w.heap.size w w2 := bt (bs (bs hB (by simp) _) (by simp) _) hb2
    clear hb2 a1 fa1 b1 fb1 c1 fc1 g1 fg1 r1 fr1 s1 fs1 t1 ft1 u1 fu1
    go_wp2_with fail
    go_region
    go_wp2
    refine bodyPost_ret (by simp [results, Try.results54, go_sem, r2, s2, t2, u2]; try rfl) rfl ⟨rfl, ?_⟩
    repeat (first | (with_reducible exact hB) | (with_reducible refine bs ?_ (by simp; try omega) _) | (with_reducible refine bd1 ?_))

def rtB (n d g : Int) : Bool := fits (n / g) && fits (d / g)
def rtN (n d g : Int) : Int := if rtB n d g = true then n / g else 0
def rtD (n d g : Int) : Int := if rtB n d g = true then d / g else 0
theorem rt_out (n d g : Int) : rtB n d g = (fits (n / g) && fits (d / g)) ∧ rtN n d g = (if (fits (n / g) && fits (d / g)) = true then outI (n / g) else 0) ∧ rtD n d g = (if (fits (n / g) && fits (d / g)) = true then outI (d / g) else 0) := by
  unfold rtN rtD rtB outI
  refine ⟨rfl, ?_, ?_⟩ <;> cases fits (n / g) <;> cases fits (d / g) <;> rfl
set_option maxHeartbeats 2000000 in
theorem ratio_any (n d g : Int) (hn : fits2 n) (hd : fits2 d) (hg0 : 1 ≤ g) (hg1 : g < 18446744073709551616) (w : World) :
    Calls Try.prog 56 #[wideV n, wideV d, .int .u64 g] w fun en w' => en = .returned (.tuple #[ratV (rtN n d g) (rtD n d g), .bool (rtB n d g)]) ∧ Below w.heap.size w w' := by
  have A := Lib.hid (floor_any n g hn hg0 hg1)
  have B := Lib.hid (floor_any d g hd hg0 hg1)
  have K := Lib.hid (rt_out n d g)
  clear hn hd
  unfold ratV wideV at *
  generalize outI (n / g) = n1 at *
  generalize outI (d / g) = d1 at *
  generalize fits (n / g) = p at *
  generalize fits (d / g) = q at *
  cases p <;> cases q
  all_goals
    go_enter Try.func56, Try.ntmps56
    go_wp2_with fail
    refine (A.out _).mono ?_
    rintro en w1 ⟨rfl, hb1⟩
    have a1 := kc hb1 (b := w.heap.size) (o := 0) (v := .int .u64 (hiW n)) (by go_cell)
    have b1 := kc hb1 (b := w.heap.size) (o := 1) (v := .int .u64 (loW n)) (by go_cell)
    have c1 := kc hb1 (b := w.heap.size + 1) (o := 0) (v := .int .u64 (hiW d)) (by go_cell)
    have g1 := kc hb1 (b := w.heap.size + 1) (o := 1) (v := .int .u64 (loW d)) (by go_cell)
    have r1 := kc hb1 (b := w.heap.size + 1 + 1) (o := 0) (v := .int .i64 0) (by go_cell)
    have fr1 := kf hb1 (b := w.heap.size + 1 + 1) (o := 0) (v := .int .i64 0) (t := false) (by go_cell) (by go_cell)
    have s1 := kc hb1 (b := w.heap.size + 1 + 1) (o := 1) (v := .int .i64 0) (by go_cell)
    have fs1 := kf hb1 (b := w.heap.size + 1 + 1) (o := 1) (v := .int .i64 0) (t := false) (by go_cell) (by go_cell)
    have hB : Below w.heap.size w w1 := bt (ba (ba (ba (Below.refl _ _) _) _) _) hb1
    clear hb1
    go_wp2_with fail
    refine (B.out _).mono ?_
    rintro en w2 ⟨rfl, hb2⟩
    have r2 := kc hb2 (b := w.heap.size + 1 + 1) (o := 0) (v := .int .i64 0) (by go_cell)
    have fr2 := kf hb2 (b := w.heap.size + 1 + 1) (o := 0) (v := .int .i64 0) (t := false) (by go_cell) (by go_cell)
    have s2 := kc hb2 (b := w.heap.size + 1 + 1) (o := 1) (v := .int .i64 0) (by go_cell)
    have fs2 := kf hb2 (b := w.heap.size + 1 + 1) (o := 1) (v := .int .i64 0) (t := false) (by go_cell) (by go_cell)
    replace hB : Below w.heap.size w w2 := bt hB hb2
    clear hb2 a1 b1 c1 g1 r1 fr1 s1 fs1
    go_wp2
    refine bodyPost_ret (by simp [results, Try.results56, go_sem, r2, s2]; try rfl) rfl ⟨?_, ?_⟩
    · rw [K.out.1, K.out.2.1, K.out.2.2]
      rfl
    · repeat (first | (with_reducible exact hB) | (with_reducible refine bs ?_ (by simp; try omega) _) | (with_reducible refine bd1 ?_))

end Go.Proofs.Ytmlkdfieakihlaa.Ex
