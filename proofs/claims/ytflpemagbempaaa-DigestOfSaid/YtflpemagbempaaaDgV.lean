/-
  Layer 3 (digest): the law DigestOf, walked.
-/
import Derived.Test.YtflpemagbempaaaDgU
namespace Go.Proofs.Ytflpemagbempaaa.Dg
open Go.RowKit
set_option maxRecDepth 100000 in
set_option maxHeartbeats 8000000 in
theorem lawOf_any (a b : ByteArray) (ha : a.size ≤ 9223372036854775807) (hb : b.size ≤ 9223372036854775807) (w : World) :
    Calls Try.prog 3 #[.string a, .string b] w fun e w' => e = .returned (.bool true) ∧ Below w.heap.size w w' := by
  have SA := Lib.hid sanity_any
  have C1 := Lib.hid (cut_any a ha)
  have C2 := Lib.hid (cut_any b hb)
  have z1 := cut200_size a
  have z2 := cut200_size b
  generalize cut200 a = x at *
  generalize cut200 b = y at *
  have O1 := Lib.hid (Of_any x (by omega))
  have O2 := Lib.hid (rOf_any x (by omega))
  have O3 := Lib.hid (Chain_any x y (by omega) (by omega))
  have O4 := Lib.hid (rChain_any x y (by omega) (by omega))
  have O5 := Lib.hid (Chain_any (D x) y (by rw [D_size]; omega) (by omega))
  have O6 := Lib.hid (rChain_any (D x) y (by rw [D_size]; omega) (by omega))
  generalize B (chain x y) = c1 at *
  generalize B (chain (D x) y) = c2 at *
  generalize D x = d at *
  have e1 := str_beq c1
  have e2 := str_beq c2
  have e3 := str_beq d
  go_enter Try.func3, Try.ntmps3
  go_wp2_with fail
  refine (SA.out _).mono ?_
  rintro e w1 ⟨rfl, k1⟩
  go_wp2_with fail
  refine (C1.out _).mono ?_
  rintro e w2 ⟨rfl, rfl⟩
  go_wp2_with fail
  refine (C2.out _).mono ?_
  rintro e w2 ⟨rfl, rfl⟩
  go_wp2_with fail
  refine (O1.out _).mono ?_
  rintro e w2 ⟨rfl, k2⟩
  replace k2 : Below w.heap.size w w2 := bt k1 k2
  clear k1
  go_wp2_with fail
  refine (O2.out _).mono ?_
  rintro e w3 ⟨rfl, k3⟩
  replace k3 : Below w.heap.size w w3 := bt k2 k3
  clear k2
  go_wp2_with fail
  refine (O3.out _).mono ?_
  rintro e w4 ⟨rfl, k4⟩
  replace k4 : Below w.heap.size w w4 := bt k3 k4
  clear k3
  go_wp2_with fail
  refine (O4.out _).mono ?_
  rintro e w5 ⟨rfl, k5⟩
  replace k5 : Below w.heap.size w w5 := bt k4 k5
  clear k4
  go_wp2_with fail
  refine (O1.out _).mono ?_
  rintro e w6 ⟨rfl, k6⟩
  replace k6 : Below w.heap.size w w6 := bt k5 k6
  clear k5
  go_wp2_with fail
  refine (O5.out _).mono ?_
  rintro e w7 ⟨rfl, k7⟩
  replace k7 : Below w.heap.size w w7 := bt k6 k7
  clear k6
  go_wp2_with fail
  refine (O2.out _).mono ?_
  rintro e w8 ⟨rfl, k8⟩
  replace k8 : Below w.heap.size w w8 := bt k7 k8
  clear k7
  go_wp2_with fail
  refine (O6.out _).mono ?_
  rintro e w9 ⟨rfl, k9⟩
  replace k9 : Below w.heap.size w w9 := bt k8 k9
  clear k8
  go_wp2_with fail
  go_ret
  exact ⟨rfl, k9⟩
end Go.Proofs.Ytflpemagbempaaa.Dg
