/-
  Layer 6 (outline): points on curves: isOn, twiceEnd, onCurve, and the document's own.
-/
import Derived.Test.YtcogoomajfahkaaOtA
namespace Go.Proofs.Ytcogoomajfahkaa.Ot
open Go.RowKit
theorem w_addl (a b : Int) : wrap64 (wrap64 a + b) = wrap64 (a + b) := by unfold wrap64; omega
theorem w_addr (a b : Int) : wrap64 (a + wrap64 b) = wrap64 (a + b) := by unfold wrap64; omega
theorem w_wrap (a : Int) : wrap64 (wrap64 a) = wrap64 a := by unfold wrap64; omega
theorem w_mod {a b : Int} (h : (a - b) % 18446744073709551616 = 0) : wrap64 a = wrap64 b := by unfold wrap64; omega
theorem w_ex (a : Int) : ∃ k : Int, wrap64 a = a + 18446744073709551616 * k := ⟨-((a + 9223372036854775808) / 18446744073709551616), by unfold wrap64; omega⟩
theorem w_mull (a b : Int) : wrap64 (wrap64 a * b) = wrap64 (a * b) := by
  obtain ⟨k, e⟩ := w_ex a
  rw [e]
  refine w_mod ?_
  rw [Int.add_mul, Int.mul_assoc]
  generalize k * b = z
  generalize a * b = y
  omega
theorem w_mulr (a b : Int) : wrap64 (a * wrap64 b) = wrap64 (a * b) := by
  rw [Int.mul_comm, w_mull, Int.mul_comm]
theorem w_in {a : Int} (h : R64 a) : wrap64 a = a := by unfold R64 at h; unfold wrap64; omega
theorem w_R (a : Int) : R64 (wrap64 a) := by unfold R64 wrap64; omega
theorem ret_int {k : IntKind} {a b : Int} (h : a = b) : Ending.returned (.int k a) = .returned (.int k b) := by rw [h]
/-- Whether a point of a contour is on the curve. -/
def onB (g : Nat → Pt) (k : Nat) : Bool := (g k).o || decide (k = 0)
/-- A coordinate of a point of a curve. -/
def cv (a b c t : Int) : Int := wrap64 (a * (4 - t) * (4 - t) + 4 * b * t * (4 - t) + c * t * t)
set_option maxHeartbeats 1000000 in
theorem onCurve_any (a b c : Int) (t : Nat) (ht : 1 ≤ t ∧ t ≤ 4) (w : World) :
    Calls Try.prog 78 #[.int .i64 a, .int .i64 b, .int .i64 c, .int .i64 (t : Int)] w fun e w' => e = .returned (.int .i64 (cv a b c t)) ∧ w = w' := by
  obtain ⟨z, hz⟩ : ∃ z, cv a b c t = z := ⟨_, rfl⟩
  have HZ := Lib.hid hz
  rw [hz]
  clear hz
  have : t = 1 ∨ t = 2 ∨ t = 3 ∨ t = 4 := by omega
  rcases this with rfl | rfl | rfl | rfl
  all_goals
    go_enter Try.func78, Try.ntmps78
    go_wp2
    go_ret
    refine ⟨ret_int ?_, rfl⟩
    rw [← HZ.out]
    unfold cv
    simp only [w_addl, w_addr, w_mull, w_wrap]
    congr 1
    all_goals omega
set_option maxHeartbeats 1000000 in
theorem at_any (a b c : Int) (t : Nat) (ht : 1 ≤ t ∧ t ≤ 4) (w : World) :
    Calls Try.prog 64 #[.int .i64 a, .int .i64 b, .int .i64 c, .int .i64 (t : Int)] w fun e w' => e = .returned (.int .i64 (cv a b c t)) ∧ w = w' := by
  obtain ⟨z, hz⟩ : ∃ z, cv a b c t = z := ⟨_, rfl⟩
  have HZ := Lib.hid hz
  rw [hz]
  clear hz
  have : t = 1 ∨ t = 2 ∨ t = 3 ∨ t = 4 := by omega
  rcases this with rfl | rfl | rfl | rfl
  all_goals
    go_enter Try.func64, Try.ntmps64
    go_wp2
    go_ret
    refine ⟨ret_int ?_, rfl⟩
    rw [← HZ.out]
    unfold cv
    simp only [w_addl, w_addr, w_mull, w_wrap]
    congr 1
    all_goals omega
theorem isOn_any (a : Option Addr) (n c : Nat) (g : Nat → Pt) (k : Nat) (hk : k < n) (w : World) (hA : PA w a n g) :
    Calls Try.prog 60 #[.slice a n c, .int .i64 (k : Int)] w fun e w' => e = .returned (.bool (onB g k)) ∧ w = w' := by
  obtain ⟨b, o, rfl, x0, x1, x2⟩ := hA k hk
  clear x0 x1 hA
  have k2 : (0 : Int) ≤ (k : Int) := by omega
  have k3 : (k : Int) < (n : Int) := by omega
  unfold onB
  generalize (g k).o = u at *
  rcases u with _ | _
  · rw [Bool.false_or]
    have q : ((k : Int) == 0) = decide (k = 0) := by
      by_cases h : k = 0
      · subst h; rfl
      · rw [decide_eq_false h]; exact beq_eq_false_iff_ne.2 (by omega)
    generalize decide (k = 0) = r at *
    go_enter Try.func60, Try.ntmps60
    go_wp2
    go_ret
    exact ⟨rfl, rfl⟩
  · rw [Bool.true_or]
    go_enter Try.func60, Try.ntmps60
    go_wp2
    go_ret
    exact ⟨rfl, rfl⟩
theorem rOn_any (a : Option Addr) (n c : Nat) (g : Nat → Pt) (k : Nat) (hk : k < n) (w : World) (hA : PA w a n g) :
    Calls Try.prog 62 #[.slice a n c, .int .i64 (k : Int)] w fun e w' => e = .returned (.bool (onB g k)) ∧ w = w' := by
  obtain ⟨b, o, rfl, x0, x1, x2⟩ := hA k hk
  clear x0 x1 hA
  have k2 : (0 : Int) ≤ (k : Int) := by omega
  have k3 : (k : Int) < (n : Int) := by omega
  unfold onB
  generalize (g k).o = u at *
  by_cases h : k = 0
  · have q : ((k : Int) == 0) = true := by rw [h]; rfl
    rw [decide_eq_true h, Bool.or_true]
    clear h
    go_enter Try.func62, Try.ntmps62
    go_wp2
    go_ret
    exact ⟨rfl, rfl⟩
  · have q : ((k : Int) == 0) = false := beq_eq_false_iff_ne.2 (by omega)
    rw [decide_eq_false h, Bool.or_false]
    clear h
    go_enter Try.func62, Try.ntmps62
    go_wp2
    go_ret
    exact ⟨rfl, rfl⟩
/-- Twice an end of a curve. -/
def endP (g : Nat → Pt) (k m : Nat) : Pt := if onB g m then g m else g k
def endX (g : Nat → Pt) (k m : Nat) : Int := wrap64 ((endP g k m).x + (g m).x)
def endY (g : Nat → Pt) (k m : Nat) : Int := wrap64 ((endP g k m).y + (g m).y)
set_option maxRecDepth 100000 in
set_option maxHeartbeats 4000000 in
theorem twiceEnd_any (a : Option Addr) (n c : Nat) (g : Nat → Pt) (k m : Nat) (hk : k < n) (hm : m < n) (w : World) (hA : PA w a n g) :
    Calls Try.prog 77 #[.slice a n c, .int .i64 (k : Int), .int .i64 (m : Int)] w fun e w' => e = .returned (.agg #[.int .i64 (endX g k m), .int .i64 (endY g k m)]) ∧ Below w.heap.size w w' := by
  obtain ⟨b, o, rfl, x0, x1, x2⟩ := hA k hk
  obtain ⟨b', o', e', y0, y1, y2⟩ := hA m hm
  cases e'
  have ON := Lib.hid (fun V h => isOn_any (some ⟨b, o, none⟩) n c g m hm V (pa_below hA h))
  have k2 : (0 : Int) ≤ (k : Int) := by omega
  have k3 : (k : Int) < (n : Int) := by omega
  have m2 : (0 : Int) ≤ (m : Int) := by omega
  have m3 : (m : Int) < (n : Int) := by omega
  clear hA
  unfold endX endY endP
  generalize onB g m = u at *
  generalize g k = p at *
  generalize g m = q at *
  have P0 : ∀ V : World, Below w.heap.size w V → V.cell? ⟨b, o + k * 3, none⟩ = some (.int .i64 p.x) := fun V h => kc h x0
  have P1 : ∀ V : World, Below w.heap.size w V → V.cell? ⟨b, o + k * 3 + 1, none⟩ = some (.int .i64 p.y) := fun V h => kc h x1
  have P2 : ∀ V : World, Below w.heap.size w V → V.cell? ⟨b, o + k * 3 + 2, none⟩ = some (.bool p.o) := fun V h => kc h x2
  have Q0 : ∀ V : World, Below w.heap.size w V → V.cell? ⟨b, o + m * 3, none⟩ = some (.int .i64 q.x) := fun V h => kc h y0
  have Q1 : ∀ V : World, Below w.heap.size w V → V.cell? ⟨b, o + m * 3 + 1, none⟩ = some (.int .i64 q.y) := fun V h => kc h y1
  have Q2 : ∀ V : World, Below w.heap.size w V → V.cell? ⟨b, o + m * 3 + 2, none⟩ = some (.bool q.o) := fun V h => kc h y2
  go_enter Try.func77, Try.ntmps77
  go_wp2_with fail
  have hBW : Below w.heap.size w (w.alloc (.cells #[.int .i64 0, .int .i64 0] 39)) := ba (Below.refl _ _) _
  have z0 : (w.alloc (.cells #[.int .i64 0, .int .i64 0] 39)).cell? ⟨w.heap.size, 0, none⟩ = some (.int .i64 0) := by go_cell
  have z1 : (w.alloc (.cells #[.int .i64 0, .int .i64 0] 39)).cell? ⟨w.heap.size, 1, none⟩ = some (.int .i64 0) := by go_cell
  have z2 : (w.alloc (.cells #[.int .i64 0, .int .i64 0] 39)).frozen? ⟨w.heap.size, 0, none⟩ = false := by go_cell
  have z3 : (w.alloc (.cells #[.int .i64 0, .int .i64 0] 39)).frozen? ⟨w.heap.size, 1, none⟩ = false := by go_cell
  generalize w.alloc (.cells #[.int .i64 0, .int .i64 0] 39) = W at *
  have hsz : w.heap.size < W.heap.size := block_lt_of_cell z0
  clear x0 x1 x2 y0 y1 y2
  go_region_held3 (fun V => Below w.heap.size w V) (first
    | (with_reducible exact bd1 hBW)
    | (with_reducible exact bd1 (ba hBW _))
    | (with_reducible exact bd1 (ba (ba hBW _) _)))
    (fail)
  · have hVB : Below w.heap.size w (((W.alloc (.cells #[.int .i64 p.x, .int .i64 p.y, .bool p.o] 62)).alloc (.cells #[.int .i64 q.x, .int .i64 q.y, .bool q.o] 62)).drew) := bd1 (ba (ba hBW _) _)
    have x0 : (((W.alloc (.cells #[.int .i64 p.x, .int .i64 p.y, .bool p.o] 62)).alloc (.cells #[.int .i64 q.x, .int .i64 q.y, .bool q.o] 62)).drew).cell? ⟨W.heap.size, 0, none⟩ = some (.int .i64 p.x) := by go_cell
    have t0 : (((W.alloc (.cells #[.int .i64 p.x, .int .i64 p.y, .bool p.o] 62)).alloc (.cells #[.int .i64 q.x, .int .i64 q.y, .bool q.o] 62)).drew).frozen? ⟨W.heap.size, 0, none⟩ = false := by go_cell
    have x1 : (((W.alloc (.cells #[.int .i64 p.x, .int .i64 p.y, .bool p.o] 62)).alloc (.cells #[.int .i64 q.x, .int .i64 q.y, .bool q.o] 62)).drew).cell? ⟨W.heap.size, 1, none⟩ = some (.int .i64 p.y) := by go_cell
    have t1 : (((W.alloc (.cells #[.int .i64 p.x, .int .i64 p.y, .bool p.o] 62)).alloc (.cells #[.int .i64 q.x, .int .i64 q.y, .bool q.o] 62)).drew).frozen? ⟨W.heap.size, 1, none⟩ = false := by go_cell
    have x2 : (((W.alloc (.cells #[.int .i64 p.x, .int .i64 p.y, .bool p.o] 62)).alloc (.cells #[.int .i64 q.x, .int .i64 q.y, .bool q.o] 62)).drew).cell? ⟨W.heap.size, 2, none⟩ = some (.bool p.o) := by go_cell
    have t2 : (((W.alloc (.cells #[.int .i64 p.x, .int .i64 p.y, .bool p.o] 62)).alloc (.cells #[.int .i64 q.x, .int .i64 q.y, .bool q.o] 62)).drew).frozen? ⟨W.heap.size, 2, none⟩ = false := by go_cell
    have y0 : (((W.alloc (.cells #[.int .i64 p.x, .int .i64 p.y, .bool p.o] 62)).alloc (.cells #[.int .i64 q.x, .int .i64 q.y, .bool q.o] 62)).drew).cell? ⟨W.heap.size + 1, 0, none⟩ = some (.int .i64 q.x) := by go_cell
    have y1 : (((W.alloc (.cells #[.int .i64 p.x, .int .i64 p.y, .bool p.o] 62)).alloc (.cells #[.int .i64 q.x, .int .i64 q.y, .bool q.o] 62)).drew).cell? ⟨W.heap.size + 1, 1, none⟩ = some (.int .i64 q.y) := by go_cell
    have y2 : (((W.alloc (.cells #[.int .i64 p.x, .int .i64 p.y, .bool p.o] 62)).alloc (.cells #[.int .i64 q.x, .int .i64 q.y, .bool q.o] 62)).drew).cell? ⟨W.heap.size + 1, 2, none⟩ = some (.bool q.o) := by go_cell
    have u0 : (((W.alloc (.cells #[.int .i64 p.x, .int .i64 p.y, .bool p.o] 62)).alloc (.cells #[.int .i64 q.x, .int .i64 q.y, .bool q.o] 62)).drew).cell? ⟨w.heap.size, 0, none⟩ = some (.int .i64 0) := kc (bd1 (ba (ba (Below.refl _ W) _) _)) z0
    have v0 : (((W.alloc (.cells #[.int .i64 p.x, .int .i64 p.y, .bool p.o] 62)).alloc (.cells #[.int .i64 q.x, .int .i64 q.y, .bool q.o] 62)).drew).frozen? ⟨w.heap.size, 0, none⟩ = false := kf (bd1 (ba (ba (Below.refl _ W) _) _)) z0 z2
    have u1 : (((W.alloc (.cells #[.int .i64 p.x, .int .i64 p.y, .bool p.o] 62)).alloc (.cells #[.int .i64 q.x, .int .i64 q.y, .bool q.o] 62)).drew).cell? ⟨w.heap.size, 1, none⟩ = some (.int .i64 0) := kc (bd1 (ba (ba (Below.refl _ W) _) _)) z1
    have v1 : (((W.alloc (.cells #[.int .i64 p.x, .int .i64 p.y, .bool p.o] 62)).alloc (.cells #[.int .i64 q.x, .int .i64 q.y, .bool q.o] 62)).drew).frozen? ⟨w.heap.size, 1, none⟩ = false := kf (bd1 (ba (ba (Below.refl _ W) _) _)) z1 z3
    clear z0 z1 z2 z3 P0 P1 P2 Q0 Q1 Q2
    have n1 : ¬ w.heap.size = W.heap.size := by omega
    have n2 : ¬ w.heap.size = W.heap.size + 1 := by omega
    have n3 : ¬ W.heap.size = W.heap.size + 1 := by omega
    have n4 : ¬ W.heap.size = w.heap.size := by omega
    have n5 : ¬ W.heap.size + 1 = w.heap.size := by omega
    have n6 : ¬ W.heap.size + 1 = W.heap.size := by omega
    have s1 : w.heap.size ≤ W.heap.size := by omega
    have s2 : w.heap.size ≤ W.heap.size + 1 := by omega
    generalize ((W.alloc (.cells #[.int .i64 p.x, .int .i64 p.y, .bool p.o] 62)).alloc (.cells #[.int .i64 q.x, .int .i64 q.y, .bool q.o] 62)).drew = V at *
    clear hBW hsz
    generalize W.heap.size + 1 = c2 at *
    generalize W.heap.size = c1 at *
    go_wp2_with fail
    refine (ON.out _ hVB).mono ?_
    rintro e V1 ⟨rfl, rfl⟩
    rcases u with _ | _
    · go_wp2
      refine bodyPost_ret (v := .agg #[.int .i64 (wrap64 (p.x + q.x)), .int .i64 (wrap64 (p.y + q.y))]) (by simp [results, Try.results77, go_sem, *]) rfl ⟨rfl, ?_⟩
      exact bs (bs hVB (Nat.le_refl _) _) (Nat.le_refl _) _
    · go_wp2
      refine bodyPost_ret (v := .agg #[.int .i64 (wrap64 (q.x + q.x)), .int .i64 (wrap64 (q.y + q.y))]) (by simp [results, Try.results77, go_sem, *]) rfl ⟨rfl, ?_⟩
      exact bs (bs (bs (bs (bs hVB (by with_reducible assumption) _) (by with_reducible assumption) _) (by with_reducible assumption) _) (Nat.le_refl _) _) (Nat.le_refl _) _
  · have hVB : Below w.heap.size w (((W.alloc (.cells #[.int .i64 q.x, .int .i64 q.y, .bool q.o] 62)).alloc (.cells #[.int .i64 p.x, .int .i64 p.y, .bool p.o] 62)).drew) := bd1 (ba (ba hBW _) _)
    have x0 : (((W.alloc (.cells #[.int .i64 q.x, .int .i64 q.y, .bool q.o] 62)).alloc (.cells #[.int .i64 p.x, .int .i64 p.y, .bool p.o] 62)).drew).cell? ⟨W.heap.size + 1, 0, none⟩ = some (.int .i64 p.x) := by go_cell
    have t0 : (((W.alloc (.cells #[.int .i64 q.x, .int .i64 q.y, .bool q.o] 62)).alloc (.cells #[.int .i64 p.x, .int .i64 p.y, .bool p.o] 62)).drew).frozen? ⟨W.heap.size + 1, 0, none⟩ = false := by go_cell
    have x1 : (((W.alloc (.cells #[.int .i64 q.x, .int .i64 q.y, .bool q.o] 62)).alloc (.cells #[.int .i64 p.x, .int .i64 p.y, .bool p.o] 62)).drew).cell? ⟨W.heap.size + 1, 1, none⟩ = some (.int .i64 p.y) := by go_cell
    have t1 : (((W.alloc (.cells #[.int .i64 q.x, .int .i64 q.y, .bool q.o] 62)).alloc (.cells #[.int .i64 p.x, .int .i64 p.y, .bool p.o] 62)).drew).frozen? ⟨W.heap.size + 1, 1, none⟩ = false := by go_cell
    have x2 : (((W.alloc (.cells #[.int .i64 q.x, .int .i64 q.y, .bool q.o] 62)).alloc (.cells #[.int .i64 p.x, .int .i64 p.y, .bool p.o] 62)).drew).cell? ⟨W.heap.size + 1, 2, none⟩ = some (.bool p.o) := by go_cell
    have t2 : (((W.alloc (.cells #[.int .i64 q.x, .int .i64 q.y, .bool q.o] 62)).alloc (.cells #[.int .i64 p.x, .int .i64 p.y, .bool p.o] 62)).drew).frozen? ⟨W.heap.size + 1, 2, none⟩ = false := by go_cell
    have y0 : (((W.alloc (.cells #[.int .i64 q.x, .int .i64 q.y, .bool q.o] 62)).alloc (.cells #[.int .i64 p.x, .int .i64 p.y, .bool p.o] 62)).drew).cell? ⟨W.heap.size, 0, none⟩ = some (.int .i64 q.x) := by go_cell
    have y1 : (((W.alloc (.cells #[.int .i64 q.x, .int .i64 q.y, .bool q.o] 62)).alloc (.cells #[.int .i64 p.x, .int .i64 p.y, .bool p.o] 62)).drew).cell? ⟨W.heap.size, 1, none⟩ = some (.int .i64 q.y) := by go_cell
    have y2 : (((W.alloc (.cells #[.int .i64 q.x, .int .i64 q.y, .bool q.o] 62)).alloc (.cells #[.int .i64 p.x, .int .i64 p.y, .bool p.o] 62)).drew).cell? ⟨W.heap.size, 2, none⟩ = some (.bool q.o) := by go_cell
    have u0 : (((W.alloc (.cells #[.int .i64 q.x, .int .i64 q.y, .bool q.o] 62)).alloc (.cells #[.int .i64 p.x, .int .i64 p.y, .bool p.o] 62)).drew).cell? ⟨w.heap.size, 0, none⟩ = some (.int .i64 0) := kc (bd1 (ba (ba (Below.refl _ W) _) _)) z0
    have v0 : (((W.alloc (.cells #[.int .i64 q.x, .int .i64 q.y, .bool q.o] 62)).alloc (.cells #[.int .i64 p.x, .int .i64 p.y, .bool p.o] 62)).drew).frozen? ⟨w.heap.size, 0, none⟩ = false := kf (bd1 (ba (ba (Below.refl _ W) _) _)) z0 z2
    have u1 : (((W.alloc (.cells #[.int .i64 q.x, .int .i64 q.y, .bool q.o] 62)).alloc (.cells #[.int .i64 p.x, .int .i64 p.y, .bool p.o] 62)).drew).cell? ⟨w.heap.size, 1, none⟩ = some (.int .i64 0) := kc (bd1 (ba (ba (Below.refl _ W) _) _)) z1
    have v1 : (((W.alloc (.cells #[.int .i64 q.x, .int .i64 q.y, .bool q.o] 62)).alloc (.cells #[.int .i64 p.x, .int .i64 p.y, .bool p.o] 62)).drew).frozen? ⟨w.heap.size, 1, none⟩ = false := kf (bd1 (ba (ba (Below.refl _ W) _) _)) z1 z3
    clear z0 z1 z2 z3 P0 P1 P2 Q0 Q1 Q2
    have n1 : ¬ w.heap.size = W.heap.size := by omega
    have n2 : ¬ w.heap.size = W.heap.size + 1 := by omega
    have n3 : ¬ W.heap.size = W.heap.size + 1 := by omega
    have n4 : ¬ W.heap.size = w.heap.size := by omega
    have n5 : ¬ W.heap.size + 1 = w.heap.size := by omega
    have n6 : ¬ W.heap.size + 1 = W.heap.size := by omega
    have s1 : w.heap.size ≤ W.heap.size := by omega
    have s2 : w.heap.size ≤ W.heap.size + 1 := by omega
    generalize ((W.alloc (.cells #[.int .i64 q.x, .int .i64 q.y, .bool q.o] 62)).alloc (.cells #[.int .i64 p.x, .int .i64 p.y, .bool p.o] 62)).drew = V at *
    clear hBW hsz
    generalize W.heap.size + 1 = c2 at *
    generalize W.heap.size = c1 at *
    go_wp2_with fail
    refine (ON.out _ hVB).mono ?_
    rintro e V1 ⟨rfl, rfl⟩
    rcases u with _ | _
    · go_wp2
      refine bodyPost_ret (v := .agg #[.int .i64 (wrap64 (p.x + q.x)), .int .i64 (wrap64 (p.y + q.y))]) (by simp [results, Try.results77, go_sem, *]) rfl ⟨rfl, ?_⟩
      exact bs (bs hVB (Nat.le_refl _) _) (Nat.le_refl _) _
    · go_wp2
      refine bodyPost_ret (v := .agg #[.int .i64 (wrap64 (q.x + q.x)), .int .i64 (wrap64 (q.y + q.y))]) (by simp [results, Try.results77, go_sem, *]) rfl ⟨rfl, ?_⟩
      exact bs (bs (bs (bs (bs hVB (by with_reducible assumption) _) (by with_reducible assumption) _) (by with_reducible assumption) _) (Nat.le_refl _) _) (Nat.le_refl _) _
end Go.Proofs.Ytcogoomajfahkaa.Ot
