/-
  Layer 9 (machine): the deferred function of Run.
-/
import Derived.Test.YtdgagjcocohnnaaMcL
import Derived.Defers
import Derived.Recover
namespace Go.Proofs.Ytdgagjcocohnnaa.Mc
open Go.RowKit
set_option maxRecDepth 100000 in
set_option maxHeartbeats 4000000 in
theorem catch_idle (p q r : Addr) (w : World) :
    CallsD Try.prog 24 #[.pointer (some p), .pointer (some q), .pointer (some r)] .returning w fun e u' w' => e = .returned (.tuple #[]) ∧ u' = .returning ∧ w' = w := by
  have hnil : ∀ w : World, (binOp BinOp.neq 20 .nilIface .nilIface).run Try.prog w = .ok (.bool false) w := fun _ => by kernel_rfl
  refine callsD_of_wpS Try.func24 rfl fun c₀ cs hu => ?_
  apply wpS_seq
  apply wpS_region
  simp [wpOpsS, go_sem, recoverD, hu, Try.ntmps24, Exit.thenS]
  apply wpS_seq
  apply wpS_region
  simp [wpOpsS, go_sem, Exit.thenS]
  refine wpS_cond (t := false) (by simp [Act.eval, Array.replicate]) ?_
  simp only [Bool.false_eq_true, if_false]
  refine wpS_of_wp (wp_skip ?_)
  cases c₀
  simp_all [bodyPostS, results, Try.results24]
set_option maxRecDepth 100000 in
set_option maxHeartbeats 4000000 in
theorem catch_panicking (b : Nat) (x0 x1 x2 : Value) (E : Int) (older : List PanicEntry) (w : World) (h0 : w.cell? ⟨b, 0, none⟩ = some x0) (f0 : w.frozen? ⟨b, 0, none⟩ = false) (h1 : w.cell? ⟨b + 1, 0, none⟩ = some x1) (f1 : w.frozen? ⟨b + 1, 0, none⟩ = false) (h2 : w.cell? ⟨b + 1 + 1, 0, none⟩ = some x2) (f2 : w.frozen? ⟨b + 1 + 1, 0, none⟩ = false) :
    CallsD Try.prog 24 #[.pointer (some ⟨b, 0, none⟩), .pointer (some ⟨b + 1, 0, none⟩), .pointer (some ⟨b + 1 + 1, 0, none⟩)] (.panicking ({ v := .iface 36 (.int .i64 E), recovered := false } :: older)) w fun e u' w' =>
      e = .returned (.tuple #[]) ∧ u' = .panicking ({ v := .iface 36 (.int .i64 E), recovered := true } :: older) ∧ w' = (((w.setCell ⟨b, 0, none⟩ (.slice none 0 0)).setCell ⟨b + 1, 0, none⟩ (.int .i64 0)).setCell ⟨b + 1 + 1, 0, none⟩ (.int .i64 E)).drew := by
  refine callsD_of_wpS Try.func24 rfl fun c₀ cs hu => ?_
  apply wpS_seq
  apply wpS_region
  simp [wpOpsS, go_sem, recoverD, hu, Try.ntmps24, Exit.thenS]
  apply wpS_seq
  apply wpS_region
  simp [wpOpsS, go_sem, Exit.thenS]
  refine wpS_cond (t := true) (by simp [Act.eval, Array.replicate]) ?_
  simp only [if_true]
  refine wpS_of_wp ?_
  have hta : ∀ W : World, (Instr.typeAssert (.iface 36 (.int .i64 E)) 20 36 false).run Try.prog W = .ok (.int .i64 E) W := fun W => by simp [Instr.typeAssert, run_underlying Try.underlying36, go_sem, Result.andThen]
  have s1 : (w.setCell ⟨b, 0, none⟩ (.slice none 0 0)).cell? ⟨b + 1, 0, none⟩ = some x1 := by go_cell
  have s2 : (w.setCell ⟨b, 0, none⟩ (.slice none 0 0)).frozen? ⟨b + 1, 0, none⟩ = false := by go_cell
  have s3 : ((w.setCell ⟨b, 0, none⟩ (.slice none 0 0)).setCell ⟨b + 1, 0, none⟩ (.int .i64 0)).cell? ⟨b + 1 + 1, 0, none⟩ = some x2 := by go_cell
  have s4 : ((w.setCell ⟨b, 0, none⟩ (.slice none 0 0)).setCell ⟨b + 1, 0, none⟩ (.int .i64 0)).frozen? ⟨b + 1 + 1, 0, none⟩ = false := by go_cell
  have hp : ∀ x, bodyPostS Try.prog Try.f24 c₀ cs
        (fun e u' w' =>
          e = Ending.returned (Value.tuple #[]) ∧
            u' = FrameMode.panicking ({ v := Value.iface 36 (Value.int IntKind.i64 E), recovered := true } :: older) ∧
              w' =
                (((w.setCell { block := b, off := 0 } (Value.slice none 0 0)).setCell { block := b + 1, off := 0 }
                        (Value.int IntKind.i64 0)).setCell
                    { block := b + 1 + 1, off := 0 } (Value.int IntKind.i64 E)).drew)
        Exit.normal { tmps := x, defers := [] }
        ({ fn := c₀.fn, tmps := c₀.tmps, todo := c₀.todo, defers := c₀.defers,
            mode := FrameMode.panicking ({ v := Value.iface 36 (Value.int IntKind.i64 E), recovered := true } :: older),
            kind := c₀.kind, roundOf := c₀.roundOf } ::
          cs) (((w.setCell { block := b, off := 0 } (Value.slice none 0 0)).setCell { block := b + 1, off := 0 }
                        (Value.int IntKind.i64 0)).setCell
                    { block := b + 1 + 1, off := 0 } (Value.int IntKind.i64 E)).drew := by
    intro x
    simp [bodyPostS, results, Try.results24]
  simp only [Array.replicate, List.replicate, List.setIfInBounds_toArray, List.set_cons_zero, List.set_cons_succ, List.append_toArray, List.cons_append, List.nil_append]
  go_region
  all_goals exact hp _
end Go.Proofs.Ytdgagjcocohnnaa.Mc
