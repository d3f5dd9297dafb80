/-
  Layer 5 (axis): Made of the document's own, walked.
-/
import Derived.Test.YtmlkdfieakihlaaAxO
namespace Go.Proofs.Ytmlkdfieakihlaa.Ax
open Go.RowKit

/-- How many axes are made. -/
theorem lit5 (v : Nat) (h : (v : Int) < 5) : ∃ m : Nat, m ≤ 3 ∧ ∀ (W : World) (T : TypeId), (W.alloc (.cells #[.int .i64 0, .int .i64 1, .int .i64 1, .int .i64 2, .int .i64 3] T)).cell? ⟨W.heap.size, v, none⟩ = some (.int .i64 (m : Int)) := by
  have : v = 0 ∨ v = 1 ∨ v = 2 ∨ v = 3 ∨ v = 4 := by omega
  rcases this with rfl | rfl | rfl | rfl | rfl
  · exact ⟨0, by omega, fun W T => by show World.cell? _ _ = some (.int .i64 0); go_cell⟩
  · exact ⟨1, by omega, fun W T => by show World.cell? _ _ = some (.int .i64 1); go_cell⟩
  · exact ⟨1, by omega, fun W T => by show World.cell? _ _ = some (.int .i64 1); go_cell⟩
  · exact ⟨2, by omega, fun W T => by show World.cell? _ _ = some (.int .i64 2); go_cell⟩
  · exact ⟨3, by omega, fun W T => by show World.cell? _ _ = some (.int .i64 3); go_cell⟩
theorem lit4 (a b : Nat) (ha : (a : Int) < 64) (hb : (b : Int) < 300) (v : Nat) (h : (v : Int) < 4) : ∃ m : Nat, m ≤ 299 ∧ ∀ (W : World) (T : TypeId), (W.alloc (.cells #[.int .i64 0, .int .i64 (a : Int), .int .i64 (b : Int), .int .i64 64] T)).cell? ⟨W.heap.size, v, none⟩ = some (.int .i64 (m : Int)) := by
  have : v = 0 ∨ v = 1 ∨ v = 2 ∨ v = 3 := by omega
  rcases this with rfl | rfl | rfl | rfl
  · exact ⟨0, by omega, fun W T => by show World.cell? _ _ = some (.int .i64 0); go_cell⟩
  · exact ⟨a, by omega, fun W T => by go_cell⟩
  · exact ⟨b, by omega, fun W T => by go_cell⟩
  · exact ⟨64, by omega, fun W T => by show World.cell? _ _ = some (.int .i64 64); go_cell⟩
theorem lit3 (k : Nat) (h : k < 3) (W : World) (T : TypeId) : (W.alloc (.cells #[.string ⟨#[119, 103, 104, 116]⟩, .string ⟨#[119, 100, 116, 104]⟩, .string ⟨#[115]⟩] T)).cell? ⟨W.heap.size, k, none⟩ = some (.string (tagN k)) := by
  have : k = 0 ∨ k = 1 ∨ k = 2 := by omega
  rcases this with rfl | rfl | rfl
  · show World.cell? _ _ = some (.string ⟨#[119, 103, 104, 116]⟩); go_cell
  · show World.cell? _ _ = some (.string ⟨#[119, 100, 116, 104]⟩); go_cell
  · show World.cell? _ _ = some (.string ⟨#[115]⟩); go_cell
theorem lit3g (k : Nat) (h : k < 3) : ([.string ⟨#[119, 103, 104, 116]⟩, .string ⟨#[119, 100, 116, 104]⟩, .string ⟨#[115]⟩] : List Value)[k]'(by simpa using h) = .string (tagN k) := by
  have : k = 0 ∨ k = 1 ∨ k = 2 := by omega
  rcases this with rfl | rfl | rfl <;> rfl
theorem lit3q (k : Nat) (h : k < 3) : ([.string ⟨#[119, 103, 104, 116]⟩, .string ⟨#[119, 100, 116, 104]⟩, .string ⟨#[115]⟩] : List Value)[k]? = some (.string (tagN k)) := by
  have : k = 0 ∨ k = 1 ∨ k = 2 := by omega
  rcases this with rfl | rfl | rfl <;> rfl
def MdRel (w : World) (a : Option Addr) (L c : Nat) (l : Nat → Int) (m : Nat) (s4 s6 : Value) (V : World) : Prop :=
  ∃ (k : Nat) (xs : List Value) (g : Nat → Axs), s6 = .int .i64 (k : Int) ∧ k ≤ m ∧ MI w V 29 4 a L c l s4 k xs ∧ AL xs k g ∧ ∀ i, i < k → mdOk (g i) i
set_option maxRecDepth 100000 in
set_option maxHeartbeats 8000000 in
theorem Made_any (a : Option Addr) (L c : Nat) (l : Nat → Int) (hL : L ≤ 9223372036854775807) (hl : ∀ i, i < L → R64 (l i)) (w : World) (hA : LA w a L l) :
    Calls Try.prog 10 #[.slice a L c] w fun e w' => ∃ (a' : Option Addr) (k c' : Nat) (g : Nat → Axs), e = .returned (.slice a' k c') ∧ k ≤ 3 ∧ k ≤ c' ∧ c' ≤ 9223372036854775807 ∧ OA w' w.heap.size a' k g ∧ (∀ i, i < k → mdOk (g i) i) ∧ Below w.heap.size w w' := by
  have hne : ∀ q, a = some q → 0 < L → q.block ≠ w.heap.size := by
    intro q hq h0
    obtain ⟨b, o, e, hc⟩ := hA 0 h0
    rw [hq] at e
    cases e
    have := block_lt_of_cell hc
    simp only at this ⊢
    omega
  have NX : Hid (∀ (n : Int), 1 ≤ n → n ≤ 1000000 → ∀ V, DW V w.heap.size a L c l → _) := Lib.hid (fun n h1 h2 V h => Next_w w.heap.size a L c l n ⟨h1, h2⟩ hL hl hne V h)
  have N5 := Lib.hid (NX.out 5 (by omega) (by omega))
  have N4 := Lib.hid (NX.out 4 (by omega) (by omega))
  have N64 := Lib.hid (NX.out 64 (by omega) (by omega))
  have N300 := Lib.hid (NX.out 300 (by omega) (by omega))
  have N400 := Lib.hid (NX.out 400 (by omega) (by omega))
  have KI := Lib.hid (info_parts infoA)
  have hM := mi_start w 29 4 a L c l hA 58
  have HA := Lib.hid hA
  clear hA NX hne hL hl
  go_enter Try.func10, Try.ntmps10
  go_wp2_with fail
  refine (N5.out _ (mi_alloc hM _).dw).mono ?_
  rintro e V1 ⟨v5, rfl, hv5, hd, hg⟩
  obtain ⟨m, hm, hc5⟩ := lit5 v5 hv5
  have hc := gc hg (hc5 (w.alloc (.cells #[.slice a L c, .int .i64 0] 58)) 3) (by simp)
  replace hM := mi_next (mi_alloc hM _) hd hg
  simp only [World.size_alloc] at hc
  clear hd hg hc5
  go_wp2_with fail
  go_loopw [4, 6] (fun s4 s6 V => MdRel w a L c l m s4 s6 V) (fun _ s6 _ => m - (intOf s6).toNat)
  case atStart => exact ⟨0, [], fun _ => ⟨⟨#[]⟩, 0, 0, 0⟩, rfl, by omega, hM, fun i hi => absurd hi (by omega), fun i hi => absurd hi (by omega)⟩
  case round =>
    clear hM hc
    obtain ⟨k, xs, g, rfl, hk, hM, hx, hok⟩ := hrel
    rename World => V
    rcases Nat.lt_or_ge k m with hkm | hkm
    · go_wp2_with fail
      refine (N400.out _ hM.dw).mono ?_
      rintro e V2 ⟨lo, rfl, hlo, hd, hg⟩
      replace hM := mi_next hM hd hg
      clear hd hg
      go_wp2_with fail
      refine (N64.out _ hM.dw).mono ?_
      rintro e V3 ⟨p1, rfl, hp1, hd, hg⟩
      replace hM := mi_next hM hd hg
      clear hd hg
      go_wp2_with fail
      refine (N300.out _ hM.dw).mono ?_
      rintro e V4 ⟨p2, rfl, hp2, hd, hg⟩
      replace hM := mi_next hM hd hg
      clear hd hg
      go_wp2_with fail
      refine (N4.out _ (mi_alloc hM _).dw).mono ?_
      rintro e V5 ⟨p3, rfl, hp3, hd, hg⟩
      have hlt := mi_lt hM
      obtain ⟨y, hy, hcy⟩ := lit4 p1 p2 hp1 hp2 p3 hp3
      have hc := gc hg (hcy V4 3) (by omega)
      replace hM := mi_next (mi_alloc hM _) hd hg
      clear hd hg hcy hlt
      have k4 : (0 : Int) ≤ (p3 : Int) := by omega
      have q1 : wrap64 ((lo : Int) - 100) = (lo : Int) - 100 := w64 (by omega)
      have q2 : wrap64 ((lo : Int) - 100 + (y : Int)) = (lo : Int) - 100 + (y : Int) := w64 (by omega)
      go_wp2_with fail
      refine (N64.out _ hM.dw).mono ?_
      rintro e V6 ⟨p4, rfl, hp4, hd, hg⟩
      replace hM := mi_next hM hd hg
      clear hd hg hc
      go_wp2_with fail
      refine (N300.out _ hM.dw).mono ?_
      rintro e V7 ⟨p5, rfl, hp5, hd, hg⟩
      replace hM := mi_next hM hd hg
      clear hd hg
      go_wp2_with fail
      refine (N4.out _ (mi_alloc hM _).dw).mono ?_
      rintro e V8 ⟨p6, rfl, hp6, hd, hg⟩
      have hlt := mi_lt hM
      obtain ⟨z, hz, hcz⟩ := lit4 p4 p5 hp4 hp5 p6 hp6
      have hc := gc hg (hcz V7 3) (by omega)
      replace hM := mi_next (mi_alloc hM _) hd hg
      clear hd hg hcz hlt
      have k6 : (0 : Int) ≤ (p6 : Int) := by omega
      have q3 : wrap64 ((lo : Int) - 100 + (y : Int) + (z : Int)) = (lo : Int) - 100 + (y : Int) + (z : Int) := w64 (by omega)
      have k7 : (0 : Int) ≤ (k : Int) := by omega
      have k8 : (k : Int) < 3 := by omega
      have h3 := lit3g k (by omega)
      have h3q := lit3q k (by omega)
      have hlt := mi_lt hM
      obtain ⟨i0, ki1, ki2, ki3, ki4⟩ := KI.out
      have hbe : w.heap.size + 1 ≤ V8.heap.size := hlt
      have hM2 := mi_alloc (mi_alloc hM (.cells #[.string ⟨#[119, 103, 104, 116]⟩, .string ⟨#[119, 100, 116, 104]⟩, .string ⟨#[115]⟩] 9)) (.cells #[.string (tagN k), .int .i64 ((lo : Int) - 100), .int .i64 ((lo : Int) - 100 + (y : Int)), .int .i64 ((lo : Int) - 100 + (y : Int) + (z : Int))] 29)
      have NW := news_ax (V8.alloc (.cells #[.string ⟨#[119, 103, 104, 116]⟩, .string ⟨#[119, 100, 116, 104]⟩, .string ⟨#[115]⟩] 9)) ⟨tagN k, (lo : Int) - 100, (lo : Int) - 100 + (y : Int), (lo : Int) - 100 + (y : Int) + (z : Int)⟩ 29
      simp only [World.size_alloc] at NW
      have hlen := hM.ow.1
      have R : Hid (∀ (v' : Value) (V' : World), V'.ownsRow (w.heap.size + 1) 29 4 v' (k + 1) (xs ++ [.string (tagN k), .int .i64 ((lo : Int) - 100), .int .i64 ((lo : Int) - 100 + (y : Int)), .int .i64 ((lo : Int) - 100 + (y : Int) + (z : Int))]) → _ → MdRel w a L c l m v' (.int .i64 ((k : Int) + 1)) V') :=
        Lib.hid (fun v' V' h1 h2 => ⟨k + 1, _, _, rfl, by omega, mi_app hM2 HA.out h1 h2, al_next hx hlen ⟨tagN k, (lo : Int) - 100, (lo : Int) - 100 + (y : Int), (lo : Int) - 100 + (y : Int) + (z : Int)⟩, fun i hi => by
          by_cases e : i = k
          · subst e
            simp only [if_true]
            exact ⟨rfl, by simp only; omega, by simp only; omega, by simp only; omega, by simp only; omega⟩
          · simp only [if_neg e]
            exact hok i (by omega)⟩)
      go_wp2_with (at_builtin; refine wpList_append_lies _ rfl _ _ 23 rfl (w.heap.size + 1) 29 i0 _ 4 40 Try.underlying23 ki1 ki2 ki3 ki4 rfl (by decide) _ k _ rfl hM2.ow ⟨V8.heap.size + 1, 0, none⟩ 1 1 _ rfl rfl NW (by intro u hu; simp at hu; rcases hu with rfl | rfl | rfl | rfl <;> rfl) (by omega) (by unfold maxLen; omega) (by omega) (by simp; omega) _ rfl ?_; intro g' cap' w9 hown9 hgrow9 hat9 hlt9)
      have R9 := Lib.hid (R.out _ _ hown9 hgrow9)
      clear R hok hx hM2 hM
      go_wp2_with fail
      exact ⟨R9.out, by simp [intOf]; omega⟩
    · obtain rfl : k = m := by omega
      obtain ⟨a', c', rfl, h1, h2, h3⟩ := own_oa hM.ow hx (by omega)
      have hbe := hM.be
      clear hM hx
      go_wp2
      go_ret
      exact ⟨a', k, c', g, rfl, hm, h1, h2, h3, hok, hbe⟩
end Go.Proofs.Ytmlkdfieakihlaa.Ax
