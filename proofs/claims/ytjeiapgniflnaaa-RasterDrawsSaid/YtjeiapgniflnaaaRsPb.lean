/-
  Layer 7 (raster): the chapter's examples, the calls.
-/
import Derived.Test.YtjeiapgniflnaaaRsPa
namespace Go.Proofs.Ytjeiapgniflnaaa.Rs
open Go.RowKit
open Go.Proofs.Ytjeiapgniflnaaa.Ot
open Go.Proofs.Ytjeiapgniflnaaa.Bm (tx DA)
theorem poly_of (b m : Nat) (f : Nat → Int) (hm : m ≤ 1000) (w : World) (hA : ∀ i, i < 2 * m → w.cell? ⟨b, i, none⟩ = some (.int .i64 (f i))) :
    Calls Try.prog 22 #[.slice (some ⟨b, 0, none⟩) (2 * m) (2 * m)] w fun e w' => ∃ a c, e = .returned (.slice a m c) ∧ m ≤ c ∧ c ≤ 9223372036854775807 ∧ PA w' a m (pgP f) ∧ Below w.heap.size w w' := by
  refine (polygon_own b (2 * m) m f hm w hA).mono ?_
  rintro e w' ⟨v, rfl, hown, hB⟩
  rw [← pgL_len f m] at hown
  obtain ⟨a, c, b2, rfl, h1, h2, h3, h4, h5⟩ := own_po (l := pgL f m) (by rw [pgL_len] at hown ⊢; exact hown)
  rw [pgL_len] at h1 h3 h4
  refine ⟨a, c, by rw [pgL_len], h1, h2, fun i hi => ?_, hB⟩
  have hp : PtAt w' b2 (i * 3) ((pgL f m).getD i p0) := (h3 i hi).1
  rw [pgL_at f hi] at hp
  exact ⟨b2, 0, h4 (by omega), by rw [Nat.zero_add]; exact hp⟩
theorem lit_sq (W : World) (T : TypeId) : ∀ i, i < 2 * 4 → (W.alloc (.cells #[.int .i64 0, .int .i64 0, .int .i64 8, .int .i64 0, .int .i64 8, .int .i64 8, .int .i64 0, .int .i64 8] T)).cell? ⟨W.heap.size, i, none⟩ = some (.int .i64 (sqF i)) := by
  intro i hi
  have : i = 0 ∨ i = 1 ∨ i = 2 ∨ i = 3 ∨ i = 4 ∨ i = 5 ∨ i = 6 ∨ i = 7 := by omega
  rcases this with rfl | rfl | rfl | rfl | rfl | rfl | rfl | rfl
  · show _ = some (Value.int IntKind.i64 0); go_cell
  · show _ = some (Value.int IntKind.i64 0); go_cell
  · show _ = some (Value.int IntKind.i64 8); go_cell
  · show _ = some (Value.int IntKind.i64 0); go_cell
  · show _ = some (Value.int IntKind.i64 8); go_cell
  · show _ = some (Value.int IntKind.i64 8); go_cell
  · show _ = some (Value.int IntKind.i64 0); go_cell
  · show _ = some (Value.int IntKind.i64 8); go_cell
theorem lit_bk (W : World) (T : TypeId) : ∀ i, i < 2 * 4 → (W.alloc (.cells #[.int .i64 0, .int .i64 8, .int .i64 8, .int .i64 8, .int .i64 8, .int .i64 0, .int .i64 0, .int .i64 0] T)).cell? ⟨W.heap.size, i, none⟩ = some (.int .i64 (bkF i)) := by
  intro i hi
  have : i = 0 ∨ i = 1 ∨ i = 2 ∨ i = 3 ∨ i = 4 ∨ i = 5 ∨ i = 6 ∨ i = 7 := by omega
  rcases this with rfl | rfl | rfl | rfl | rfl | rfl | rfl | rfl
  · show _ = some (Value.int IntKind.i64 0); go_cell
  · show _ = some (Value.int IntKind.i64 8); go_cell
  · show _ = some (Value.int IntKind.i64 8); go_cell
  · show _ = some (Value.int IntKind.i64 8); go_cell
  · show _ = some (Value.int IntKind.i64 8); go_cell
  · show _ = some (Value.int IntKind.i64 0); go_cell
  · show _ = some (Value.int IntKind.i64 0); go_cell
  · show _ = some (Value.int IntKind.i64 0); go_cell
theorem lit_tr (W : World) (T : TypeId) : ∀ i, i < 2 * 3 → (W.alloc (.cells #[.int .i64 0, .int .i64 0, .int .i64 16, .int .i64 0, .int .i64 0, .int .i64 16] T)).cell? ⟨W.heap.size, i, none⟩ = some (.int .i64 (trF i)) := by
  intro i hi
  have : i = 0 ∨ i = 1 ∨ i = 2 ∨ i = 3 ∨ i = 4 ∨ i = 5 := by omega
  rcases this with rfl | rfl | rfl | rfl | rfl | rfl
  · show _ = some (Value.int IntKind.i64 0); go_cell
  · show _ = some (Value.int IntKind.i64 0); go_cell
  · show _ = some (Value.int IntKind.i64 16); go_cell
  · show _ = some (Value.int IntKind.i64 0); go_cell
  · show _ = some (Value.int IntKind.i64 0); go_cell
  · show _ = some (Value.int IntKind.i64 16); go_cell
theorem poly_sq (W : World) (T : TypeId) (b : Nat) (hb : W.heap.size = b) :
    Calls Try.prog 22 #[.slice (some ⟨b, 0, none⟩) 8 8] (W.alloc (.cells #[.int .i64 0, .int .i64 0, .int .i64 8, .int .i64 0, .int .i64 8, .int .i64 8, .int .i64 0, .int .i64 8] T)) fun e w' => ∃ a c, e = .returned (.slice a 4 c) ∧ 4 ≤ c ∧ c ≤ 9223372036854775807 ∧ PA w' a 4 (pgP sqF) ∧ Below W.heap.size W w' :=
  hb ▸ (poly_of W.heap.size 4 sqF (by omega) _ (lit_sq W T)).mono (fun e w' ⟨a, c, h1, h2, h3, h4, h5⟩ => ⟨a, c, h1, h2, h3, h4, bt (ba (Below.refl _ _) _) h5⟩)
theorem poly_bk (W : World) (T : TypeId) (b : Nat) (hb : W.heap.size = b) :
    Calls Try.prog 22 #[.slice (some ⟨b, 0, none⟩) 8 8] (W.alloc (.cells #[.int .i64 0, .int .i64 8, .int .i64 8, .int .i64 8, .int .i64 8, .int .i64 0, .int .i64 0, .int .i64 0] T)) fun e w' => ∃ a c, e = .returned (.slice a 4 c) ∧ 4 ≤ c ∧ c ≤ 9223372036854775807 ∧ PA w' a 4 (pgP bkF) ∧ Below W.heap.size W w' :=
  hb ▸ (poly_of W.heap.size 4 bkF (by omega) _ (lit_bk W T)).mono (fun e w' ⟨a, c, h1, h2, h3, h4, h5⟩ => ⟨a, c, h1, h2, h3, h4, bt (ba (Below.refl _ _) _) h5⟩)
theorem poly_tr (W : World) (T : TypeId) (b : Nat) (hb : W.heap.size = b) :
    Calls Try.prog 22 #[.slice (some ⟨b, 0, none⟩) 6 6] (W.alloc (.cells #[.int .i64 0, .int .i64 0, .int .i64 16, .int .i64 0, .int .i64 0, .int .i64 16] T)) fun e w' => ∃ a c, e = .returned (.slice a 3 c) ∧ 3 ≤ c ∧ c ≤ 9223372036854775807 ∧ PA w' a 3 (pgP trF) ∧ Below W.heap.size W w' :=
  hb ▸ (poly_of W.heap.size 3 trF (by omega) _ (lit_tr W T)).mono (fun e w' ⟨a, c, h1, h2, h3, h4, h5⟩ => ⟨a, c, h1, h2, h3, h4, bt (ba (Below.refl _ _) _) h5⟩)
theorem pa_grown {V V' : World} {row : Option Nat} {a : Option Addr} {n : Nat} {g : Nat → Pt} (h : PA V a n g) (hG : V.grownBy V' row) (hn : ∀ b o, a = some ⟨b, o, none⟩ → row ≠ some b) : PA V' a n g := fun i hi => by
  obtain ⟨b, o, e, h1, h2, h3⟩ := h i hi
  exact ⟨b, o, e, far hG (hn b o e) h1, far hG (hn b o e) h2, far hG (hn b o e) h3⟩
/-- The square: a row S of one list of points. -/
structure SqAt (V : World) (S : Nat) (a : Option Addr) (c : Nat) (f : Nat → Int) (m : Nat) : Prop where
  c0 : V.cell? ⟨S, 0, none⟩ = some (.slice a m c)
  h1 : m ≤ c
  h2 : c ≤ 9223372036854775807
  p : PA V a m (pgP f)
theorem SqAt.below {V V' : World} {S : Nat} {a : Option Addr} {c m : Nat} {f : Nat → Int} (h : SqAt V S a c f m) (hB : Below V.heap.size V V') : SqAt V' S a c f m := ⟨kc hB h.c0, h.h1, h.h2, pa_below h.p hB⟩
theorem SqAt.ot {V : World} {S : Nat} {a : Option Addr} {c m : Nat} {f : Nat → Int} (h : SqAt V S a c f m) : OT V (some ⟨S, 0, none⟩) 1 (fun _ => m) (fun _ => pgP f) := ot_lit h.c0 h.h1 h.h2 h.p
theorem sq_new {V : World} {a : Option Addr} {c m : Nat} {f : Nat → Int} (T : TypeId) (h1 : m ≤ c) (h2 : c ≤ 9223372036854775807) (hp : PA V a m (pgP f)) : SqAt (V.alloc (.cells #[.slice a m c] T)) V.heap.size a c f m :=
  ⟨by go_cell, h1, h2, pa_below hp (ba (Below.refl _ _) _)⟩
theorem W_sq {V : World} {S : Nat} {a : Option Addr} {c : Nat} {f : Nat → Int} (h : SqAt V S a c f 4) (x y r : Int) (hr : wdg 1 four (fun _ => pgP f) x y = r) : Calls Try.prog 13 #[.slice (some ⟨S, 0, none⟩) 1 1, .int .i64 x, .int .i64 y] V fun e w' => e = .returned (.int .i64 r) ∧ Below V.heap.size V w' := by
  rw [← hr]
  exact Winding_any _ 1 1 four _ x y (by omega) (by decide) V h.ot
theorem C_sq {V : World} {S : Nat} {a : Option Addr} {c : Nat} {f : Nat → Int} (h : SqAt V S a c f 4) (u x y : Int) (r : Nat) (hr : cvr 1 four (fun _ => pgP f) u x y = r) : Calls Try.prog 15 #[.slice (some ⟨S, 0, none⟩) 1 1, .int .i64 u, .int .i64 x, .int .i64 y] V fun e w' => e = .returned (.int .i64 (r : Int)) ∧ Below V.heap.size V w' := by
  rw [← hr]
  exact Cover_any _ 1 1 four _ u x y (by omega) (by decide) V h.ot
theorem D_sq {V : World} {S : Nat} {a : Option Addr} {c : Nat} (h : SqAt V S a c sqF 4) (u : Int) (W n : Nat) (hu : isU u = true) (hW : (W : Int) = 8 / u - 0 / u + 1) (hW9 : W ≤ 96) (h0 : (0 : Int) / u = 0) (hn : n = W * W) : Calls Try.prog 17 #[.slice (some ⟨S, 0, none⟩) 1 1, .int .i64 u] V fun e w' => ∃ sa, e = .returned (.tuple #[.agg #[.int .i64 0, .int .i64 0, .int .i64 (W : Int), .int .i64 (W : Int), .slice sa n n], .int .i64 0]) ∧ DA w' sa n (dotF 1 four sqG u 0 0 W) ∧ Below V.heap.size V w' := by
  have := Dots_yes _ 1 1 four sqG u hu x4.2.2.2.2.1 (by decide) ⟨0, 0, 8, 8⟩ x5.1 W W n hn hW hW hW9 hW9 (by omega) (by decide) V h.ot
  simp only [h0] at this
  exact this
theorem D_tr {V : World} {S : Nat} {a : Option Addr} {c : Nat} (h : SqAt V S a c trF 3) : Calls Try.prog 17 #[.slice (some ⟨S, 0, none⟩) 1 1, .int .i64 8] V fun e w' => ∃ sa, e = .returned (.tuple #[.agg #[.int .i64 0, .int .i64 0, .int .i64 3, .int .i64 3, .slice sa 9 9], .int .i64 0]) ∧ DA w' sa 9 (dotF 1 three trG 8 0 0 3) ∧ Below V.heap.size V w' :=
  Dots_yes _ 1 1 three trG 8 x4.2.2.1 x4.2.2.2.2.2.1 (by decide) ⟨0, 0, 16, 16⟩ x5.2 3 3 9 rfl rfl rfl (by omega) (by omega) (by omega) (by decide) V h.ot
theorem D_nil (V : World) : Calls Try.prog 17 #[.slice none 0 0, .int .i64 4] V fun e w' => ∃ sa, e = .returned (.tuple #[.agg #[.int .i64 0, .int .i64 0, .int .i64 0, .int .i64 0, .slice sa 0 0], .int .i64 0]) ∧ Below V.heap.size V w' :=
  Dots_none none 0 0 four sqG 4 x4.1 rfl rfl (by omega) V (fun k hk => absurd hk (by omega))
theorem D_bad (V : World) : Calls Try.prog 17 #[.slice none 0 0, .int .i64 0] V fun e w' => e = .returned (.tuple #[.agg #[.int .i64 0, .int .i64 0, .int .i64 0, .int .i64 0, .slice none 0 0], .int .i64 1]) ∧ Below V.heap.size V w' :=
  Dots_unit none 0 0 0 x4.2.2.2.1 V
theorem pa_lt {V : World} {a : Option Addr} {n : Nat} {g : Nat → Pt} (h : PA V a n g) (hn : 0 < n) : ∀ b o, a = some ⟨b, o, none⟩ → b < V.heap.size := fun b o e => by
  obtain ⟨b', o', e', h1, _⟩ := h 0 hn
  rw [e] at e'
  cases e'
  exact block_lt_of_cell h1
theorem news_cell {V : World} {S : Nat} {v : Value} (h : V.cell? ⟨S, 0, none⟩ = some v) : ∀ j u, ([v] : List Value)[j]? = some u → V.cell? ((⟨S, 0, none⟩ : Addr).add j) = some u := by
  intro j u hu
  match j with
  | 0 =>
    simp at hu
    subst hu
    exact h
  | j + 1 => simp at hu
theorem SqAt.grown {V V' : World} {S r : Nat} {a : Option Addr} {c m : Nat} {f : Nat → Int} (h : SqAt V S a c f m) (hG : V.grownBy V' (some r)) (h1 : r ≠ S) (h2 : ∀ b o, a = some ⟨b, o, none⟩ → r ≠ b) : SqAt V' S a c f m :=
  ⟨far hG (fun e => h1 (by simpa using e)) h.c0, h.h1, h.h2, pa_grown h.p hG (fun b o e hq => h2 b o e (by simpa using hq))⟩
theorem ot_two {V : World} {S c1 c2 : Nat} {a1 a2 : Option Addr} (h0 : V.cell? ⟨S, 0, none⟩ = some (.slice a1 4 c1)) (h1 : V.cell? ⟨S, 1, none⟩ = some (.slice a2 4 c2)) (k1 : 4 ≤ c1) (k2 : 4 ≤ c2) (k3 : c1 ≤ 9223372036854775807) (k4 : c2 ≤ 9223372036854775807) (p1 : PA V a1 4 (pgP bkF)) (p2 : PA V a2 4 (pgP sqF)) : OT V (some ⟨S, 0, none⟩) 2 four bsG := fun k hk => by
  have : k = 0 ∨ k = 1 := by omega
  rcases this with rfl | rfl
  · exact ⟨S, 0, a1, c1, rfl, h0, k1, k3, p1⟩
  · exact ⟨S, 0, a2, c2, rfl, h1, k2, k4, p2⟩
theorem W_two {V : World} {S c : Nat} (h : OT V (some ⟨S, 0, none⟩) 2 four bsG) : Calls Try.prog 13 #[.slice (some ⟨S, 0, none⟩) 2 c, .int .i64 4, .int .i64 4] V fun e w' => e = .returned (.int .i64 0) ∧ Below V.heap.size V w' := by
  have := Winding_any (some ⟨S, 0, none⟩) 2 c four bsG 4 4 (by omega) (by decide) V h
  rw [x2.2.1] at this
  exact this
def PcAt (V : World) (b : Nat) (Le Lo W H : Int) (sa : Option Addr) (n : Nat) : Prop := V.cell? ⟨b, 0, none⟩ = some (.int .i64 Le) ∧ V.cell? ⟨b, 1, none⟩ = some (.int .i64 Lo) ∧ V.cell? ⟨b, 2, none⟩ = some (.int .i64 W) ∧ V.cell? ⟨b, 3, none⟩ = some (.int .i64 H) ∧ V.cell? ⟨b, 4, none⟩ = some (.slice sa n n)
theorem pc_below {V V' : World} {b : Nat} {Le Lo W H : Int} {sa : Option Addr} {n : Nat} (h : PcAt V b Le Lo W H sa n) (hB : Below V.heap.size V V') : PcAt V' b Le Lo W H sa n :=
  ⟨kc hB h.1, kc hB h.2.1, kc hB h.2.2.1, kc hB h.2.2.2.1, kc hB h.2.2.2.2⟩
def pcO (Le Lo W H : Int) (sa : Option Addr) (n : Nat) : Obj := .cells #[.int .i64 Le, .int .i64 Lo, .int .i64 W, .int .i64 H, .slice sa n n] 40
theorem pc_new (V : World) (Le Lo W H : Int) (sa : Option Addr) (n : Nat) : PcAt (V.alloc (pcO Le Lo W H sa n)) V.heap.size Le Lo W H sa n := by
  unfold pcO
  exact ⟨by go_cell, by go_cell, by go_cell, by go_cell, by go_cell⟩
theorem D_4 {V : World} {S : Nat} {a : Option Addr} {c : Nat} (h : SqAt V S a c sqF 4) : Calls Try.prog 17 #[.slice (some ⟨S, 0, none⟩) 1 1, .int .i64 4] V fun e w' => ∃ sa, e = .returned (.tuple #[.agg #[.int .i64 0, .int .i64 0, .int .i64 3, .int .i64 3, .slice sa 9 9], .int .i64 0]) ∧ DA w' sa 9 (dotF 1 four sqG 4 0 0 3) ∧ Below V.heap.size V w' :=
  D_sq h 4 3 9 x4.1 rfl (by omega) rfl rfl
theorem D_16 {V : World} {S : Nat} {a : Option Addr} {c : Nat} (h : SqAt V S a c sqF 4) : Calls Try.prog 17 #[.slice (some ⟨S, 0, none⟩) 1 1, .int .i64 16] V fun e w' => ∃ sa, e = .returned (.tuple #[.agg #[.int .i64 0, .int .i64 0, .int .i64 1, .int .i64 1, .slice sa 1 1], .int .i64 0]) ∧ DA w' sa 1 (dotF 1 four sqG 16 0 0 1) ∧ Below V.heap.size V w' :=
  D_sq h 16 1 1 x4.2.1 rfl (by omega) rfl rfl
theorem T_4 {V : World} {sa : Option Addr} (h : DA V sa 9 (dotF 1 four sqG 4 0 0 3)) : Calls Try.prog 24 #[.agg #[.int .i64 0, .int .i64 0, .int .i64 3, .int .i64 3, .slice sa 9 9], .int .i64 0, .int .i64 0, .int .i64 0, .string ⟨#[46, 46, 46, 10, 35, 35, 46, 10, 35, 35, 46, 10]⟩] V fun e w' => e = .returned (.bool true) ∧ Below V.heap.size V w' :=
  drawn_yes 0 0 3 3 sa 9 9 _ _ (by omega) (by omega) rfl (by omega) x6 V h
theorem T_16 {V : World} {sa : Option Addr} (h : DA V sa 1 (dotF 1 four sqG 16 0 0 1)) : Calls Try.prog 24 #[.agg #[.int .i64 0, .int .i64 0, .int .i64 1, .int .i64 1, .slice sa 1 1], .int .i64 0, .int .i64 0, .int .i64 0, .string ⟨#[46, 10]⟩] V fun e w' => e = .returned (.bool true) ∧ Below V.heap.size V w' :=
  drawn_yes 0 0 1 1 sa 1 1 _ _ (by omega) (by omega) rfl (by omega) x7 V h
theorem T_tr {V : World} {sa : Option Addr} (h : DA V sa 9 (dotF 1 three trG 8 0 0 3)) : Calls Try.prog 24 #[.agg #[.int .i64 0, .int .i64 0, .int .i64 3, .int .i64 3, .slice sa 9 9], .int .i64 0, .int .i64 0, .int .i64 0, .string ⟨#[46, 46, 46, 10, 35, 46, 46, 10, 35, 35, 46, 10]⟩] V fun e w' => e = .returned (.bool true) ∧ Below V.heap.size V w' :=
  drawn_yes 0 0 3 3 sa 9 9 _ _ (by omega) (by omega) rfl (by omega) x8 V h
theorem S_nil (V : World) (sa : Option Addr) : Calls Try.prog 19 #[.agg #[.int .i64 0, .int .i64 0, .int .i64 0, .int .i64 0, .slice sa 0 0], .agg #[.int .i64 0, .int .i64 0, .int .i64 0, .int .i64 0, .slice none 0 0]] V fun e w' => e = .returned (.bool true) ∧ Below V.heap.size V w' := by
  have := pSame_any 0 0 0 0 sa 0 0 (fun _ => false) 0 0 0 0 none 0 0 (fun _ => false) (by omega) V (fun i hi => absurd hi (by omega)) (fun i hi => absurd hi (by omega))
  have e : ps 0 0 0 0 0 (fun _ => false) 0 0 0 0 0 (fun _ => false) = true := by unfold ps Bm.sm Bm.eqd; simp
  rw [e] at this
  exact this
end Go.Proofs.Ytjeiapgniflnaaa.Rs
