/-
  Layer 3 (digest): the digest of parts, one after the other.
-/
import Derived.Test.YtflpemagbempaaaDgB
namespace Go.Proofs.Ytflpemagbempaaa.Dg
open Go.RowKit

/-- The strings of a slice. -/
def StrsAt (w : World) (a : Option Addr) (l : List ByteArray) : Prop := ∀ i x, l[i]? = some x → ∃ b off, a = some ⟨b, off, none⟩ ∧ w.cell? ⟨b, off + i, none⟩ = some (.string x)
def cat (l : List ByteArray) : List UInt8 := l.flatMap (fun s => s.data.toList)

theorem cat_take (l : List ByteArray) (k : Nat) (h : k < l.length) (f : Nat → UInt8 → Nat) (x : Nat) : (cat (l.take (k + 1))).foldl f x = (l[k]).data.toList.foldl f ((cat (l.take k)).foldl f x) := by
  unfold cat; rw [List.take_succ_eq_append_getElem h, List.flatMap_append, List.foldl_append, List.flatMap_cons, List.flatMap_nil, List.append_nil]
theorem wrap64 (n : Int) (h0 : 0 ≤ n) (h1 : n < 18446744073709551616) : IntKind.u64.wrap n = n := by
  simp [IntKind.wrap, IntKind.bits, IntKind.signed]; omega
theorem step_x (u : Nat) (c : UInt8) (h : u < 2147483563) : ((IntKind.u64.wrap (IntKind.u64.wrap (40014 * (u : Int) + IntKind.u64.wrap (c.toNat : Int)) + 1)).tmod 2147483563) = ((sx u c : Nat) : Int) := by
  have hc := c.toNat_lt
  rw [wrap64 (c.toNat : Int) (by omega) (by omega), wrap64 (40014 * (u : Int) + c.toNat) (by omega) (by omega), wrap64 _ (by omega) (by omega), Int.tmod_eq_emod_of_nonneg (by omega)]
  unfold sx
  omega
theorem step_y (u : Nat) (c : UInt8) (h : u < 2147483399) : ((IntKind.u64.wrap (IntKind.u64.wrap (40692 * (u : Int) + IntKind.u64.wrap (c.toNat : Int)) + 1)).tmod 2147483399) = ((sy u c : Nat) : Int) := by
  have hc := c.toNat_lt
  rw [wrap64 (c.toNat : Int) (by omega) (by omega), wrap64 (40692 * (u : Int) + c.toNat) (by omega) (by omega), wrap64 _ (by omega) (by omega), Int.tmod_eq_emod_of_nonneg (by omega)]
  unfold sy
  omega
theorem cat8 (x y : Nat) : B (w4 x) ++ B (w4 y) = B [UInt8.ofNat (x / 16777216), UInt8.ofNat (x / 65536), UInt8.ofNat (x / 256), UInt8.ofNat x, UInt8.ofNat (y / 16777216), UInt8.ofNat (y / 65536), UInt8.ofNat (y / 256), UInt8.ofNat y] := by
  rw [B_append]; rfl
theorem res_of (V : World) (tm : Array Value) (b : Nat) (x0 x1 x2 x3 x4 x5 x6 x7 : UInt8) (h2 : tm.getD 2 undef = .pointer (some ⟨b, 0, none⟩))
    (c0 : V.cell? ⟨b, 0, none⟩ = some (.int .u8 x0.toNat)) (c1 : V.cell? ⟨b, 1, none⟩ = some (.int .u8 x1.toNat)) (c2 : V.cell? ⟨b, 2, none⟩ = some (.int .u8 x2.toNat)) (c3 : V.cell? ⟨b, 3, none⟩ = some (.int .u8 x3.toNat))
    (c4 : V.cell? ⟨b, 4, none⟩ = some (.int .u8 x4.toNat)) (c5 : V.cell? ⟨b, 5, none⟩ = some (.int .u8 x5.toNat)) (c6 : V.cell? ⟨b, 6, none⟩ = some (.int .u8 x6.toNat)) (c7 : V.cell? ⟨b, 7, none⟩ = some (.int .u8 x7.toNat)) :
    (results Try.f31 tm).run Try.prog V = .ok (dval [x0, x1, x2, x3, x4, x5, x6, x7]) V := by
  rw [results, Try.results31]
  simp only [Array.getD_eq_getD_getElem?] at h2
  simp only [Array.getD_eq_getD_getElem?]
  simp [h2, go_sem, c0, c1, c2, c3, c4, c5, c6, c7]
  rfl
def OfRel (w : World) (l : List ByteArray) (n : Nat) (s3 s4 s11 : Value) (wr : World) : Prop :=
  ∃ k : Nat, k ≤ n ∧ s3 = .int .u64 (dx (cat (l.take k))) ∧ s4 = .int .u64 (dy (cat (l.take k))) ∧ s11 = .int .i64 k ∧ Below w.heap.size w wr ∧ wr = w.alloc (.cells #[.int .u8 0, .int .u8 0, .int .u8 0, .int .u8 0, .int .u8 0, .int .u8 0, .int .u8 0, .int .u8 0] 52)
def InRel (W : World) (u v : Nat) (s : ByteArray) (s3 s4 s17 : Value) (wr : World) : Prop :=
  ∃ j : Nat, j ≤ s.size ∧ s3 = .int .u64 ((s.data.toList.take j).foldl sx u : Nat) ∧ s4 = .int .u64 ((s.data.toList.take j).foldl sy v : Nat) ∧ s17 = .int .i64 j ∧ wr = W
set_option maxHeartbeats 1000000 in
theorem of_any (l : List ByteArray) (a : Option Addr) (n c : Nat) (hn : l.length = n) (hs : n ≤ 1000000) (w : World) (hl : StrsAt w a l) (hz : ∀ s ∈ l, s.size < 9223372036854775807) :
    Calls Try.prog 31 #[.slice a n c] w fun e w' => e = .returned (dval (dg (cat l))) ∧ Below w.heap.size w w' := by
  have HL := Lib.hid hl
  have HN := Lib.hid hn
  have HZ := Lib.hid hz
  clear hl hn hz
  go_enter Try.func31, Try.ntmps31
  go_wp2
  go_loopw [3, 4, 11] (fun s3 s4 s11 wr => OfRel w l n s3 s4 s11 wr) (fun _ _ s11 _ => n - (intOf s11).toNat)
  case atStart =>
    exact ⟨0, by omega, rfl, rfl, rfl, by go_grown, rfl⟩
  case round =>
    obtain ⟨k, hk, rfl, rfl, rfl, hB, rfl⟩ := hrel
    rcases Nat.lt_or_ge k n with hlt | hge
    · have hx : l[k]? = some (l[k]'(by rw [HN.out]; exact hlt)) := List.getElem?_eq_getElem _
      obtain ⟨b, off, rfl, hc⟩ := HL.out k _ hx
      have Z := HZ.out _ (List.getElem_mem (by rw [HN.out]; exact hlt) : l[k]'(by rw [HN.out]; exact hlt) ∈ l)
      have ck := kc hB (block_lt_of_cell hc) hc
      have F := Lib.hid (cat_take l k (by rw [HN.out]; exact hlt))
      have X0 := dx_lt (cat (l.take k))
      have Y0 := dy_lt (cat (l.take k))
      have X1 : Hid (dx (cat (l.take (k + 1))) = (l[k]'(by rw [HN.out]; exact hlt)).data.toList.foldl sx (dx (cat (l.take k)))) := Lib.hid (F.out sx 41)
      have Y1 : Hid (dy (cat (l.take (k + 1))) = (l[k]'(by rw [HN.out]; exact hlt)).data.toList.foldl sy (dy (cat (l.take k)))) := Lib.hid (F.out sy 43)
      clear hx hc F
      generalize l[k]'(by rw [HN.out]; exact hlt) = s at *
      generalize dx (cat (l.take k)) = x at *
      generalize dy (cat (l.take k)) = y at *
      go_wp2
      go_loopw [3, 4, 17] (fun s3 s4 s17 wr => InRel (w.alloc (.cells #[.int .u8 0, .int .u8 0, .int .u8 0, .int .u8 0, .int .u8 0, .int .u8 0, .int .u8 0, .int .u8 0] 52)) x y s s3 s4 s17 wr) (fun _ _ s17 _ => s.size - (intOf s17).toNat)
      case atStart =>
        exact ⟨0, by omega, rfl, rfl, rfl, rfl⟩
      case round =>
        obtain ⟨j, hj, rfl, rfl, rfl, rfl⟩ := hrel
        rcases Nat.lt_or_ge j s.size with hjl | hjg
        · have hjs : j < s.data.toList.length := by rw [toList_length]; exact hjl
          have P1 : Hid ((s.data.toList.take (j + 1)).foldl sx x = sx ((s.data.toList.take j).foldl sx x) (s.data.toList[j])) := Lib.hid (fold_take sx _ _ hjs _)
          have P2 : Hid ((s.data.toList.take (j + 1)).foldl sy y = sy ((s.data.toList.take j).foldl sy y) (s.data.toList[j])) := Lib.hid (fold_take sy _ _ hjs _)
          have U := foldx_lt (s.data.toList.take j) x X0
          have V := foldy_lt (s.data.toList.take j) y Y0
          generalize (s.data.toList.take j).foldl sx x = u at *
          generalize (s.data.toList.take j).foldl sy y = v at *
          have hg : s.data.toList[j] = s[j] := by rw [Array.getElem_toList]; rfl
          rw [hg] at P1 P2
          have S1 := step_x u s[j] U
          have S2 := step_y v s[j] V
          go_wp2
          go_roundw
          case rel => exact ⟨j + 1, by omega, by rw [P1.out], by rw [P2.out], by congr 1, rfl⟩
          case measure => simp [intOf]; omega
        · have hjs : j = s.size := by omega
          subst hjs
          have T := List.take_of_length_le (show s.data.toList.length ≤ s.size by rw [toList_length]; omega)
          rw [T, ← X1.out, ← Y1.out]
          go_wp2
          go_roundw
          case rel => exact ⟨k + 1, by omega, rfl, rfl, by congr 1, hB, rfl⟩
          case measure => simp [intOf]; omega
    · have hkn : k = n := by omega
      subst hkn
      rw [List.take_of_length_le (by rw [HN.out]; omega)]
      have X0 := dx_lt (cat l)
      have Y0 := dy_lt (cat l)
      have E : Hid (dg (cat l) = w4 (dx (cat l)) ++ w4 (dy (cat l))) := Lib.hid rfl
      generalize dx (cat l) = x at *
      generalize dy (cat l) = y at *
      have Wx := Lib.hid (word_any x (by omega))
      have Wy := Lib.hid (word_any y (by omega))
      have hc := cat8 x y
      go_wp2_with fail
      refine (Wx.out _).mono ?_
      rintro e w1 ⟨rfl, hB1⟩
      clear Wx
      go_wp2_with fail
      refine (Wy.out _).mono ?_
      rintro e w2 ⟨rfl, hB2⟩
      clear Wy
      replace hB2 := bt hB1 hB2
      clear hB1
      rw [World.size_alloc] at hB2
      obtain ⟨cap, w3, hcv, hB3, ha, c0, c1, c2, c3, c4, c5, c6, c7⟩ := conv_in w2 (UInt8.ofNat (x / 16777216)) (UInt8.ofNat (x / 65536)) (UInt8.ofNat (x / 256)) (UInt8.ofNat x) (UInt8.ofNat (y / 16777216)) (UInt8.ofNat (y / 65536)) (UInt8.ofNat (y / 256)) (UInt8.ofNat y)
      rw [← hc] at hcv
      clear hc
      have cat := fun w => run_string_add_sum (P := Try.prog) (w := w) (B (w4 x)) (B (w4 y)) (by rw [B_size, B_size, w4_length, w4_length]; decide)
      have hz2 : w.heap.size + 1 ≤ w2.heap.size := by have := hB2.size; rwa [World.size_alloc] at this
      replace hB3 := hB2.trans (hB3.mono (by omega))
      clear hB2
      have x0 : w3.cell? ⟨w.heap.size, 0, none⟩ = some (.int .u8 0) := kc hB3 (by omega) (by go_cell)
      have f0 : w3.frozen? ⟨w.heap.size, 0, none⟩ = false := kf hB3 (by omega) (by go_cell)
      have x1 : w3.cell? ⟨w.heap.size, 1, none⟩ = some (.int .u8 0) := kc hB3 (by omega) (by go_cell)
      have f1 : w3.frozen? ⟨w.heap.size, 1, none⟩ = false := kf hB3 (by omega) (by go_cell)
      have x2 : w3.cell? ⟨w.heap.size, 2, none⟩ = some (.int .u8 0) := kc hB3 (by omega) (by go_cell)
      have f2 : w3.frozen? ⟨w.heap.size, 2, none⟩ = false := kf hB3 (by omega) (by go_cell)
      have x3 : w3.cell? ⟨w.heap.size, 3, none⟩ = some (.int .u8 0) := kc hB3 (by omega) (by go_cell)
      have f3 : w3.frozen? ⟨w.heap.size, 3, none⟩ = false := kf hB3 (by omega) (by go_cell)
      have x4 : w3.cell? ⟨w.heap.size, 4, none⟩ = some (.int .u8 0) := kc hB3 (by omega) (by go_cell)
      have f4 : w3.frozen? ⟨w.heap.size, 4, none⟩ = false := kf hB3 (by omega) (by go_cell)
      have x5 : w3.cell? ⟨w.heap.size, 5, none⟩ = some (.int .u8 0) := kc hB3 (by omega) (by go_cell)
      have f5 : w3.frozen? ⟨w.heap.size, 5, none⟩ = false := kf hB3 (by omega) (by go_cell)
      have x6 : w3.cell? ⟨w.heap.size, 6, none⟩ = some (.int .u8 0) := kc hB3 (by omega) (by go_cell)
      have f6 : w3.frozen? ⟨w.heap.size, 6, none⟩ = false := kf hB3 (by omega) (by go_cell)
      have x7 : w3.cell? ⟨w.heap.size, 7, none⟩ = some (.int .u8 0) := kc hB3 (by omega) (by go_cell)
      have f7 : w3.frozen? ⟨w.heap.size, 7, none⟩ = false := kf hB3 (by omega) (by go_cell)
      replace hB : Below w.heap.size w w3 := hB.trans (hB3.mono (by omega))
      clear hB3
      have E8 : Hid (dval (dg (Dg.cat l)) = dval [UInt8.ofNat (x / 16777216), UInt8.ofNat (x / 65536), UInt8.ofNat (x / 256), UInt8.ofNat x, UInt8.ofNat (y / 16777216), UInt8.ofNat (y / 65536), UInt8.ofNat (y / 256), UInt8.ofNat y]) := Lib.hid (by rw [E.out]; rfl)
      generalize UInt8.ofNat (x / 16777216) = q0 at *
      generalize UInt8.ofNat (x / 65536) = q1 at *
      generalize UInt8.ofNat (x / 256) = q2 at *
      generalize UInt8.ofNat x = q3 at *
      generalize UInt8.ofNat (y / 16777216) = q4 at *
      generalize UInt8.ofNat (y / 65536) = q5 at *
      generalize UInt8.ofNat (y / 256) = q6 at *
      generalize UInt8.ofNat y = q7 at *
      generalize B (w4 x) = sx at *
      generalize B (w4 y) = sy at *
      go_wp2_with fail
      exact bodyPost_ret (res_of _ _ w.heap.size _ _ _ _ _ _ _ _ rfl (by go_cell) (by go_cell) (by go_cell) (by go_cell) (by go_cell) (by go_cell) (by go_cell) (by go_cell)) rfl ⟨by rw [E8.out], bs (bs (bs (bs (bs (bs (bs (bs hB (Nat.le_refl _) _) (Nat.le_refl _) _) (Nat.le_refl _) _) (Nat.le_refl _) _) (Nat.le_refl _) _) (Nat.le_refl _) _) (Nat.le_refl _) _) (Nat.le_refl _) _⟩
end Go.Proofs.Ytflpemagbempaaa.Dg
