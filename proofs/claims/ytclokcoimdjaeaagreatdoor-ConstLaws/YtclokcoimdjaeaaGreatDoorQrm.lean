/- constants: division by zero. -/
import Derived.Test.YtclokcoimdjaeaaGreatDoorQpm
import Derived.Test.YtclokcoimdjaeaaGreatDoorFxmm
namespace Go.Proofs.YtclokcoimdjaeaaGreatDoor
open Go.RowKit
attribute [local go_sem ↓] Go.wp_at_zero Go.wp_at_succ
set_option maxRecDepth 20000 in
set_option maxHeartbeats 2000000 in
theorem calc_quo0 {w : World} {u v : Value} {y : Int} {m n : Nat} (hu : Num w u y m) (hv : Num w v 0 n) (hm : m ≤ 150) (hn : n ≤ 150) :
    Calls Tryz.prog 89 #[.string ⟨#[47]⟩, u, v] w fun e w' => e = .returned (.tuple #[.agg #[.bool false, .slice none 0 0], .bool false]) ∧ Below w.heap.size w w' := by
  obtain ⟨nu, xu, lu, cu, rfl⟩ := hu.form
  obtain ⟨nv, xv, lv, cv, rfl⟩ := hv.form
  obtain ⟨W0, hW0⟩ : ∃ W0, W0 = w.alloc (.cells #[.bool nu, .slice xu lu cu] 28) := ⟨_, rfl⟩
  obtain ⟨W1, hW1⟩ : ∃ W1, W1 = W0.alloc (.cells #[.bool nv, .slice xv lv cv] 28) := ⟨_, rfl⟩
  obtain ⟨W, hW⟩ : ∃ W, W = W1.alloc (.cells #[.bool false, .slice none 0 0] 28) := ⟨_, rfl⟩
  have hs0 : W0.heap.size = w.heap.size + 1 := by rw [hW0]; simp
  have hs1 : W1.heap.size = w.heap.size + 1 + 1 := by rw [hW1]; simp [hs0]
  have hb0 : Below w.heap.size w W0 := by rw [hW0]; exact (Below.refl _ _).alloc (Nat.le_refl _) _
  have hb1 : Below W0.heap.size W0 W1 := by rw [hW1]; exact (Below.refl _ _).alloc (Nat.le_refl _) _
  have hb2 : Below W1.heap.size W1 W := by rw [hW]; exact (Below.refl _ _).alloc (Nat.le_refl _) _
  have hq0 : W.heap[w.heap.size]? = some (.cells #[.bool nu, .slice xu lu cu] 28 (0, 0)) := by rw [hb2.block _ (by omega), hb1.block _ (by omega), hW0]; exact newAt _ _
  have hq1 : W.heap[w.heap.size + 1]? = some (.cells #[.bool nv, .slice xv lv cv] 28 (0, 0)) := by rw [hb2.block _ (by omega), hW1, ← hs0]; exact newAt _ _
  have hq2 : W.heap[w.heap.size + 1 + 1]? = some (.cells #[.bool false, .slice none 0 0] 28 (0, 0)) := by rw [hW, ← hs1]; exact newAt _ _
  have hB : Hid (Below w.heap.size w W) := hb0.trans ((hb1.mono (by omega)).trans (hb2.mono (by omega)))
  obtain ⟨⟨p0, p1⟩, _, _⟩ := cells2 hq0
  obtain ⟨⟨q0, q1⟩, _, _⟩ := cells2 hq1
  have hsW : Hid (w.heap.size + 1 + 1 < W.heap.size) := (Array.getElem?_eq_some_iff.1 hq2).1
  have hqh : Hid (W.heap[w.heap.size + 1 + 1]? = some (.cells #[.bool false, .slice none 0 0] 28 (0, 0))) := hq2
  have huW := hu.next hB.out
  have hvW := hv.next hB.out
  have kA : Hid (Calls Tryz.prog 161 #[.agg #[.bool nu, .slice xu lu cu], .agg #[.bool nv, .slice xv lv cv]] W _) := Quo_none huW hvW (by omega) (by omega)
  clear hu hv huW hvW hq0 hq1 hq2 hb0 hb1 hb2 hs0 hs1
  go_enter Tryz.func89, Tryz.ntmps89
  go_upto_region 1 with fail
  rw [← hW0, ← hW1, ← hW]
  clear hW hW1 hW0
  go_wp2_with fail
  refine Calls.mono kA.out ?_
  clear kA
  rintro e w1 ⟨rfl, hX1⟩
  obtain ⟨X, hXe, hqa, hqb, hbX, hsX⟩ := two_new (w := w1) (A := .cells #[.bool false, .slice none 0 0] 28) (B := .cells #[.bool false, .slice none 0 0] 28)
  obtain ⟨⟨y0, y1⟩, _, _⟩ := cells2 hqa
  obtain ⟨⟨z0, z1⟩, _, _⟩ := cells2 hqb
  have hX : Below W.heap.size W X := hX1.trans (hbX.mono hX1.size)
  have hq8a := (hX.block _ hsW.out).trans hqh.out
  obtain ⟨⟨r0, r1⟩, rf, rl⟩ := cells2 hq8a
  have rf0 := rf 0
  have rf1 := rf 1
  obtain ⟨W8, hW8⟩ : ∃ W8, W8 = (X.setCell ⟨w.heap.size + 1 + 1, 0, none⟩ (.bool false)).setCell ⟨w.heap.size + 1 + 1, 1, none⟩ (.slice none 0 0) := ⟨_, rfl⟩
  have hq8 : Hid (W8.heap[w.heap.size + 1 + 1]? = some (.cells #[.bool false, .slice none 0 0] 28 (0, 0))) := by show _ = _; rw [hW8]; simp [World.setCell, Array.getElem?_modify, hq8a]
  have hB8 : Hid (Below w.heap.size w W8) := by
    show Below _ _ _
    rw [hW8]
    exact ((hB.out.trans (hX.mono (by have := hsW.out; omega))).setCell (by show w.heap.size ≤ w.heap.size + 1 + 1; omega) _).setCell (by show w.heap.size ≤ w.heap.size + 1 + 1; omega) _
  clear hqa hqb hbX hX1 hsX hq8a rf hqh hB hX p0 p1 q0 q1
  go_upto_region 10 with fail
  rw [← hXe]
  clear hXe
  obtain ⟨bx, hbx⟩ : ∃ bx, bx = w1.heap.size := ⟨_, rfl⟩
  rw [← hbx] at y0 y1 z0 z1 ⊢
  clear hbx
  go_wp2
  rw [← hW8]
  obtain ⟨⟨j0, j1⟩, _, _⟩ := cells2 hq8.out
  exact bodyPost_ret (v := .tuple #[.agg #[.bool false, .slice none 0 0], .bool false]) (by simp [results, Tryz.results89, go_sem, j0, j1]) rfl ⟨rfl, hB8.out⟩
set_option maxRecDepth 20000 in
set_option maxHeartbeats 2000000 in
theorem calc_rem0 {w : World} {u v : Value} {y : Int} {m n : Nat} (hu : Num w u y m) (hv : Num w v 0 n) (hm : m ≤ 150) (hn : n ≤ 150) :
    Calls Tryz.prog 89 #[.string ⟨#[37]⟩, u, v] w fun e w' => e = .returned (.tuple #[.agg #[.bool false, .slice none 0 0], .bool false]) ∧ Below w.heap.size w w' := by
  obtain ⟨nu, xu, lu, cu, rfl⟩ := hu.form
  obtain ⟨nv, xv, lv, cv, rfl⟩ := hv.form
  obtain ⟨W0, hW0⟩ : ∃ W0, W0 = w.alloc (.cells #[.bool nu, .slice xu lu cu] 28) := ⟨_, rfl⟩
  obtain ⟨W1, hW1⟩ : ∃ W1, W1 = W0.alloc (.cells #[.bool nv, .slice xv lv cv] 28) := ⟨_, rfl⟩
  obtain ⟨W, hW⟩ : ∃ W, W = W1.alloc (.cells #[.bool false, .slice none 0 0] 28) := ⟨_, rfl⟩
  have hs0 : W0.heap.size = w.heap.size + 1 := by rw [hW0]; simp
  have hs1 : W1.heap.size = w.heap.size + 1 + 1 := by rw [hW1]; simp [hs0]
  have hb0 : Below w.heap.size w W0 := by rw [hW0]; exact (Below.refl _ _).alloc (Nat.le_refl _) _
  have hb1 : Below W0.heap.size W0 W1 := by rw [hW1]; exact (Below.refl _ _).alloc (Nat.le_refl _) _
  have hb2 : Below W1.heap.size W1 W := by rw [hW]; exact (Below.refl _ _).alloc (Nat.le_refl _) _
  have hq0 : W.heap[w.heap.size]? = some (.cells #[.bool nu, .slice xu lu cu] 28 (0, 0)) := by rw [hb2.block _ (by omega), hb1.block _ (by omega), hW0]; exact newAt _ _
  have hq1 : W.heap[w.heap.size + 1]? = some (.cells #[.bool nv, .slice xv lv cv] 28 (0, 0)) := by rw [hb2.block _ (by omega), hW1, ← hs0]; exact newAt _ _
  have hq2 : W.heap[w.heap.size + 1 + 1]? = some (.cells #[.bool false, .slice none 0 0] 28 (0, 0)) := by rw [hW, ← hs1]; exact newAt _ _
  have hB : Hid (Below w.heap.size w W) := hb0.trans ((hb1.mono (by omega)).trans (hb2.mono (by omega)))
  obtain ⟨⟨p0, p1⟩, _, _⟩ := cells2 hq0
  obtain ⟨⟨q0, q1⟩, _, _⟩ := cells2 hq1
  have hsW : Hid (w.heap.size + 1 + 1 < W.heap.size) := (Array.getElem?_eq_some_iff.1 hq2).1
  have hqh : Hid (W.heap[w.heap.size + 1 + 1]? = some (.cells #[.bool false, .slice none 0 0] 28 (0, 0))) := hq2
  have huW := hu.next hB.out
  have hvW := hv.next hB.out
  have kA : Hid (Calls Tryz.prog 161 #[.agg #[.bool nu, .slice xu lu cu], .agg #[.bool nv, .slice xv lv cv]] W _) := Quo_none huW hvW (by omega) (by omega)
  clear hu hv huW hvW hq0 hq1 hq2 hb0 hb1 hb2 hs0 hs1
  go_enter Tryz.func89, Tryz.ntmps89
  go_upto_region 1 with fail
  rw [← hW0, ← hW1, ← hW]
  clear hW hW1 hW0
  go_wp2_with fail
  refine Calls.mono kA.out ?_
  clear kA
  rintro e w1 ⟨rfl, hX1⟩
  obtain ⟨X, hXe, hqa, hqb, hbX, hsX⟩ := two_new (w := w1) (A := .cells #[.bool false, .slice none 0 0] 28) (B := .cells #[.bool false, .slice none 0 0] 28)
  obtain ⟨⟨y0, y1⟩, _, _⟩ := cells2 hqa
  obtain ⟨⟨z0, z1⟩, _, _⟩ := cells2 hqb
  have hX : Below W.heap.size W X := hX1.trans (hbX.mono hX1.size)
  have hq8a := (hX.block _ hsW.out).trans hqh.out
  obtain ⟨⟨r0, r1⟩, rf, rl⟩ := cells2 hq8a
  have rf0 := rf 0
  have rf1 := rf 1
  obtain ⟨W8, hW8⟩ : ∃ W8, W8 = (X.setCell ⟨w.heap.size + 1 + 1, 0, none⟩ (.bool false)).setCell ⟨w.heap.size + 1 + 1, 1, none⟩ (.slice none 0 0) := ⟨_, rfl⟩
  have hq8 : Hid (W8.heap[w.heap.size + 1 + 1]? = some (.cells #[.bool false, .slice none 0 0] 28 (0, 0))) := by show _ = _; rw [hW8]; simp [World.setCell, Array.getElem?_modify, hq8a]
  have hB8 : Hid (Below w.heap.size w W8) := by
    show Below _ _ _
    rw [hW8]
    exact ((hB.out.trans (hX.mono (by have := hsW.out; omega))).setCell (by show w.heap.size ≤ w.heap.size + 1 + 1; omega) _).setCell (by show w.heap.size ≤ w.heap.size + 1 + 1; omega) _
  clear hqa hqb hbX hX1 hsX hq8a rf hqh hB hX p0 p1 q0 q1
  go_upto_region 13 with fail
  rw [← hXe]
  clear hXe
  obtain ⟨bx, hbx⟩ : ∃ bx, bx = w1.heap.size := ⟨_, rfl⟩
  rw [← hbx] at y0 y1 z0 z1 ⊢
  clear hbx
  go_wp2
  rw [← hW8]
  obtain ⟨⟨j0, j1⟩, _, _⟩ := cells2 hq8.out
  exact bodyPost_ret (v := .tuple #[.agg #[.bool false, .slice none 0 0], .bool false]) (by simp [results, Tryz.results89, go_sem, j0, j1]) rfl ⟨rfl, hB8.out⟩
set_option maxRecDepth 20000 in
set_option maxHeartbeats 2000000 in
theorem binaryInt_none {w : World} {u v : Value} {y z : Int} {m n : Nat} (s : ByteArray) (hu : Num w u y m) (hv : Num w v z n)
    (hc : ∀ X, Below w.heap.size w X → Calls Tryz.prog 89 #[.string s, u, v] X fun e w' => e = .returned (.tuple #[.agg #[.bool false, .slice none 0 0], .bool false]) ∧ Below X.heap.size X w') :
    Calls Tryz.prog 43 #[.string s, u, v] w fun e w' => e = .returned (.tuple #[cNone, .bool false]) ∧ Below w.heap.size w w' := by
  obtain ⟨nu, xu, lu, cu, rfl⟩ := hu.form
  obtain ⟨nv, xv, lv, cv, rfl⟩ := hv.form
  obtain ⟨W0, hW0⟩ : ∃ W0, W0 = w.alloc (.cells #[.bool nu, .slice xu lu cu] 28) := ⟨_, rfl⟩
  obtain ⟨W1, hW1⟩ : ∃ W1, W1 = W0.alloc (.cells #[.bool nv, .slice xv lv cv] 28) := ⟨_, rfl⟩
  obtain ⟨W, hW⟩ : ∃ W, W = W1.alloc (.cells #[.int .i64 0, .bool false, .string ⟨#[]⟩, .bool false, .slice none 0 0, .bool false, .slice none 0 0] 32) := ⟨_, rfl⟩
  have hs0 : W0.heap.size = w.heap.size + 1 := by rw [hW0]; simp
  have hs1 : W1.heap.size = w.heap.size + 1 + 1 := by rw [hW1]; simp [hs0]
  have hb0 : Below w.heap.size w W0 := by rw [hW0]; exact (Below.refl _ _).alloc (Nat.le_refl _) _
  have hb1 : Below W0.heap.size W0 W1 := by rw [hW1]; exact (Below.refl _ _).alloc (Nat.le_refl _) _
  have hb2 : Below W1.heap.size W1 W := by rw [hW]; exact (Below.refl _ _).alloc (Nat.le_refl _) _
  have hq0 : W.heap[w.heap.size]? = some (.cells #[.bool nu, .slice xu lu cu] 28 (0, 0)) := by rw [hb2.block _ (by omega), hb1.block _ (by omega), hW0]; exact newAt _ _
  have hq1 : W.heap[w.heap.size + 1]? = some (.cells #[.bool nv, .slice xv lv cv] 28 (0, 0)) := by rw [hb2.block _ (by omega), hW1, ← hs0]; exact newAt _ _
  have hq2 : W.heap[w.heap.size + 1 + 1]? = some (.cells #[.int .i64 0, .bool false, .string ⟨#[]⟩, .bool false, .slice none 0 0, .bool false, .slice none 0 0] 32 (0, 0)) := by rw [hW, ← hs1]; exact newAt _ _
  have hB : Hid (Below w.heap.size w W) := hb0.trans ((hb1.mono (by omega)).trans (hb2.mono (by omega)))
  obtain ⟨⟨p0, p1⟩, _, _⟩ := cells2 hq0
  obtain ⟨⟨q0, q1⟩, _, _⟩ := cells2 hq1
  have hsW : Hid (w.heap.size + 1 + 1 < W.heap.size) := (Array.getElem?_eq_some_iff.1 hq2).1
  have hqh : Hid (W.heap[w.heap.size + 1 + 1]? = some (.cells #[.int .i64 0, .bool false, .string ⟨#[]⟩, .bool false, .slice none 0 0, .bool false, .slice none 0 0] 32 (0, 0))) := hq2
  have huW := hu.next hB.out
  have hvW := hv.next hB.out
  have kA : Hid (Calls Tryz.prog 89 #[.string s, .agg #[.bool nu, .slice xu lu cu], .agg #[.bool nv, .slice xv lv cv]] W _) := hc W hB.out
  clear hu hv huW hvW hq0 hq1 hq2 hb0 hb1 hb2 hs0 hs1 hc
  go_enter Tryz.func43, Tryz.ntmps43
  go_upto_region 1 with fail
  rw [← hW0, ← hW1, ← hW]
  clear hW hW1 hW0
  go_wp2_with fail
  refine Calls.mono kA.out ?_
  clear kA
  rintro e w1 ⟨rfl, hX1⟩
  obtain ⟨X, hXe⟩ : ∃ X, X = w1.alloc (.cells #[.bool false, .slice none 0 0] 28) := ⟨_, rfl⟩
  have hbX : Below w1.heap.size w1 X := by rw [hXe]; exact (Below.refl _ _).alloc (Nat.le_refl _) _
  have hqX : X.heap[w1.heap.size]? = some (.cells #[.bool false, .slice none 0 0] 28 (0, 0)) := by rw [hXe]; exact newAt _ _
  obtain ⟨⟨x0, x1⟩, _, xl⟩ := cells2 hqX
  have hbWX : Hid (Below W.heap.size W X) := hX1.trans (hbX.mono hX1.size)
  have kB : Hid (Calls Tryz.prog 70 #[.agg #[.bool false, .slice none 0 0]] X _) := Whole_num (num_nil X 2) (by omega)
  clear hX1 hbX hqX p0 p1 q0 q1
  go_upto_region 2 with fail
  rw [← hXe]
  clear hXe
  obtain ⟨bx, hbx⟩ : ∃ bx, bx = w1.heap.size := ⟨_, rfl⟩
  rw [← hbx] at x0 x1 xl ⊢
  clear hbx
  go_wp2_with fail
  refine Calls.mono kB.out ?_
  clear kB
  rintro e w2 ⟨t, rfl, hL, hb2⟩
  obtain ⟨n1, a1, l1, c1, n2, a2, l2, c2, rfl⟩ := hL.form
  have kC : Hid (Calls Tryz.prog 48 #[.int .i64 3, .agg #[.bool n1, .slice a1 l1 c1, .bool n2, .slice a2 l2 c2], .bool false] w2 _) := ofNumber_no (k := 3)
  have hb2h : Hid (Below X.heap.size X w2) := hb2
  clear hL hb2 x0 x1
  go_wp2_with fail
  refine Calls.mono kC.out ?_
  clear kC
  rintro e w3 ⟨rfl, hb3⟩
  unfold cNone
  have hX : Below W.heap.size W w3 := hbWX.out.trans ((hb2h.out.mono hbWX.out.size).trans (hb3.mono (by have := hbWX.out.size; have := hb2h.out.size; omega)))
  have hq1 := (hX.block _ hsW.out).trans hqh.out
  have hB1 : Hid (Below w.heap.size w w3) := hB.out.trans (hX.mono (by have := hsW.out; omega))
  obtain ⟨⟨r0, r1, r2, r3, r4, r5, r6⟩, rf, rl⟩ := cells7 hq1
  have rf0 := rf 0
  have rf1 := rf 1
  have rf2 := rf 2
  have rf3 := rf 3
  have rf4 := rf 4
  have rf5 := rf 5
  have rf6 := rf 6
  obtain ⟨W8, hW8⟩ : ∃ W8, W8 = put7 w3 (w.heap.size + 1 + 1) (.int .i64 0) (.bool false) (.string ⟨#[]⟩) (.bool false) (.slice none 0 0) (.bool false) (.slice none 0 0) := ⟨_, rfl⟩
  have hqW8 : Hid (W8.heap[w.heap.size + 1 + 1]? = some (.cells #[.int .i64 0, .bool false, .string ⟨#[]⟩, .bool false, .slice none 0 0, .bool false, .slice none 0 0] 32 (0, 0))) := by show _ = _; rw [hW8]; exact put7_at hq1
  have hBW8 : Hid (Below w.heap.size w W8) := by
    show Below _ _ _
    rw [hW8]
    exact put7_below hB1.out (by omega)
  clear hq1 rf hb3 hX hqh hB hB1 hb2h hbWX
  go_wp2
  unfold put7 at hW8
  rw [← hW8]
  obtain ⟨⟨j0, j1, j2, j3, j4, j5, j6⟩, _, _⟩ := cells7 hqW8.out
  exact bodyPost_ret (v := .tuple #[.agg #[.int .i64 0, .bool false, .string ⟨#[]⟩, .bool false, .slice none 0 0, .bool false, .slice none 0 0], .bool false]) (by simp [results, Tryz.results43, go_sem, j0, j1, j2, j3, j4, j5, j6]) rfl ⟨rfl, hBW8.out⟩
set_option maxRecDepth 20000 in
set_option maxHeartbeats 2000000 in
theorem Binary_none {w : World} {n1 : Bool} {a1 : Option Addr} {l1 c1 : Nat} {n2 : Bool} {a2 : Option Addr} {l2 c2 : Nat} {m1 : Bool} {b1 : Option Addr} {k1 d1 : Nat} {m2 : Bool} {b2 : Option Addr} {k2 d2 : Nat} {n d n' d' y z : Int} {m : Nat} (s : ByteArray) (hm : m ≤ 100)
    (hF : Frac w (.agg #[.bool n1, .slice a1 l1 c1, .bool n2, .slice a2 l2 c2]) n d m) (hG : Frac w (.agg #[.bool m1, .slice b1 k1 d1, .bool m2, .slice b2 k2 d2]) n' d' m) (hy : pN n d = y * pD d) (hz : pN n' d' = z * pD d')
    (hc : ∀ (X : World) (a b : Value), Num X a y (m + 3) → Num X b z (m + 3) → Calls Tryz.prog 89 #[.string s, a, b] X fun e w' => e = .returned (.tuple #[.agg #[.bool false, .slice none 0 0], .bool false]) ∧ Below X.heap.size X w') :
    Calls Tryz.prog 16 #[.string s, .agg #[.int .i64 3, .bool false, .string ⟨#[]⟩, .bool n1, .slice a1 l1 c1, .bool n2, .slice a2 l2 c2], .agg #[.int .i64 3, .bool false, .string ⟨#[]⟩, .bool m1, .slice b1 k1 d1, .bool m2, .slice b2 k2 d2]] w fun e w' => e = .returned (.tuple #[cNone, .bool false]) ∧ Below w.heap.size w w' := by
  have hwA : (pN n d).tmod (pD d) = 0 := by rw [hy]; exact Int.mul_tmod_left _ _
  have hwB : (pN n' d').tmod (pD d') = 0 := by rw [hz]; exact Int.mul_tmod_left _ _
  have hyA : (pN n d).tdiv (pD d) = y := by rw [hy]; exact Int.mul_tdiv_cancel _ (by have := pD_pos d; omega)
  have hzB : (pN n' d').tdiv (pD d') = z := by rw [hz]; exact Int.mul_tdiv_cancel _ (by have := pD_pos d'; omega)
  obtain ⟨W, hW, hq4, hq5, hq6, hbW, hsz⟩ := three_new (w := w) (A := .cells #[.int .i64 3, .bool false, .string ⟨#[]⟩, .bool n1, .slice a1 l1 c1, .bool n2, .slice a2 l2 c2] 32) (B := .cells #[.int .i64 3, .bool false, .string ⟨#[]⟩, .bool m1, .slice b1 k1 d1, .bool m2, .slice b2 k2 d2] 32) (C := .cells #[.int .i64 0, .bool false, .string ⟨#[]⟩, .bool false, .slice none 0 0, .bool false, .slice none 0 0] 32)
  have hFW := hF.next hbW
  have hGW := hG.next hbW
  have kA : Hid (∀ X, Below W.heap.size W X → Calls Tryz.prog 41 #[.agg #[.int .i64 3, .bool false, .string ⟨#[]⟩, .bool n1, .slice a1 l1 c1, .bool n2, .slice a2 l2 c2]] X fun e w' => e = .returned (.agg #[.int .i64 3, .bool false, .string ⟨#[]⟩, .bool n1, .slice a1 l1 c1, .bool n2, .slice a2 l2 c2]) ∧ Below X.heap.size X w') := fun X hX => admit_int (hFW.next hX) (by omega) hwA
  have kB : Hid (∀ X, Below W.heap.size W X → Calls Tryz.prog 41 #[.agg #[.int .i64 3, .bool false, .string ⟨#[]⟩, .bool m1, .slice b1 k1 d1, .bool m2, .slice b2 k2 d2]] X fun e w' => e = .returned (.agg #[.int .i64 3, .bool false, .string ⟨#[]⟩, .bool m1, .slice b1 k1 d1, .bool m2, .slice b2 k2 d2]) ∧ Below X.heap.size X w') := fun X hX => admit_int (hGW.next hX) (by omega) hwB
  have hcuts : Hid (Frac W (.agg #[.bool n1, .slice a1 l1 c1, .bool n2, .slice a2 l2 c2]) n d m ∧ Frac W (.agg #[.bool m1, .slice b1 k1 d1, .bool m2, .slice b2 k2 d2]) n' d' m ∧ Below w.heap.size w W ∧ W.heap.size = w.heap.size + 1 + 1 + 1) := ⟨hFW, hGW, hbW, hsz⟩
  obtain ⟨⟨p0, p1, p2, p3, p4, p5, p6⟩, pf, _⟩ := cells7 hq4
  obtain ⟨⟨q0, q1, q2, q3, q4, q5, q6⟩, qf, _⟩ := cells7 hq5
  have hq4h : Hid (W.heap[w.heap.size]? = some (.cells #[.int .i64 3, .bool false, .string ⟨#[]⟩, .bool n1, .slice a1 l1 c1, .bool n2, .slice a2 l2 c2] 32 (0, 0))) := hq4
  have hq5h : Hid (W.heap[w.heap.size + 1]? = some (.cells #[.int .i64 3, .bool false, .string ⟨#[]⟩, .bool m1, .slice b1 k1 d1, .bool m2, .slice b2 k2 d2] 32 (0, 0))) := hq5
  have hq6h : Hid (W.heap[w.heap.size + 1 + 1]? = some (.cells #[.int .i64 0, .bool false, .string ⟨#[]⟩, .bool false, .slice none 0 0, .bool false, .slice none 0 0] 32 (0, 0))) := hq6
  have hch : Hid (∀ (X : World) (a b : Value), Num X a y (m + 3) → Num X b z (m + 3) → Calls Tryz.prog 89 #[.string s, a, b] X fun e w' => e = .returned (.tuple #[.agg #[.bool false, .slice none 0 0], .bool false]) ∧ Below X.heap.size X w') := hc
  have hwh : Hid ((pN n d).tmod (pD d) = 0 ∧ (pN n' d').tmod (pD d') = 0 ∧ (pN n d).tdiv (pD d) = y ∧ (pN n' d').tdiv (pD d') = z) := ⟨hwA, hwB, hyA, hzB⟩
  have hdh : Hid (Below W.heap.size W W.drew) := (Below.refl _ _).drew
  clear hF hG hy hz hc hwA hwB hyA hzB hq4 hq5 hq6 hbW hsz hFW hGW pf qf
  go_enter Tryz.func16, Tryz.ntmps16
  go_upto_region 1 with fail
  rw [← hW]
  clear hW
  obtain ⟨r, hr⟩ : ∃ r, r = w.heap.size := ⟨_, rfl⟩
  have hrh : Hid (r = w.heap.size) := hr
  rw [← hr] at p0 q0 p1 q1 p2 q2 p3 q3 p4 q4 p5 q5 p6 q6 hq4h hq5h hq6h ⊢
  clear hr
  go_cut [13] from 10 to 13 (fun _ wx => Hid (Two w r #[.int .i64 3, .bool false, .string ⟨#[]⟩, .bool n1, .slice a1 l1 c1, .bool n2, .slice a2 l2 c2] #[.int .i64 3, .bool false, .string ⟨#[]⟩, .bool m1, .slice b1 k1 d1, .bool m2, .slice b2 k2 d2] (.agg #[.bool n1, .slice a1 l1 c1, .bool n2, .slice a2 l2 c2]) (.agg #[.bool m1, .slice b1 k1 d1, .bool m2, .slice b2 k2 d2]) n d n' d' m wx))
  case first =>
    go_region_with (first
      | (go_at_call 41; refine Calls.mono (kA.out _ hdh.out) ?_; rintro e w5 ⟨rfl, hb5⟩; clear kA
         replace hb5 : Below W.heap.size W w5 := hdh.out.trans hb5
         replace q0 := keep_cell hb5 q0; replace q1 := keep_cell hb5 q1; replace q2 := keep_cell hb5 q2; replace q3 := keep_cell hb5 q3; replace q4 := keep_cell hb5 q4; replace q5 := keep_cell hb5 q5; replace q6 := keep_cell hb5 q6
         have hb5h : Hid (Below W.heap.size W w5) := hb5
         clear hb5)
      | (go_at_call 41; refine Calls.mono (kB.out _ hb5h.out) ?_; rintro e w6 ⟨rfl, hb6⟩; clear kB
         have hb6h : Hid (Below W.heap.size W w6) := hb5h.out.trans (hb6.mono hb5h.out.size)
         have hqA : w6.heap[r]? = _ := (hb6h.out.block r (by have := hcuts.out.2.2.2; have := hrh.out; omega)).trans hq4h.out
         have hqB : w6.heap[r + 1]? = _ := (hb6h.out.block (r + 1) (by have := hcuts.out.2.2.2; have := hrh.out; omega)).trans hq5h.out
         obtain ⟨⟨u0, u1, u2, u3, u4, u5, u6⟩, uf, _⟩ := cells7 hqA
         obtain ⟨⟨v0, v1, v2, v3, v4, v5, v6⟩, vf, _⟩ := cells7 hqB
         have uf0 := uf 0; have uf1 := uf 1; have uf2 := uf 2; have uf3 := uf 3; have uf4 := uf 4; have uf5 := uf 5; have uf6 := uf 6
         have vf0 := vf 0; have vf1 := vf 1; have vf2 := vf 2; have vf3 := vf 3; have vf4 := vf 4; have vf5 := vf 5; have vf6 := vf 6
         clear hb6 hqA hqB uf vf))
    all_goals
      go_wp2_with fail
      go_meet
      case rel =>
        have hs := hcuts.out.2.2.2
        have hr' := hrh.out
        have h6 := hb6h.out
        have s6 := h6.size
        have hqA : w6.heap[r]? = some (.cells #[.int .i64 3, .bool false, .string ⟨#[]⟩, .bool n1, .slice a1 l1 c1, .bool n2, .slice a2 l2 c2] 32 (0, 0)) := (h6.block r (by omega)).trans hq4h.out
        have hqB : w6.heap[r + 1]? = some (.cells #[.int .i64 3, .bool false, .string ⟨#[]⟩, .bool m1, .slice b1 k1 d1, .bool m2, .slice b2 k2 d2] 32 (0, 0)) := (h6.block (r + 1) (by omega)).trans hq5h.out
        have hqC : w6.heap[r + 1 + 1]? = some (.cells #[.int .i64 0, .bool false, .string ⟨#[]⟩, .bool false, .slice none 0 0, .bool false, .slice none 0 0] 32 (0, 0)) := (h6.block (r + 1 + 1) (by omega)).trans hq6h.out
        have hT : Two w r #[.int .i64 3, .bool false, .string ⟨#[]⟩, .bool n1, .slice a1 l1 c1, .bool n2, .slice a2 l2 c2] #[.int .i64 3, .bool false, .string ⟨#[]⟩, .bool m1, .slice b1 k1 d1, .bool m2, .slice b2 k2 d2] (.agg #[.bool n1, .slice a1 l1 c1, .bool n2, .slice a2 l2 c2]) (.agg #[.bool m1, .slice b1 k1 d1, .bool m2, .slice b2 k2 d2]) n d n' d' m (put7 (put7 w6 r (.int .i64 3) (.bool false) (.string ⟨#[]⟩) (.bool n1) (.slice a1 l1 c1) (.bool n2) (.slice a2 l2 c2)) (r + 1) (.int .i64 3) (.bool false) (.string ⟨#[]⟩) (.bool m1) (.slice b1 k1 d1) (.bool m2) (.slice b2 k2 d2)) := by
          have cA : CBox w6 r := ⟨_, _, _, _, _, _, _, _, _, _, _, hqA⟩
          have cB : ∀ {x0 x1 x2 x3 x4 x5 x6 : Value}, CBox (put7 w6 r x0 x1 x2 x3 x4 x5 x6) (r + 1) := ⟨_, _, _, _, _, _, _, _, _, _, _, (put7_same (by omega)).trans hqB⟩
          refine ⟨(put7_same (by omega)).trans (put7_at hqA), put7_at ((put7_same (by omega)).trans hqB), (put7_same (by omega)).trans ((put7_same (by omega)).trans hqC), frac_put7 cB (frac_put7 cA (hcuts.out.1.next h6)), frac_put7 cB (frac_put7 cA (hcuts.out.2.1.next h6)), ?_⟩
          have hb := hcuts.out.2.2.1
          rw [← hr'] at hb
          exact put7_below (put7_below (hb.trans (h6.mono (by omega))) (Nat.le_refl _)) (by omega)
        unfold put7 at hT
        exact hT
  case rest =>
    obtain ⟨hq4, hq5, hq6, hF, hG, hb⟩ := hcut.out
    clear hcut
    obtain ⟨⟨x0, x1, x2, x3, x4, x5, x6⟩, xf, _⟩ := cells7 hq4
    obtain ⟨⟨y0, y1, y2, y3, y4, y5, y6⟩, yf, _⟩ := cells7 hq5
    have kK : Hid (Calls Tryz.prog 49 #[.agg #[.int .i64 3, .bool false, .string ⟨#[]⟩, .bool n1, .slice a1 l1 c1, .bool n2, .slice a2 l2 c2], .agg #[.int .i64 3, .bool false, .string ⟨#[]⟩, .bool m1, .slice b1 k1 d1, .bool m2, .slice b2 k2 d2]] wc _) := commonKind_int
    have hl6 : r + 1 + 1 < wc.heap.size := (Array.getElem?_eq_some_iff.1 hq6).1
    have hall : Hid (wc.heap[r]? = some (.cells #[.int .i64 3, .bool false, .string ⟨#[]⟩, .bool n1, .slice a1 l1 c1, .bool n2, .slice a2 l2 c2] 32 (0, 0)) ∧ wc.heap[r + 1]? = some (.cells #[.int .i64 3, .bool false, .string ⟨#[]⟩, .bool m1, .slice b1 k1 d1, .bool m2, .slice b2 k2 d2] 32 (0, 0)) ∧ wc.heap[r + 1 + 1]? = some (.cells #[.int .i64 0, .bool false, .string ⟨#[]⟩, .bool false, .slice none 0 0, .bool false, .slice none 0 0] 32 (0, 0)) ∧ Frac wc (.agg #[.bool n1, .slice a1 l1 c1, .bool n2, .slice a2 l2 c2]) n d m ∧ Frac wc (.agg #[.bool m1, .slice b1 k1 d1, .bool m2, .slice b2 k2 d2]) n' d' m ∧ Below r w wc ∧ r + 1 + 1 < wc.heap.size) := ⟨hq4, hq5, hq6, hF, hG, hb, hl6⟩
    clear hq4 hq5 hq6 hF hG hb hl6 xf yf hcuts hq4h hq5h hq6h hdh kA kB p0 q0 p1 q1 p2 q2 p3 q3 p4 q4 p5 q5 p6 q6
    go_wp2_with fail
    refine Calls.mono kK.out ?_
    clear kK
    rintro e w1 ⟨rfl, hb1⟩
    have hb1h : Hid (Below wc.heap.size wc w1) := hb1
    replace x0 := keep_cell hb1 x0
    replace x1 := keep_cell hb1 x1
    replace x2 := keep_cell hb1 x2
    replace x3 := keep_cell hb1 x3
    replace x4 := keep_cell hb1 x4
    replace x5 := keep_cell hb1 x5
    replace x6 := keep_cell hb1 x6
    replace y0 := keep_cell hb1 y0
    replace y1 := keep_cell hb1 y1
    replace y2 := keep_cell hb1 y2
    replace y3 := keep_cell hb1 y3
    replace y4 := keep_cell hb1 y4
    replace y5 := keep_cell hb1 y5
    replace y6 := keep_cell hb1 y6
    have hdh : Hid (Below w1.heap.size w1 w1.drew) := (Below.refl _ _).drew
    have kA : Hid (∀ X, Below w1.heap.size w1 X → Calls Tryz.prog 45 #[.agg #[.int .i64 3, .bool false, .string ⟨#[]⟩, .bool n1, .slice a1 l1 c1, .bool n2, .slice a2 l2 c2]] X fun e w' => ∃ t, e = .returned t ∧ OutE w' t y (m + 3) ∧ Below X.heap.size X w') := fun X hX => by
      have h := wholeOf_int ((hall.out.2.2.2.1.next hb1).next hX) (by omega) hwh.out.1
      rw [hwh.out.2.2.1] at h
      exact h
    have kB : Hid (∀ X, Below w1.heap.size w1 X → Calls Tryz.prog 45 #[.agg #[.int .i64 3, .bool false, .string ⟨#[]⟩, .bool m1, .slice b1 k1 d1, .bool m2, .slice b2 k2 d2]] X fun e w' => ∃ t, e = .returned t ∧ OutE w' t z (m + 3) ∧ Below X.heap.size X w') := fun X hX => by
      have h := wholeOf_int ((hall.out.2.2.2.2.1.next hb1).next hX) (by omega) hwh.out.2.1
      rw [hwh.out.2.2.2] at h
      exact h
    clear hb1
    go_upto_region 8 with fail
    go_region_with (first
      | (go_at_call 45; refine Calls.mono (kA.out _ hdh.out) ?_; rintro e w5 ⟨t1, rfl, hO1, hb5⟩; clear kA
         replace hb5 : Below w1.heap.size w1 w5 := hdh.out.trans hb5
         obtain ⟨g1, f1, e1, h1, rfl⟩ := hO1.num.form
         replace y0 := keep_cell hb5 y0; replace y1 := keep_cell hb5 y1; replace y2 := keep_cell hb5 y2; replace y3 := keep_cell hb5 y3; replace y4 := keep_cell hb5 y4; replace y5 := keep_cell hb5 y5; replace y6 := keep_cell hb5 y6
         have hO1h : Hid (OutE w5 (.agg #[.bool g1, .slice f1 e1 h1]) y (m + 3)) := hO1
         have hb5h : Hid (Below w1.heap.size w1 w5) := hb5
         clear hb5 hO1)
      | (go_at_call 45; refine Calls.mono (kB.out _ hb5h.out) ?_; rintro e w6 ⟨t2, rfl, hO2, hb6⟩; clear kB
         obtain ⟨g2, f2, e2, h2, rfl⟩ := hO2.num.form
         have hb6h : Hid (Below w1.heap.size w1 w6) := hb5h.out.trans (hb6.mono hb5h.out.size)
         have kC : Hid (Calls Tryz.prog 43 #[.string s, .agg #[.bool g1, .slice f1 e1 h1], .agg #[.bool g2, .slice f2 e2 h2]] w6 _) := binaryInt_none s (hO1h.out.next hb6).num hO2.num (fun X hX => hch.out X _ _ ((hO1h.out.next hb6).num.next hX) (hO2.num.next hX))
         clear hb6 hO2 hO1h)
      | (go_at_call 43; refine Calls.mono kC.out ?_; rintro e w7 ⟨rfl, hb7⟩; clear kC; unfold cNone
         have hb7h : Hid (Below w1.heap.size w1 w7) := hb6h.out.trans (hb7.mono hb6h.out.size)
         have hbc : Hid (Below wc.heap.size wc w7) := hb1h.out.trans (hb7h.out.mono hb1h.out.size)
         have hqC : w7.heap[r + 1 + 1]? = _ := (hbc.out.block _ hall.out.2.2.2.2.2.2).trans hall.out.2.2.1
         obtain ⟨⟨u0, u1, u2, u3, u4, u5, u6⟩, uf, _⟩ := cells7 hqC
         have uf0 := uf 0; have uf1 := uf 1; have uf2 := uf 2; have uf3 := uf 3; have uf4 := uf 4; have uf5 := uf 5; have uf6 := uf 6
         clear hb7 hqC uf))
    all_goals
      have hqC : w7.heap[r + 1 + 1]? = some (.cells #[.int .i64 0, .bool false, .string ⟨#[]⟩, .bool false, .slice none 0 0, .bool false, .slice none 0 0] 32 (0, 0)) := (hbc.out.block _ hall.out.2.2.2.2.2.2).trans hall.out.2.2.1
      obtain ⟨W8, hW8⟩ : ∃ W8, W8 = put7 w7 (r + 1 + 1) (.int .i64 0) (.bool false) (.string ⟨#[]⟩) (.bool false) (.slice none 0 0) (.bool false) (.slice none 0 0) := ⟨_, rfl⟩
      have hq8 : Hid (W8.heap[r + 1 + 1]? = some (.cells #[.int .i64 0, .bool false, .string ⟨#[]⟩, .bool false, .slice none 0 0, .bool false, .slice none 0 0] 32 (0, 0))) := by show _ = _; rw [hW8]; exact put7_at hqC
      have hB8 : Hid (Below w.heap.size w W8) := by
        show Below _ _ _
        rw [hW8, ← hrh.out]
        exact put7_below (hall.out.2.2.2.2.2.1.trans (hbc.out.mono (by have := hall.out.2.2.2.2.2.2; omega))) (by omega)
      clear hqC hall
      try unfold cNone
      go_wp2
      unfold put7 at hW8
      rw [← hW8]
      obtain ⟨⟨j0, j1, j2, j3, j4, j5, j6⟩, _, _⟩ := cells7 hq8.out
      exact bodyPost_ret (v := .tuple #[.agg #[.int .i64 0, .bool false, .string ⟨#[]⟩, .bool false, .slice none 0 0, .bool false, .slice none 0 0], .bool false]) (by simp [results, Tryz.results16, go_sem, j0, j1, j2, j3, j4, j5, j6]) rfl ⟨rfl, hB8.out⟩
theorem Bin_quo0 {w : World} {u v : Value} {y : Int} {m : Nat} (hu : CI w u y m) (hv : CI w v 0 m) (hm : m ≤ 70) :
    Calls Tryz.prog 16 #[.string ⟨#[47]⟩, u, v] w fun e w' => e = .returned (.tuple #[cNone, .bool false]) ∧ Below w.heap.size w w' := by
  obtain ⟨n, d, ⟨n1, a1, l1, c1, n2, a2, l2, c2, rfl, hF⟩, hy⟩ := hu
  obtain ⟨n', d', ⟨m1, b1, k1, d1, m2, b2, k2, d2, rfl, hG⟩, hz⟩ := hv
  exact Binary_none ⟨#[47]⟩ (by omega) hF hG hy hz (fun X a b ha hb => calc_quo0 ha hb (by omega) (by omega))
theorem Bin_rem0 {w : World} {u v : Value} {y : Int} {m : Nat} (hu : CI w u y m) (hv : CI w v 0 m) (hm : m ≤ 70) :
    Calls Tryz.prog 16 #[.string ⟨#[37]⟩, u, v] w fun e w' => e = .returned (.tuple #[cNone, .bool false]) ∧ Below w.heap.size w w' := by
  obtain ⟨n, d, ⟨n1, a1, l1, c1, n2, a2, l2, c2, rfl, hF⟩, hy⟩ := hu
  obtain ⟨n', d', ⟨m1, b1, k1, d1, m2, b2, k2, d2, rfl, hG⟩, hz⟩ := hv
  exact Binary_none ⟨#[37]⟩ (by omega) hF hG hy hz (fun X a b ha hb => calc_rem0 ha hb (by omega) (by omega))
end Go.Proofs.YtclokcoimdjaeaaGreatDoor
namespace Go.Proofs.YtclokcoimdjaeaaGreatDoor
open Go.RowKit
attribute [local go_sem ↓] Go.wp_at_zero Go.wp_at_succ
/-- A text as the law cuts it. -/
def cutT (s : ByteArray) : ByteArray := if 200 < s.size then s.extract 0 200 else s
theorem put5_at {w : World} {b T : Nat} {u0 u1 u2 u3 u4 u5 u6 v3 v4 v5 v6 : Value} (h : w.heap[b]? = some (.cells #[u0, u1, u2, u3, u4, u5, u6] T (0, 0))) : ((((w.setCell ⟨b, 3, none⟩ v3).setCell ⟨b, 4, none⟩ v4).setCell ⟨b, 5, none⟩ v5).setCell ⟨b, 6, none⟩ v6).heap[b]? = some (.cells #[u0, u1, u2, v3, v4, v5, v6] T (0, 0)) := by
  simp [World.setCell, Array.getElem?_modify, h]
theorem put2_at {w : World} {b T : Nat} {u0 u1 u2 u3 u4 u5 u6 v : Value} (h : w.heap[b]? = some (.cells #[u0, u1, u2, u3, u4, u5, u6] T (0, 0))) : (w.setCell ⟨b, 2, none⟩ v).heap[b]? = some (.cells #[u0, u1, v, u3, u4, u5, u6] T (0, 0)) := by
  simp [World.setCell, Array.getElem?_modify, h]
set_option maxRecDepth 20000 in
set_option maxHeartbeats 2000000 in
theorem Cut13_short {w : World} (k : Int) (b : Bool) (s : ByteArray) (n1 : Bool) (x1 : Option Addr) (c1 : Nat) (xs : List Int) (n2 : Bool) (x2 : Option Addr) (c2 : Nat) (ys : List Int) (h1 : Row w .u32 4294967296 x1 c1 xs) (h2 : Row w .u32 4294967296 x2 c2 ys) (lx ly : Nat) (hlx : (xs.take 6).length = lx) (hly : (ys.take 6).length = ly) (hs : s.size ≤ 200) :
    Calls Tryz.prog 13 #[.agg #[.int .i64 k, .bool b, .string s, .bool n1, .slice x1 xs.length c1, .bool n2, .slice x2 ys.length c2]] w fun e w' => e = .returned (.agg #[.int .i64 k, .bool b, .string s, .bool n1, .slice x1 lx c1, .bool n2, .slice x2 ly c2]) ∧ Below w.heap.size w w' := by
  obtain ⟨W, hW, hq0, hq1, hbW, hsz⟩ := two_new (w := w) (A := .cells #[.int .i64 k, .bool b, .string s, .bool n1, .slice x1 xs.length c1, .bool n2, .slice x2 ys.length c2] 32) (B := .cells #[.int .i64 0, .bool false, .string ⟨#[]⟩, .bool false, .slice none 0 0, .bool false, .slice none 0 0] 32)
  obtain ⟨⟨p0, p1, p2, p3, p4, p5, p6⟩, pf, pl⟩ := cells7 hq0
  have pf2 := pf 2
  obtain ⟨V, hV⟩ : ∃ V, V = W := ⟨_, rfl⟩
  have hq0V := hV ▸ hq0
  have hq1V := hV ▸ hq1
  have hbV := hV ▸ hbW
  have hszV := hV ▸ hsz
  have kC : Hid (Calls Tryz.prog 39 #[.agg #[.bool n1, .slice x1 xs.length c1, .bool n2, .slice x2 ys.length c2], .int .i64 6] V fun e w' => e = .returned (.agg #[.bool n1, .slice x1 lx c1, .bool n2, .slice x2 ly c2]) ∧ Below V.heap.size V w') := by
    subst hlx hly
    exact Cut26_any n1 x1 c1 xs n2 x2 c2 ys 6 (h1.next hbV) (h2.next hbV) (by omega)
  have hall : Hid (Below w.heap.size w V ∧ V.heap.size = w.heap.size + 1 + 1 ∧ V.heap[w.heap.size]? = some (.cells #[.int .i64 k, .bool b, .string s, .bool n1, .slice x1 xs.length c1, .bool n2, .slice x2 ys.length c2] 32 (0, 0)) ∧ V.heap[w.heap.size + 1]? = some (.cells #[.int .i64 0, .bool false, .string ⟨#[]⟩, .bool false, .slice none 0 0, .bool false, .slice none 0 0] 32 (0, 0))) := ⟨hbV, hszV, hq0V, hq1V⟩
  clear hlx hly hq0 hq1 hbW hsz hq0V hq1V hbV hszV h1 h2 pf
  go_enter Tryz.func13, Tryz.ntmps13
  go_upto_region 1 with fail
  rw [← hW]
  clear hW
  subst hV
  go_wp2_with fail
  refine Calls.mono kC.out ?_
  clear kC
  rintro e w1 ⟨rfl, hb1⟩
  have g0 := (hb1.block _ (by have := hall.out.2.1; omega)).trans hall.out.2.2.1
  have g1 := (hb1.block _ (by have := hall.out.2.1; omega)).trans hall.out.2.2.2
  have hB1 : Below w.heap.size w w1 := hall.out.1.trans (hb1.mono (by have := hall.out.2.1; omega))
  obtain ⟨⟨r0, r1, r2, r3, r4, r5, r6⟩, rf, rl⟩ := cells7 g0
  have rf0 := rf 0
  have rf1 := rf 1
  have rf2 := rf 2
  have rf3 := rf 3
  have rf4 := rf 4
  have rf5 := rf 5
  have rf6 := rf 6
  obtain ⟨Y, hY⟩ : ∃ Y, Y = (((w1.setCell ⟨w.heap.size, 3, none⟩ (.bool n1)).setCell ⟨w.heap.size, 4, none⟩ (.slice x1 lx c1)).setCell ⟨w.heap.size, 5, none⟩ (.bool n2)).setCell ⟨w.heap.size, 6, none⟩ (.slice x2 ly c2) := ⟨_, rfl⟩
  have hqY0 : Y.heap[w.heap.size]? = some (.cells #[.int .i64 k, .bool b, .string s, .bool n1, .slice x1 lx c1, .bool n2, .slice x2 ly c2] 32 (0, 0)) := by rw [hY]; exact put5_at g0
  have ne : w.heap.size + 1 ≠ w.heap.size := by omega
  have hqY1 : Y.heap[w.heap.size + 1]? = some (.cells #[.int .i64 0, .bool false, .string ⟨#[]⟩, .bool false, .slice none 0 0, .bool false, .slice none 0 0] 32 (0, 0)) := by rw [hY, Below.heap_setCell _ _ _ _ ne, Below.heap_setCell _ _ _ _ ne, Below.heap_setCell _ _ _ _ ne, Below.heap_setCell _ _ _ _ ne]; exact g1
  have hBY : Below w.heap.size w Y := by rw [hY]; exact (((hB1.setCell (Nat.le_refl _) _).setCell (Nat.le_refl _) _).setCell (Nat.le_refl _) _).setCell (Nat.le_refl _) _
  obtain ⟨W8, hW8⟩ : ∃ W8, W8 = put7 Y (w.heap.size + 1) (.int .i64 k) (.bool b) (.string s) (.bool n1) (.slice x1 lx c1) (.bool n2) (.slice x2 ly c2) := ⟨_, rfl⟩
  have hqW8 : Hid (W8.heap[w.heap.size + 1]? = some (.cells #[.int .i64 k, .bool b, .string s, .bool n1, .slice x1 lx c1, .bool n2, .slice x2 ly c2] 32 (0, 0))) := by show _ = _; rw [hW8]; exact put7_at hqY1
  have hBW8 : Hid (Below w.heap.size w W8) := by
    show Below _ _ _
    rw [hW8]
    exact put7_below hBY (by omega)
  obtain ⟨⟨y0, y1, y2, y3, y4, y5, y6⟩, _, _⟩ := cells7 hqY0
  obtain ⟨_, yf, _⟩ := cells7 hqY1
  have yf0 := yf 0
  have yf1 := yf 1
  have yf2 := yf 2
  have yf3 := yf 3
  have yf4 := yf 4
  have yf5 := yf 5
  have yf6 := yf 6
  clear g0 g1 hB1 hqY0 hqY1 hBY rf yf hb1 hall
  go_upto_region 4 with fail
  rw [← hY]
  clear hY
  go_wp2
  unfold put7 at hW8
  rw [← hW8]
  obtain ⟨⟨j0, j1, j2, j3, j4, j5, j6⟩, _, _⟩ := cells7 hqW8.out
  exact bodyPost_ret (v := .agg #[.int .i64 k, .bool b, .string s, .bool n1, .slice x1 lx c1, .bool n2, .slice x2 ly c2]) (by simp [results, Tryz.results13, go_sem, j0, j1, j2, j3, j4, j5, j6]) rfl ⟨rfl, hBW8.out⟩
set_option maxRecDepth 20000 in
set_option maxHeartbeats 2000000 in
theorem Cut13_long {w : World} (k : Int) (b : Bool) (s : ByteArray) (n1 : Bool) (x1 : Option Addr) (c1 : Nat) (xs : List Int) (n2 : Bool) (x2 : Option Addr) (c2 : Nat) (ys : List Int) (h1 : Row w .u32 4294967296 x1 c1 xs) (h2 : Row w .u32 4294967296 x2 c2 ys) (lx ly : Nat) (hlx : (xs.take 6).length = lx) (hly : (ys.take 6).length = ly) (hs : 200 < s.size) :
    Calls Tryz.prog 13 #[.agg #[.int .i64 k, .bool b, .string s, .bool n1, .slice x1 xs.length c1, .bool n2, .slice x2 ys.length c2]] w fun e w' => e = .returned (.agg #[.int .i64 k, .bool b, .string (s.extract 0 200), .bool n1, .slice x1 lx c1, .bool n2, .slice x2 ly c2]) ∧ Below w.heap.size w w' := by
  obtain ⟨W, hW, hq0, hq1, hbW, hsz⟩ := two_new (w := w) (A := .cells #[.int .i64 k, .bool b, .string s, .bool n1, .slice x1 xs.length c1, .bool n2, .slice x2 ys.length c2] 32) (B := .cells #[.int .i64 0, .bool false, .string ⟨#[]⟩, .bool false, .slice none 0 0, .bool false, .slice none 0 0] 32)
  obtain ⟨⟨p0, p1, p2, p3, p4, p5, p6⟩, pf, pl⟩ := cells7 hq0
  have pf2 := pf 2
  obtain ⟨V, hV⟩ : ∃ V, V = W.setCell ⟨w.heap.size, 2, none⟩ (.string (s.extract 0 200)) := ⟨_, rfl⟩
  have hq0V : V.heap[w.heap.size]? = some (.cells #[.int .i64 k, .bool b, .string (s.extract 0 200), .bool n1, .slice x1 xs.length c1, .bool n2, .slice x2 ys.length c2] 32 (0, 0)) := by rw [hV]; exact put2_at hq0
  have hq1V : V.heap[w.heap.size + 1]? = some (.cells #[.int .i64 0, .bool false, .string ⟨#[]⟩, .bool false, .slice none 0 0, .bool false, .slice none 0 0] 32 (0, 0)) := by rw [hV, Below.heap_setCell _ _ _ _ (by show w.heap.size + 1 ≠ w.heap.size; omega)]; exact hq1
  have hbV : Below w.heap.size w V := by rw [hV]; exact hbW.setCell (Nat.le_refl _) _
  have hszV : V.heap.size = w.heap.size + 1 + 1 := by rw [hV]; simp [hsz]
  obtain ⟨⟨v0, v1, v2, v3, v4, v5, v6⟩, vf, vl⟩ := cells7 hq0V
  have kC : Hid (Calls Tryz.prog 39 #[.agg #[.bool n1, .slice x1 xs.length c1, .bool n2, .slice x2 ys.length c2], .int .i64 6] V fun e w' => e = .returned (.agg #[.bool n1, .slice x1 lx c1, .bool n2, .slice x2 ly c2]) ∧ Below V.heap.size V w') := by
    subst hlx hly
    exact Cut26_any n1 x1 c1 xs n2 x2 c2 ys 6 (h1.next hbV) (h2.next hbV) (by omega)
  have hall : Hid (Below w.heap.size w V ∧ V.heap.size = w.heap.size + 1 + 1 ∧ V.heap[w.heap.size]? = some (.cells #[.int .i64 k, .bool b, .string (s.extract 0 200), .bool n1, .slice x1 xs.length c1, .bool n2, .slice x2 ys.length c2] 32 (0, 0)) ∧ V.heap[w.heap.size + 1]? = some (.cells #[.int .i64 0, .bool false, .string ⟨#[]⟩, .bool false, .slice none 0 0, .bool false, .slice none 0 0] 32 (0, 0))) := ⟨hbV, hszV, hq0V, hq1V⟩
  clear hlx hly hq0 hq1 hbW hsz hq0V hq1V hbV hszV h1 h2 pf
  go_enter Tryz.func13, Tryz.ntmps13
  go_upto_region 1 with fail
  rw [← hW]
  clear hW
  go_upto_region 3 with fail
  rw [← hV]
  clear hV p0 p1 p2 p3 p4 p5 p6
  go_wp2_with fail
  refine Calls.mono kC.out ?_
  clear kC
  rintro e w1 ⟨rfl, hb1⟩
  have g0 := (hb1.block _ (by have := hall.out.2.1; omega)).trans hall.out.2.2.1
  have g1 := (hb1.block _ (by have := hall.out.2.1; omega)).trans hall.out.2.2.2
  have hB1 : Below w.heap.size w w1 := hall.out.1.trans (hb1.mono (by have := hall.out.2.1; omega))
  obtain ⟨⟨r0, r1, r2, r3, r4, r5, r6⟩, rf, rl⟩ := cells7 g0
  have rf0 := rf 0
  have rf1 := rf 1
  have rf2 := rf 2
  have rf3 := rf 3
  have rf4 := rf 4
  have rf5 := rf 5
  have rf6 := rf 6
  obtain ⟨Y, hY⟩ : ∃ Y, Y = (((w1.setCell ⟨w.heap.size, 3, none⟩ (.bool n1)).setCell ⟨w.heap.size, 4, none⟩ (.slice x1 lx c1)).setCell ⟨w.heap.size, 5, none⟩ (.bool n2)).setCell ⟨w.heap.size, 6, none⟩ (.slice x2 ly c2) := ⟨_, rfl⟩
  have hqY0 : Y.heap[w.heap.size]? = some (.cells #[.int .i64 k, .bool b, .string (s.extract 0 200), .bool n1, .slice x1 lx c1, .bool n2, .slice x2 ly c2] 32 (0, 0)) := by rw [hY]; exact put5_at g0
  have ne : w.heap.size + 1 ≠ w.heap.size := by omega
  have hqY1 : Y.heap[w.heap.size + 1]? = some (.cells #[.int .i64 0, .bool false, .string ⟨#[]⟩, .bool false, .slice none 0 0, .bool false, .slice none 0 0] 32 (0, 0)) := by rw [hY, Below.heap_setCell _ _ _ _ ne, Below.heap_setCell _ _ _ _ ne, Below.heap_setCell _ _ _ _ ne, Below.heap_setCell _ _ _ _ ne]; exact g1
  have hBY : Below w.heap.size w Y := by rw [hY]; exact (((hB1.setCell (Nat.le_refl _) _).setCell (Nat.le_refl _) _).setCell (Nat.le_refl _) _).setCell (Nat.le_refl _) _
  obtain ⟨W8, hW8⟩ : ∃ W8, W8 = put7 Y (w.heap.size + 1) (.int .i64 k) (.bool b) (.string (s.extract 0 200)) (.bool n1) (.slice x1 lx c1) (.bool n2) (.slice x2 ly c2) := ⟨_, rfl⟩
  have hqW8 : Hid (W8.heap[w.heap.size + 1]? = some (.cells #[.int .i64 k, .bool b, .string (s.extract 0 200), .bool n1, .slice x1 lx c1, .bool n2, .slice x2 ly c2] 32 (0, 0))) := by show _ = _; rw [hW8]; exact put7_at hqY1
  have hBW8 : Hid (Below w.heap.size w W8) := by
    show Below _ _ _
    rw [hW8]
    exact put7_below hBY (by omega)
  obtain ⟨⟨y0, y1, y2, y3, y4, y5, y6⟩, _, _⟩ := cells7 hqY0
  obtain ⟨_, yf, _⟩ := cells7 hqY1
  have yf0 := yf 0
  have yf1 := yf 1
  have yf2 := yf 2
  have yf3 := yf 3
  have yf4 := yf 4
  have yf5 := yf 5
  have yf6 := yf 6
  clear g0 g1 hB1 hqY0 hqY1 hBY rf yf hb1 hall
  go_upto_region 4 with fail
  rw [← hY]
  clear hY
  go_wp2
  unfold put7 at hW8
  rw [← hW8]
  obtain ⟨⟨j0, j1, j2, j3, j4, j5, j6⟩, _, _⟩ := cells7 hqW8.out
  exact bodyPost_ret (v := .agg #[.int .i64 k, .bool b, .string (s.extract 0 200), .bool n1, .slice x1 lx c1, .bool n2, .slice x2 ly c2]) (by simp [results, Tryz.results13, go_sem, j0, j1, j2, j3, j4, j5, j6]) rfl ⟨rfl, hBW8.out⟩
theorem Cut13_any {w : World} (k : Int) (b : Bool) (s : ByteArray) (n1 : Bool) (x1 : Option Addr) (c1 : Nat) (xs : List Int) (n2 : Bool) (x2 : Option Addr) (c2 : Nat) (ys : List Int) (h1 : Row w .u32 4294967296 x1 c1 xs) (h2 : Row w .u32 4294967296 x2 c2 ys) :
    Calls Tryz.prog 13 #[.agg #[.int .i64 k, .bool b, .string s, .bool n1, .slice x1 xs.length c1, .bool n2, .slice x2 ys.length c2]] w fun e w' => e = .returned (.agg #[.int .i64 k, .bool b, .string (cutT s), .bool n1, .slice x1 (xs.take 6).length c1, .bool n2, .slice x2 (ys.take 6).length c2]) ∧ Below w.heap.size w w' := by
  unfold cutT
  by_cases hs : 200 < s.size
  · rw [if_pos hs]
    exact Cut13_long k b s n1 x1 c1 xs n2 x2 c2 ys h1 h2 _ _ rfl rfl hs
  · rw [if_neg hs]
    exact Cut13_short k b s n1 x1 c1 xs n2 x2 c2 ys h1 h2 _ _ rfl rfl (by omega)
end Go.Proofs.YtclokcoimdjaeaaGreatDoor
