/- constants: numbers of both kinds admitted; an integer type's range asked. -/
import Derived.Test.YtclokcoimdjaeaaGreatDoorQpm
import Derived.Test.YtclokcoimdjaeaaGreatDoorNemm
import Derived.Test.YtclokcoimdjaeaaGreatDoorZd
namespace Go.Proofs.YtclokcoimdjaeaaGreatDoor
open Go.RowKit
attribute [local go_sem ↓] Go.wp_at_zero Go.wp_at_succ
theorem own_put7 {w : World} {base : Nat} {k : IntKind} {B : Int} {a : Option Addr} {cap : Nat} {zs : List Int} (h : Own w base k 139 B a cap zs) {b : Nat} {cur : Array Value} (hq : w.heap[b]? = some (.cells cur 32 (0, 0))) {v0 v1 v2 v3 v4 v5 v6 : Value} : Own (put7 w b v0 v1 v2 v3 v4 v5 v6) base k 139 B a cap zs := by
  obtain ⟨hw, h⟩ := h
  refine ⟨hw, ?_⟩
  rcases h with h | ⟨g, e, hg, hb⟩
  · exact .inl h
  · refine .inr ⟨g, e, hg, hb.same (put7_same ?_)⟩
    intro eb
    obtain ⟨c', h', _⟩ := hb
    rw [eb, hq] at h'
    cases h'
theorem fracE_put7 {w : World} {v : Value} {n d : Int} {m : Nat} (h : FracE w v n d m) {b : Nat} {cur : Array Value} (hq : w.heap[b]? = some (.cells cur 32 (0, 0))) {v0 v1 v2 v3 v4 v5 v6 : Value} : FracE (put7 w b v0 v1 v2 v3 v4 v5 v6) v n d m := by
  obtain ⟨n1, a1, l1, c1, n2, a2, l2, c2, e, ⟨x, x1, x2, x3, x4, x5, x6, x7⟩, ⟨y, y1, y2, y3, y4, y5, y6, y7⟩⟩ := h
  exact ⟨n1, a1, l1, c1, n2, a2, l2, c2, e, ⟨x, x1, x2, x3, x4, x5, own_put7 x6 hq, x7⟩, ⟨y, y1, y2, y3, y4, y5, own_put7 y6 hq, y7⟩⟩
/-- A whole constant, just as it is told. -/
def CIE (w : World) (v : Value) (z : Int) (m : Nat) : Prop := ∃ n1 a1 l1 c1 n2 a2 l2 c2, v = .agg #[.int .i64 3, .bool false, .string ⟨#[]⟩, .bool n1, .slice a1 l1 c1, .bool n2, .slice a2 l2 c2] ∧ FracE w (.agg #[.bool n1, .slice a1 l1 c1, .bool n2, .slice a2 l2 c2]) z 1 m
theorem CIE.next {w w' : World} {v : Value} {z : Int} {m : Nat} (h : CIE w v z m) (hb : Below w.heap.size w w') : CIE w' v z m := by
  obtain ⟨n1, a1, l1, c1, n2, a2, l2, c2, e, hF⟩ := h
  exact ⟨n1, a1, l1, c1, n2, a2, l2, c2, e, hF.next hb⟩
theorem low_whole {z p q : Int} (h : Low z 1 p q) : p = z ∧ q = 1 := low_uniq h.1 (by decide) h.2.1 (by simp) (by have := h.2.2; omega)
set_option maxRecDepth 20000 in
set_option maxHeartbeats 2000000 in
theorem ofNumber_id {w : World} {n1 : Bool} {a1 : Option Addr} {l1 c1 : Nat} {n2 : Bool} {a2 : Option Addr} {l2 c2 : Nat} {k n d : Int} {m : Nat} (hv : Frac w (.agg #[.bool n1, .slice a1 l1 c1, .bool n2, .slice a2 l2 c2]) n d m) (hm : m ≤ 200) :
    Calls Tryz.prog 48 #[.int .i64 k, .agg #[.bool n1, .slice a1 l1 c1, .bool n2, .slice a2 l2 c2], .bool true] w fun e w' => e = .returned (.tuple #[.agg #[.int .i64 k, .bool false, .string ⟨#[]⟩, .bool n1, .slice a1 l1 c1, .bool n2, .slice a2 l2 c2], .bool true]) ∧ Below w.heap.size w w' := by
  obtain ⟨W0, hW0, hbW0, hlt0, ⟨p0, p1, p2, p3⟩, _, _⟩ := box4 w n1 a1 l1 c1 n2 a2 l2 c2
  obtain ⟨W, hW⟩ : ∃ W, W = W0.alloc (.cells #[.int .i64 0, .bool false, .string ⟨#[]⟩, .bool false, .slice none 0 0, .bool false, .slice none 0 0] 32) := ⟨_, rfl⟩
  have hs0 : W0.heap.size = w.heap.size + 1 := by rw [hW0]; simp
  have hbW : Below W0.heap.size W0 W := by rw [hW]; exact (Below.refl _ _).alloc (Nat.le_refl _) _
  have hq : W.heap[w.heap.size + 1]? = some (.cells #[.int .i64 0, .bool false, .string ⟨#[]⟩, .bool false, .slice none 0 0, .bool false, .slice none 0 0] 32 (0, 0)) := by rw [hW, ← hs0]; exact newAt _ _
  replace p0 := keep_cell hbW p0
  replace p1 := keep_cell hbW p1
  replace p2 := keep_cell hbW p2
  replace p3 := keep_cell hbW p3
  have kS : Hid (Calls Tryz.prog 96 #[.agg #[.bool n1, .slice a1 l1 c1, .bool n2, .slice a2 l2 c2]] W _) := isShort_num ((hv.next hbW0).next hbW) hm
  have hvh : Hid (Frac w (.agg #[.bool n1, .slice a1 l1 c1, .bool n2, .slice a2 l2 c2]) n d m) := hv
  have hB : Hid (Below w.heap.size w W) := hbW0.trans (hbW.mono (by omega))
  have hqh : Hid (W.heap[w.heap.size + 1]? = _) := hq
  have hsW : Hid (w.heap.size + 1 < W.heap.size) := (Array.getElem?_eq_some_iff.1 hq).1
  clear hv hq hbW hbW0 hs0 hlt0
  go_enter Tryz.func48, Tryz.ntmps48
  go_upto_region 1 with fail
  rw [← hW0, ← hW]
  clear hW hW0
  go_wp2_with fail
  refine Calls.mono kS.out ?_
  rintro e w1 ⟨rfl, hb1⟩
  replace p0 := keep_cell hb1 p0
  replace p1 := keep_cell hb1 p1
  replace p2 := keep_cell hb1 p2
  replace p3 := keep_cell hb1 p3
  have hq1 := (hb1.block _ hsW.out).trans hqh.out
  obtain ⟨⟨r0, r1, r2, r3, r4, r5, r6⟩, rf, rl⟩ := cells7 hq1
  have rf0 := rf 0
  have rf1 := rf 1
  have rf2 := rf 2
  have rf3 := rf 3
  have rf4 := rf 4
  have rf5 := rf 5
  have rf6 := rf 6
  obtain ⟨W8, hW8⟩ : ∃ W8, W8 = put7 w1 (w.heap.size + 1) (.int .i64 k) (.bool false) (.string ⟨#[]⟩) (.bool n1) (.slice a1 l1 c1) (.bool n2) (.slice a2 l2 c2) := ⟨_, rfl⟩
  have hq8 : Hid (W8.heap[w.heap.size + 1]? = some (.cells #[.int .i64 k, .bool false, .string ⟨#[]⟩, .bool n1, .slice a1 l1 c1, .bool n2, .slice a2 l2 c2] 32 (0, 0))) := by show _ = _; rw [hW8]; exact put7_at hq1
  have hB8 : Hid (Below w.heap.size w W8) := by
    show Below _ _ _
    rw [hW8]
    exact put7_below (hB.out.trans (hb1.mono (by have := hsW.out; omega))) (by omega)
  clear kS hb1 hq1 rf hqh
  go_wp2
  unfold put7 at hW8
  rw [← hW8]
  obtain ⟨⟨j0, j1, j2, j3, j4, j5, j6⟩, _, _⟩ := cells7 hq8.out
  exact bodyPost_ret (v := .tuple #[.agg #[.int .i64 k, .bool false, .string ⟨#[]⟩, .bool n1, .slice a1 l1 c1, .bool n2, .slice a2 l2 c2], .bool true]) (by simp [results, Tryz.results48, go_sem, j0, j1, j2, j3, j4, j5, j6]) rfl ⟨rfl, hB8.out⟩
set_option maxRecDepth 20000 in
set_option maxHeartbeats 2000000 in
theorem admitNumber_flt {w : World} {n1 : Bool} {a1 : Option Addr} {l1 c1 : Nat} {n2 : Bool} {a2 : Option Addr} {l2 c2 : Nat} {n d : Int} {m : Nat} (hv : Frac w (.agg #[.bool n1, .slice a1 l1 c1, .bool n2, .slice a2 l2 c2]) n d m) (hm : m ≤ 200) :
    Calls Tryz.prog 88 #[.int .i64 4, .agg #[.bool n1, .slice a1 l1 c1, .bool n2, .slice a2 l2 c2]] w fun e w' => e = .returned (.agg #[.int .i64 4, .bool false, .string ⟨#[]⟩, .bool n1, .slice a1 l1 c1, .bool n2, .slice a2 l2 c2]) ∧ Below w.heap.size w w' := by
  obtain ⟨W0, hW0, hbW0, hlt0, ⟨p0, p1, p2, p3⟩, _, _⟩ := box4 w n1 a1 l1 c1 n2 a2 l2 c2
  obtain ⟨W, hW⟩ : ∃ W, W = W0.alloc (.cells #[.int .i64 0, .bool false, .string ⟨#[]⟩, .bool false, .slice none 0 0, .bool false, .slice none 0 0] 32) := ⟨_, rfl⟩
  have hs0 : W0.heap.size = w.heap.size + 1 := by rw [hW0]; simp
  have hbW : Below W0.heap.size W0 W := by rw [hW]; exact (Below.refl _ _).alloc (Nat.le_refl _) _
  have hq : W.heap[w.heap.size + 1]? = some (.cells #[.int .i64 0, .bool false, .string ⟨#[]⟩, .bool false, .slice none 0 0, .bool false, .slice none 0 0] 32 (0, 0)) := by rw [hW, ← hs0]; exact newAt _ _
  replace p0 := keep_cell hbW p0
  replace p1 := keep_cell hbW p1
  replace p2 := keep_cell hbW p2
  replace p3 := keep_cell hbW p3
  have hvW := (hv.next hbW0).next hbW
  have kS : Hid (Calls Tryz.prog 156 #[.agg #[.bool n1, .slice a1 l1 c1, .bool n2, .slice a2 l2 c2]] W _) := shorten_num hvW hm
  have hB : Hid (Below w.heap.size w W) := hbW0.trans (hbW.mono (by omega))
  have hqh : Hid (W.heap[w.heap.size + 1]? = some (.cells #[.int .i64 0, .bool false, .string ⟨#[]⟩, .bool false, .slice none 0 0, .bool false, .slice none 0 0] 32 (0, 0))) := hq
  have hsW : Hid (w.heap.size + 1 < W.heap.size) := (Array.getElem?_eq_some_iff.1 hq).1
  clear hv hvW hq hbW hbW0 hs0 hlt0
  go_enter Tryz.func88, Tryz.ntmps88
  go_upto_region 1 with fail
  rw [← hW0, ← hW]
  clear hW hW0
  go_wp2_with fail
  refine Calls.mono kS.out ?_
  rintro e w1 ⟨rfl, hb1⟩
  obtain ⟨X1, hX1⟩ : ∃ X1, X1 = w1.alloc (.cells #[.bool n1, .slice a1 l1 c1, .bool n2, .slice a2 l2 c2] 30) := ⟨_, rfl⟩
  have hbX1 : Below w1.heap.size w1 X1 := by rw [hX1]; exact (Below.refl _ _).alloc (Nat.le_refl _) _
  have hqX : X1.heap[w1.heap.size]? = some (.cells #[.bool n1, .slice a1 l1 c1, .bool n2, .slice a2 l2 c2] 30 (0, 0)) := by rw [hX1]; exact newAt _ _
  obtain ⟨⟨x0, x1, x2, x3⟩, _, xl⟩ := cells4 hqX
  have hbWX : Below W.heap.size W X1 := hb1.trans (hbX1.mono hb1.size)
  have hbWXh : Hid (Below W.heap.size W X1) := hbWX
  have hqXh : Hid (X1.heap[w1.heap.size]? = some (.cells #[.bool n1, .slice a1 l1 c1, .bool n2, .slice a2 l2 c2] 30 (0, 0))) := hqX
  clear kS hb1 hbX1 hbWX hqX p0 p1 p2 p3
  go_upto_region 2 with fail
  rw [← hX1]
  clear hX1
  obtain ⟨bx, hbx⟩ : ∃ bx, bx = w1.heap.size := ⟨_, rfl⟩
  rw [← hbx] at x0 x1 x2 x3 xl hqXh ⊢
  clear hbx
  have hq2 := (hbWXh.out.block _ hsW.out).trans hqh.out
  have hB2 : Hid (Below w.heap.size w X1) := hB.out.trans (hbWXh.out.mono (by have := hsW.out; omega))
  obtain ⟨⟨r0, r1, r2, r3, r4, r5, r6⟩, rf, rl⟩ := cells7 hq2
  have rf0 := rf 0
  have rf1 := rf 1
  have rf2 := rf 2
  have rf3 := rf 3
  have rf4 := rf 4
  have rf5 := rf 5
  have rf6 := rf 6
  obtain ⟨W8, hW8⟩ : ∃ W8, W8 = put7 X1 (w.heap.size + 1) (.int .i64 4) (.bool false) (.string ⟨#[]⟩) (.bool n1) (.slice a1 l1 c1) (.bool n2) (.slice a2 l2 c2) := ⟨_, rfl⟩
  have hqW8 : Hid (W8.heap[w.heap.size + 1]? = some (.cells #[.int .i64 4, .bool false, .string ⟨#[]⟩, .bool n1, .slice a1 l1 c1, .bool n2, .slice a2 l2 c2] 32 (0, 0))) := by show _ = _; rw [hW8]; exact put7_at hq2
  have hBW8 : Hid (Below w.heap.size w W8) := by
    show Below _ _ _
    rw [hW8]
    exact put7_below hB2.out (by omega)
  clear hq2 rf hqh hqXh hbWXh hB hB2
  go_wp2
  unfold put7 at hW8
  rw [← hW8]
  obtain ⟨⟨j0, j1, j2, j3, j4, j5, j6⟩, _, _⟩ := cells7 hqW8.out
  exact bodyPost_ret (v := .agg #[.int .i64 4, .bool false, .string ⟨#[]⟩, .bool n1, .slice a1 l1 c1, .bool n2, .slice a2 l2 c2]) (by simp [results, Tryz.results88, go_sem, j0, j1, j2, j3, j4, j5, j6]) rfl ⟨rfl, hBW8.out⟩
set_option maxRecDepth 20000 in
set_option maxHeartbeats 2000000 in
theorem admit_flt {w : World} {n1 : Bool} {a1 : Option Addr} {l1 c1 : Nat} {n2 : Bool} {a2 : Option Addr} {l2 c2 : Nat} {n d : Int} {m : Nat} (hv : Frac w (.agg #[.bool n1, .slice a1 l1 c1, .bool n2, .slice a2 l2 c2]) n d m) (hm : m ≤ 200) :
    Calls Tryz.prog 41 #[.agg #[.int .i64 4, .bool false, .string ⟨#[]⟩, .bool n1, .slice a1 l1 c1, .bool n2, .slice a2 l2 c2]] w fun e w' => e = .returned (.agg #[.int .i64 4, .bool false, .string ⟨#[]⟩, .bool n1, .slice a1 l1 c1, .bool n2, .slice a2 l2 c2]) ∧ Below w.heap.size w w' := by
  obtain ⟨W0, hW0⟩ : ∃ W0, W0 = w.alloc (.cells #[.int .i64 4, .bool false, .string ⟨#[]⟩, .bool n1, .slice a1 l1 c1, .bool n2, .slice a2 l2 c2] 32) := ⟨_, rfl⟩
  have hbW0 : Below w.heap.size w W0 := by rw [hW0]; exact (Below.refl _ _).alloc (Nat.le_refl _) _
  have hs0 : W0.heap.size = w.heap.size + 1 := by rw [hW0]; simp
  have hq0 : W0.heap[w.heap.size]? = some (.cells #[.int .i64 4, .bool false, .string ⟨#[]⟩, .bool n1, .slice a1 l1 c1, .bool n2, .slice a2 l2 c2] 32 (0, 0)) := by rw [hW0]; exact newAt _ _
  obtain ⟨W, hW⟩ : ∃ W, W = W0.alloc (.cells #[.int .i64 0, .bool false, .string ⟨#[]⟩, .bool false, .slice none 0 0, .bool false, .slice none 0 0] 32) := ⟨_, rfl⟩
  have hbW : Below W0.heap.size W0 W := by rw [hW]; exact (Below.refl _ _).alloc (Nat.le_refl _) _
  have hq : W.heap[w.heap.size + 1]? = some (.cells #[.int .i64 0, .bool false, .string ⟨#[]⟩, .bool false, .slice none 0 0, .bool false, .slice none 0 0] 32 (0, 0)) := by rw [hW, ← hs0]; exact newAt _ _
  obtain ⟨⟨p0, p1, p2, p3, p4, p5, p6⟩, _, _⟩ := cells7 ((hbW.block _ (by omega)).trans hq0)
  have kA : Hid (Calls Tryz.prog 88 #[.int .i64 4, .agg #[.bool n1, .slice a1 l1 c1, .bool n2, .slice a2 l2 c2]] W _) := admitNumber_flt ((hv.next hbW0).next hbW) hm
  have hB : Hid (Below w.heap.size w W) := hbW0.trans (hbW.mono (by omega))
  have hqh : Hid (W.heap[w.heap.size + 1]? = some (.cells #[.int .i64 0, .bool false, .string ⟨#[]⟩, .bool false, .slice none 0 0, .bool false, .slice none 0 0] 32 (0, 0))) := hq
  have hsW : Hid (w.heap.size + 1 < W.heap.size) := (Array.getElem?_eq_some_iff.1 hq).1
  clear hv hq hbW hbW0 hs0 hq0
  go_enter Tryz.func41, Tryz.ntmps41
  go_upto_region 1 with fail
  rw [← hW0, ← hW]
  clear hW hW0
  go_wp2_with fail
  refine Calls.mono kA.out ?_
  clear kA
  rintro e w1 ⟨rfl, hb1⟩
  have hq1 := (hb1.block _ hsW.out).trans hqh.out
  have hB1 : Hid (Below w.heap.size w w1) := hB.out.trans (hb1.mono (by have := hsW.out; omega))
  obtain ⟨⟨r0, r1, r2, r3, r4, r5, r6⟩, rf, rl⟩ := cells7 hq1
  have rf0 := rf 0
  have rf1 := rf 1
  have rf2 := rf 2
  have rf3 := rf 3
  have rf4 := rf 4
  have rf5 := rf 5
  have rf6 := rf 6
  obtain ⟨W8, hW8⟩ : ∃ W8, W8 = put7 w1 (w.heap.size + 1) (.int .i64 4) (.bool false) (.string ⟨#[]⟩) (.bool n1) (.slice a1 l1 c1) (.bool n2) (.slice a2 l2 c2) := ⟨_, rfl⟩
  have hqW8 : Hid (W8.heap[w.heap.size + 1]? = some (.cells #[.int .i64 4, .bool false, .string ⟨#[]⟩, .bool n1, .slice a1 l1 c1, .bool n2, .slice a2 l2 c2] 32 (0, 0))) := by show _ = _; rw [hW8]; exact put7_at hq1
  have hBW8 : Hid (Below w.heap.size w W8) := by
    show Below _ _ _
    rw [hW8]
    exact put7_below hB1.out (by omega)
  clear hq1 rf hb1 hqh hB hB1 p0 p1 p2 p3 p4 p5 p6
  go_wp2
  unfold put7 at hW8
  rw [← hW8]
  obtain ⟨⟨j0, j1, j2, j3, j4, j5, j6⟩, _, _⟩ := cells7 hqW8.out
  exact bodyPost_ret (v := .agg #[.int .i64 4, .bool false, .string ⟨#[]⟩, .bool n1, .slice a1 l1 c1, .bool n2, .slice a2 l2 c2]) (by simp [results, Tryz.results41, go_sem, j0, j1, j2, j3, j4, j5, j6]) rfl ⟨rfl, hBW8.out⟩
set_option maxRecDepth 20000 in
set_option maxHeartbeats 2000000 in
theorem isNumber_flt {w : World} {n1 : Bool} {a1 : Option Addr} {l1 c1 : Nat} {n2 : Bool} {a2 : Option Addr} {l2 c2 : Nat} : Calls Tryz.prog 46 #[.agg #[.int .i64 4, .bool false, .string ⟨#[]⟩, .bool n1, .slice a1 l1 c1, .bool n2, .slice a2 l2 c2]] w fun e w' => e = .returned (.bool true) ∧ Below w.heap.size w w' := by
  obtain ⟨W, hW⟩ : ∃ W, W = w.alloc (.cells #[.int .i64 4, .bool false, .string ⟨#[]⟩, .bool n1, .slice a1 l1 c1, .bool n2, .slice a2 l2 c2] 32) := ⟨_, rfl⟩
  have hbW : Hid (Below w.heap.size w W) := by show Below _ _ _; rw [hW]; exact (Below.refl _ _).alloc (Nat.le_refl _) _
  have hq : W.heap[w.heap.size]? = some (.cells #[.int .i64 4, .bool false, .string ⟨#[]⟩, .bool n1, .slice a1 l1 c1, .bool n2, .slice a2 l2 c2] 32 (0, 0)) := by rw [hW]; exact newAt _ _
  obtain ⟨⟨p0, p1, p2, p3, p4, p5, p6⟩, _, _⟩ := cells7 hq
  clear hq
  go_enter Tryz.func46, Tryz.ntmps46
  go_upto_region 1 with fail
  rw [← hW]
  clear hW
  go_wp2
  go_ret
  exact ⟨rfl, hbW.out⟩
set_option maxRecDepth 20000 in
set_option maxHeartbeats 2000000 in
theorem fitInt_yesE {w : World} {n1 : Bool} {a1 : Option Addr} {l1 c1 : Nat} {n2 : Bool} {a2 : Option Addr} {l2 c2 : Nat} {n d z LO HI : Int} {m : Nat} (s : ByteArray) (hm : m ≤ 150) (hF : Frac w (.agg #[.bool n1, .slice a1 l1 c1, .bool n2, .slice a2 l2 c2]) n d m) (hz : pN n d = z * pD d)
    (hE : ∀ X : World, Calls Tryz.prog 182 #[.string s] X fun e w' => ∃ u v, e = .returned (.tuple #[u, v, .bool true]) ∧ Num w' u LO 2 ∧ Num w' v HI 2 ∧ Below X.heap.size X w') (hlo : LO ≤ z) (hhi : z ≤ HI) :
    Calls Tryz.prog 112 #[.agg #[.bool n1, .slice a1 l1 c1, .bool n2, .slice a2 l2 c2], .string s] w fun e w' => ∃ t, e = .returned (.tuple #[t, .bool true]) ∧ CIE w' t z (m + 7) ∧ Below w.heap.size w w' := by
  have hw : (pN n d).tmod (pD d) = 0 := by rw [hz]; exact Int.mul_tmod_left _ _
  have hzz : (pN n d).tdiv (pD d) = z := by rw [hz]; exact Int.mul_tdiv_cancel _ (by have := pD_pos d; omega)
  obtain ⟨W, hW, hq2, hq4, hbW, hsz⟩ := two_new (w := w) (A := .cells #[.bool n1, .slice a1 l1 c1, .bool n2, .slice a2 l2 c2] 30) (B := .cells #[.int .i64 0, .bool false, .string ⟨#[]⟩, .bool false, .slice none 0 0, .bool false, .slice none 0 0] 32)
  obtain ⟨⟨p0, p1, p2, p3⟩, _, _⟩ := cells4 hq2
  have kE : Hid (Calls Tryz.prog 182 #[.string s] W _) := hE W
  have kI : Hid (∀ X, Below W.heap.size W X → Calls Tryz.prog 91 #[.agg #[.bool n1, .slice a1 l1 c1, .bool n2, .slice a2 l2 c2]] X fun e w' => ∃ t, e = .returned (.tuple #[t, .bool true]) ∧ OutE w' t z (m + 3) ∧ Below X.heap.size X w') := fun X hX => (Int_num ((hF.next hbW).next hX) (by omega)).mono fun e w' h => by
    obtain ⟨t, rfl, ⟨t', rfl, hI, _⟩, hb⟩ := h
    exact ⟨t', by rw [decide_eq_true hw], by rw [← hzz]; exact hI hw, hb⟩
  have hall : Hid (Below w.heap.size w W ∧ W.heap.size = w.heap.size + 1 + 1 ∧ W.heap[w.heap.size + 1]? = some (.cells #[.int .i64 0, .bool false, .string ⟨#[]⟩, .bool false, .slice none 0 0, .bool false, .slice none 0 0] 32 (0, 0))) := ⟨hbW, hsz, hq4⟩
  clear hq2 hq4 hbW hsz hF hz hw hzz hE
  go_enter Tryz.func112, Tryz.ntmps112
  go_upto_region 1 with fail
  rw [← hW]
  clear hW
  go_wp2_with fail
  refine Calls.mono kE.out ?_
  clear kE
  rintro e w1 ⟨u, v, rfl, hN1, hN2, hb1⟩
  obtain ⟨g1, f1, e1, h1, rfl⟩ := hN1.form
  obtain ⟨g2, f2, e2, h2, rfl⟩ := hN2.form
  obtain ⟨X, hX, hxa, hxb, hbX, hsX⟩ := two_new (w := w1) (A := .cells #[.bool g1, .slice f1 e1 h1] 28) (B := .cells #[.bool g2, .slice f2 e2 h2] 28)
  have hbWX : Hid (Below W.heap.size W X) := hb1.trans (hbX.mono hb1.size)
  have hN : Hid (Num X (.agg #[.bool g1, .slice f1 e1 h1]) LO 2 ∧ Num X (.agg #[.bool g2, .slice f2 e2 h2]) HI 2) := ⟨hN1.next hbX, hN2.next hbX⟩
  obtain ⟨⟨a0, a1'⟩, _, al⟩ := cells2 hxa
  obtain ⟨⟨b0, b1'⟩, _, bl⟩ := cells2 hxb
  replace p0 := keep_cell hbWX.out p0
  replace p1 := keep_cell hbWX.out p1
  replace p2 := keep_cell hbWX.out p2
  replace p3 := keep_cell hbWX.out p3
  have kI' : Hid (Calls Tryz.prog 91 #[.agg #[.bool n1, .slice a1 l1 c1, .bool n2, .slice a2 l2 c2]] X fun e w' => ∃ t, e = .returned (.tuple #[t, .bool true]) ∧ OutE w' t z (m + 3) ∧ Below X.heap.size X w') := kI.out X hbWX.out
  clear kI hN1 hN2 hb1 hxa hxb hbX hsX
  go_upto_region 2 with fail
  rw [← hX]
  clear hX
  obtain ⟨bx, hbx⟩ : ∃ bx, bx = w1.heap.size := ⟨_, rfl⟩
  rw [← hbx] at a0 a1' al b0 b1' bl ⊢
  clear hbx
  go_wp2_with fail
  refine Calls.mono kI'.out ?_
  clear kI'
  rintro e w2 ⟨t, rfl, hO, hb2⟩
  obtain ⟨g3, f3, e3, h3, rfl⟩ := hO.num.form
  obtain ⟨Y, hY⟩ : ∃ Y, Y = w2.alloc (.cells #[.bool g3, .slice f3 e3 h3] 28) := ⟨_, rfl⟩
  have hbY : Below w2.heap.size w2 Y := by rw [hY]; exact (Below.refl _ _).alloc (Nat.le_refl _) _
  have hqY : Y.heap[w2.heap.size]? = some (.cells #[.bool g3, .slice f3 e3 h3] 28 (0, 0)) := by rw [hY]; exact newAt _ _
  obtain ⟨⟨c0, c1'⟩, _, cl⟩ := cells2 hqY
  have hbXY : Below X.heap.size X Y := hb2.trans (hbY.mono hb2.size)
  replace a0 := keep_cell hbXY a0
  replace a1' := keep_cell hbXY a1'
  replace b0 := keep_cell hbXY b0
  replace b1' := keep_cell hbXY b1'
  have hNY : Hid (Num Y (.agg #[.bool g1, .slice f1 e1 h1]) LO 2 ∧ Num Y (.agg #[.bool g2, .slice f2 e2 h2]) HI 2 ∧ Num Y (.agg #[.bool g3, .slice f3 e3 h3]) z (m + 3)) := ⟨hN.out.1.next hbXY, hN.out.2.next hbXY, hO.num.next hbY⟩
  have hbWY : Hid (Below W.heap.size W Y) := hbWX.out.trans (hbXY.mono hbWX.out.size)
  have k1 : Hid (Calls Tryz.prog 99 #[.agg #[.bool g3, .slice f3 e3 h3], .agg #[.bool g1, .slice f1 e1 h1]] Y _) := Cmp_num hNY.out.2.2 hNY.out.1 (by omega) (by omega)
  have k2 : Hid (∀ Q, Below Y.heap.size Y Q → Calls Tryz.prog 99 #[.agg #[.bool g3, .slice f3 e3 h3], .agg #[.bool g2, .slice f2 e2 h2]] Q fun e w' => e = .returned (.int .i64 (cmpI z HI)) ∧ Below Q.heap.size Q w') := fun Q hQ => Cmp_num (hNY.out.2.2.next hQ) (hNY.out.2.1.next hQ) (by omega) (by omega)
  clear hO hb2 hbY hqY hbXY hN p0 p1 p2 p3 hbWX
  go_upto_region 3 with fail
  rw [← hY]
  clear hY
  obtain ⟨by', hby⟩ : ∃ by', by' = w2.heap.size := ⟨_, rfl⟩
  rw [← hby] at c0 c1' cl ⊢
  clear hby
  have hc1 : ¬ cmpI z LO < 0 := by rcases Int.lt_or_eq_of_le hlo with h | h; rw [cmpI_gt h]; decide; rw [cmpI_eq h.symm]; decide
  have hc2 : ¬ cmpI z HI > 0 := by rcases Int.lt_or_eq_of_le hhi with h | h; rw [cmpI_lt h]; decide; rw [cmpI_eq h]; decide
  have d1 : decide (cmpI z LO < 0) = false := decide_eq_false hc1
  have d2 : decide (cmpI z HI > 0) = false := decide_eq_false hc2
  obtain ⟨C1, hC1⟩ : ∃ C1, C1 = cmpI z LO := ⟨_, rfl⟩
  obtain ⟨C2, hC2⟩ : ∃ C2, C2 = cmpI z HI := ⟨_, rfl⟩
  rw [← hC1] at k1 d1 hc1
  rw [← hC2] at k2 d2 hc2
  clear hC1 hC2
  go_wp2_with fail
  refine Calls.mono k1.out ?_
  clear k1
  rintro e w3 ⟨rfl, hb3⟩
  have hb3h : Hid (Below Y.heap.size Y w3) := hb3
  replace b0 := keep_cell hb3 b0
  replace b1' := keep_cell hb3 b1'
  replace c0 := keep_cell hb3 c0
  replace c1' := keep_cell hb3 c1'
  have k2' : Hid (Calls Tryz.prog 99 #[.agg #[.bool g3, .slice f3 e3 h3], .agg #[.bool g2, .slice f2 e2 h2]] w3 _) := k2.out w3 hb3
  clear k2 hb3 a0 a1'
  go_wp2_with fail
  refine Calls.mono k2'.out ?_
  clear k2'
  rintro e w4 ⟨rfl, hb4⟩
  replace c0 := keep_cell hb4 c0
  replace c1' := keep_cell hb4 c1'
  have hbY4 : Hid (Below Y.heap.size Y w4) := hb3h.out.trans (hb4.mono hb3h.out.size)
  have k3 : Hid (Calls Tryz.prog 70 #[.agg #[.bool g3, .slice f3 e3 h3]] w4 _) := Whole_num (hNY.out.2.2.next hbY4.out) (by omega)
  clear hb4 b0 b1' hb3h
  go_wp2_with fail
  refine Calls.mono k3.out ?_
  clear k3
  rintro e w5 ⟨t, rfl, ⟨pp, qq, hFE, hlow⟩, hb5⟩
  obtain ⟨rfl, rfl⟩ := low_whole hlow
  have hFE' := hFE
  obtain ⟨x1, x2, x3, x4, y1, y2, y3, y4, rfl, _, _⟩ := hFE'
  have k4 : Hid (Calls Tryz.prog 48 #[.int .i64 3, .agg #[.bool x1, .slice x2 x3 x4, .bool y1, .slice y2 y3 y4], .bool true] w5 _) := ofNumber_id (k := 3) hFE.frac (by omega)
  have hFEh : Hid (FracE w5 (.agg #[.bool x1, .slice x2 x3 x4, .bool y1, .slice y2 y3 y4]) pp 1 (m + 7)) := hFE.more (by omega)
  have hbY5 : Hid (Below Y.heap.size Y w5) := hbY4.out.trans (hb5.mono hbY4.out.size)
  clear hFE hlow hb5 hbY4 c0 c1'
  go_wp2_with fail
  refine Calls.mono k4.out ?_
  clear k4
  rintro e w6 ⟨rfl, hb6⟩
  have hFr := FracE.next hFEh.out hb6
  have hbW6 : Below W.heap.size W w6 := hbWY.out.trans ((hbY5.out.mono hbWY.out.size).trans (hb6.mono (by have := hbWY.out.size; have := hbY5.out.size; omega)))
  have hq1 := (hbW6.block _ (by have := hall.out.2.1; omega)).trans hall.out.2.2
  have hB1 : Hid (Below w.heap.size w w6) := hall.out.1.trans (hbW6.mono (by have := hall.out.2.1; omega))
  obtain ⟨⟨r0, r1, r2, r3, r4, r5, r6⟩, rf, rl⟩ := cells7 hq1
  have rf0 := rf 0
  have rf1 := rf 1
  have rf2 := rf 2
  have rf3 := rf 3
  have rf4 := rf 4
  have rf5 := rf 5
  have rf6 := rf 6
  obtain ⟨W8, hW8⟩ : ∃ W8, W8 = put7 w6 (w.heap.size + 1) (.int .i64 3) (.bool false) (.string ⟨#[]⟩) (.bool x1) (.slice x2 x3 x4) (.bool y1) (.slice y2 y3 y4) := ⟨_, rfl⟩
  have hqW8 : Hid (W8.heap[w.heap.size + 1]? = some (.cells #[.int .i64 3, .bool false, .string ⟨#[]⟩, .bool x1, .slice x2 x3 x4, .bool y1, .slice y2 y3 y4] 32 (0, 0))) := by show _ = _; rw [hW8]; exact put7_at hq1
  have hBW8 : Hid (Below w.heap.size w W8) := by
    show Below _ _ _
    rw [hW8]
    exact put7_below hB1.out (by omega)
  have hC8 : Hid (CIE W8 (.agg #[.int .i64 3, .bool false, .string ⟨#[]⟩, .bool x1, .slice x2 x3 x4, .bool y1, .slice y2 y3 y4]) pp (m + 7)) := by
    refine ⟨_, _, _, _, _, _, _, _, rfl, ?_⟩
    rw [hW8]
    exact fracE_put7 hFr hq1
  clear hq1 rf hb6 hbW6 hFr hB1 hall hbWY hbY5 hNY
  go_wp2
  unfold put7 at hW8
  rw [← hW8]
  obtain ⟨⟨j0, j1, j2, j3, j4, j5, j6⟩, _, _⟩ := cells7 hqW8.out
  exact bodyPost_ret (v := .tuple #[.agg #[.int .i64 3, .bool false, .string ⟨#[]⟩, .bool x1, .slice x2 x3 x4, .bool y1, .slice y2 y3 y4], .bool true]) (by simp [results, Tryz.results112, go_sem, j0, j1, j2, j3, j4, j5, j6]) rfl ⟨_, rfl, hC8.out, hBW8.out⟩
set_option maxRecDepth 20000 in
set_option maxHeartbeats 2000000 in
theorem fitInt_below {w : World} {n1 : Bool} {a1 : Option Addr} {l1 c1 : Nat} {n2 : Bool} {a2 : Option Addr} {l2 c2 : Nat} {n d z LO HI : Int} {m : Nat} (s : ByteArray) (hm : m ≤ 150) (hF : Frac w (.agg #[.bool n1, .slice a1 l1 c1, .bool n2, .slice a2 l2 c2]) n d m) (hz : pN n d = z * pD d)
    (hE : ∀ X : World, Calls Tryz.prog 182 #[.string s] X fun e w' => ∃ u v, e = .returned (.tuple #[u, v, .bool true]) ∧ Num w' u LO 2 ∧ Num w' v HI 2 ∧ Below X.heap.size X w') (hlo : z < LO) :
    Calls Tryz.prog 112 #[.agg #[.bool n1, .slice a1 l1 c1, .bool n2, .slice a2 l2 c2], .string s] w fun e w' => e = .returned (.tuple #[cNone, .bool false]) ∧ Below w.heap.size w w' := by
  have hw : (pN n d).tmod (pD d) = 0 := by rw [hz]; exact Int.mul_tmod_left _ _
  have hzz : (pN n d).tdiv (pD d) = z := by rw [hz]; exact Int.mul_tdiv_cancel _ (by have := pD_pos d; omega)
  obtain ⟨W, hW, hq2, hq4, hbW, hsz⟩ := two_new (w := w) (A := .cells #[.bool n1, .slice a1 l1 c1, .bool n2, .slice a2 l2 c2] 30) (B := .cells #[.int .i64 0, .bool false, .string ⟨#[]⟩, .bool false, .slice none 0 0, .bool false, .slice none 0 0] 32)
  obtain ⟨⟨p0, p1, p2, p3⟩, _, _⟩ := cells4 hq2
  have kE : Hid (Calls Tryz.prog 182 #[.string s] W _) := hE W
  have kI : Hid (∀ X, Below W.heap.size W X → Calls Tryz.prog 91 #[.agg #[.bool n1, .slice a1 l1 c1, .bool n2, .slice a2 l2 c2]] X fun e w' => ∃ t, e = .returned (.tuple #[t, .bool true]) ∧ OutE w' t z (m + 3) ∧ Below X.heap.size X w') := fun X hX => (Int_num ((hF.next hbW).next hX) (by omega)).mono fun e w' h => by
    obtain ⟨t, rfl, ⟨t', rfl, hI, _⟩, hb⟩ := h
    exact ⟨t', by rw [decide_eq_true hw], by rw [← hzz]; exact hI hw, hb⟩
  have hall : Hid (Below w.heap.size w W ∧ W.heap.size = w.heap.size + 1 + 1 ∧ W.heap[w.heap.size + 1]? = some (.cells #[.int .i64 0, .bool false, .string ⟨#[]⟩, .bool false, .slice none 0 0, .bool false, .slice none 0 0] 32 (0, 0))) := ⟨hbW, hsz, hq4⟩
  clear hq2 hq4 hbW hsz hF hz hw hzz hE
  go_enter Tryz.func112, Tryz.ntmps112
  go_upto_region 1 with fail
  rw [← hW]
  clear hW
  go_wp2_with fail
  refine Calls.mono kE.out ?_
  clear kE
  rintro e w1 ⟨u, v, rfl, hN1, hN2, hb1⟩
  obtain ⟨g1, f1, e1, h1, rfl⟩ := hN1.form
  obtain ⟨g2, f2, e2, h2, rfl⟩ := hN2.form
  obtain ⟨X, hX, hxa, hxb, hbX, hsX⟩ := two_new (w := w1) (A := .cells #[.bool g1, .slice f1 e1 h1] 28) (B := .cells #[.bool g2, .slice f2 e2 h2] 28)
  have hbWX : Hid (Below W.heap.size W X) := hb1.trans (hbX.mono hb1.size)
  have hN : Hid (Num X (.agg #[.bool g1, .slice f1 e1 h1]) LO 2 ∧ Num X (.agg #[.bool g2, .slice f2 e2 h2]) HI 2) := ⟨hN1.next hbX, hN2.next hbX⟩
  obtain ⟨⟨a0, a1'⟩, _, al⟩ := cells2 hxa
  obtain ⟨⟨b0, b1'⟩, _, bl⟩ := cells2 hxb
  replace p0 := keep_cell hbWX.out p0
  replace p1 := keep_cell hbWX.out p1
  replace p2 := keep_cell hbWX.out p2
  replace p3 := keep_cell hbWX.out p3
  have kI' : Hid (Calls Tryz.prog 91 #[.agg #[.bool n1, .slice a1 l1 c1, .bool n2, .slice a2 l2 c2]] X fun e w' => ∃ t, e = .returned (.tuple #[t, .bool true]) ∧ OutE w' t z (m + 3) ∧ Below X.heap.size X w') := kI.out X hbWX.out
  clear kI hN1 hN2 hb1 hxa hxb hbX hsX
  go_upto_region 2 with fail
  rw [← hX]
  clear hX
  obtain ⟨bx, hbx⟩ : ∃ bx, bx = w1.heap.size := ⟨_, rfl⟩
  rw [← hbx] at a0 a1' al b0 b1' bl ⊢
  clear hbx
  go_wp2_with fail
  refine Calls.mono kI'.out ?_
  clear kI'
  rintro e w2 ⟨t, rfl, hO, hb2⟩
  obtain ⟨g3, f3, e3, h3, rfl⟩ := hO.num.form
  obtain ⟨Y, hY⟩ : ∃ Y, Y = w2.alloc (.cells #[.bool g3, .slice f3 e3 h3] 28) := ⟨_, rfl⟩
  have hbY : Below w2.heap.size w2 Y := by rw [hY]; exact (Below.refl _ _).alloc (Nat.le_refl _) _
  have hqY : Y.heap[w2.heap.size]? = some (.cells #[.bool g3, .slice f3 e3 h3] 28 (0, 0)) := by rw [hY]; exact newAt _ _
  obtain ⟨⟨c0, c1'⟩, _, cl⟩ := cells2 hqY
  have hbXY : Below X.heap.size X Y := hb2.trans (hbY.mono hb2.size)
  replace a0 := keep_cell hbXY a0
  replace a1' := keep_cell hbXY a1'
  replace b0 := keep_cell hbXY b0
  replace b1' := keep_cell hbXY b1'
  have hNY : Hid (Num Y (.agg #[.bool g1, .slice f1 e1 h1]) LO 2 ∧ Num Y (.agg #[.bool g2, .slice f2 e2 h2]) HI 2 ∧ Num Y (.agg #[.bool g3, .slice f3 e3 h3]) z (m + 3)) := ⟨hN.out.1.next hbXY, hN.out.2.next hbXY, hO.num.next hbY⟩
  have hbWY : Hid (Below W.heap.size W Y) := hbWX.out.trans (hbXY.mono hbWX.out.size)
  have k1 : Hid (Calls Tryz.prog 99 #[.agg #[.bool g3, .slice f3 e3 h3], .agg #[.bool g1, .slice f1 e1 h1]] Y _) := Cmp_num hNY.out.2.2 hNY.out.1 (by omega) (by omega)
  have k2 : Hid (∀ Q, Below Y.heap.size Y Q → Calls Tryz.prog 99 #[.agg #[.bool g3, .slice f3 e3 h3], .agg #[.bool g2, .slice f2 e2 h2]] Q fun e w' => e = .returned (.int .i64 (cmpI z HI)) ∧ Below Q.heap.size Q w') := fun Q hQ => Cmp_num (hNY.out.2.2.next hQ) (hNY.out.2.1.next hQ) (by omega) (by omega)
  clear hO hb2 hbY hqY hbXY hN p0 p1 p2 p3 hbWX
  go_upto_region 3 with fail
  rw [← hY]
  clear hY
  obtain ⟨by', hby⟩ : ∃ by', by' = w2.heap.size := ⟨_, rfl⟩
  rw [← hby] at c0 c1' cl ⊢
  clear hby
  have hc1 : cmpI z LO < 0 := by rw [cmpI_lt hlo]; decide
  have d1 : decide (cmpI z LO < 0) = true := decide_eq_true hc1
  obtain ⟨C1, hC1⟩ : ∃ C1, C1 = cmpI z LO := ⟨_, rfl⟩
  rw [← hC1] at k1 d1 hc1
  clear hC1 k2
  go_wp2_with fail
  refine Calls.mono k1.out ?_
  clear k1
  rintro e w3 ⟨rfl, hb3⟩
  have hbW4 : Below W.heap.size W w3 := hbWY.out.trans (hb3.mono hbWY.out.size)
  have hq1 := (hbW4.block _ (by have := hall.out.2.1; omega)).trans hall.out.2.2
  have hB1 : Hid (Below w.heap.size w w3) := hall.out.1.trans (hbW4.mono (by have := hall.out.2.1; omega))
  obtain ⟨⟨r0, r1, r2, r3, r4, r5, r6⟩, rf, rl⟩ := cells7 hq1
  have rf0 := rf 0
  have rf1 := rf 1
  have rf2 := rf 2
  have rf3 := rf 3
  have rf4 := rf 4
  have rf5 := rf 5
  have rf6 := rf 6
  obtain ⟨W8, hW8⟩ : ∃ W8, W8 = put7 w3 (w.heap.size + 1) (.int .i64 0) (.bool false) (.string ⟨#[]⟩) (.bool false) (.slice none 0 0) (.bool false) (.slice none 0 0) := ⟨_, rfl⟩
  have hqW8 : Hid (W8.heap[w.heap.size + 1]? = some (.cells #[.int .i64 0, .bool false, .string ⟨#[]⟩, .bool false, .slice none 0 0, .bool false, .slice none 0 0] 32 (0, 0))) := by show _ = _; rw [hW8]; exact put7_at hq1
  have hBW8 : Hid (Below w.heap.size w W8) := by
    show Below _ _ _
    rw [hW8]
    exact put7_below hB1.out (by omega)
  clear hq1 rf hb3 hbW4 hB1 hall hbWY hNY a0 a1' b0 b1' c0 c1'
  go_wp2
  unfold put7 at hW8
  rw [← hW8]
  obtain ⟨⟨j0, j1, j2, j3, j4, j5, j6⟩, _, _⟩ := cells7 hqW8.out
  exact bodyPost_ret (v := .tuple #[.agg #[.int .i64 0, .bool false, .string ⟨#[]⟩, .bool false, .slice none 0 0, .bool false, .slice none 0 0], .bool false]) (by simp [results, Tryz.results112, go_sem, j0, j1, j2, j3, j4, j5, j6]) rfl ⟨rfl, hBW8.out⟩
set_option maxRecDepth 20000 in
set_option maxHeartbeats 2000000 in
theorem fitInt_frac {w : World} {n1 : Bool} {a1 : Option Addr} {l1 c1 : Nat} {n2 : Bool} {a2 : Option Addr} {l2 c2 : Nat} {n d LO HI : Int} {m : Nat} (s : ByteArray) (hm : m ≤ 150) (hF : Frac w (.agg #[.bool n1, .slice a1 l1 c1, .bool n2, .slice a2 l2 c2]) n d m) (hw : ¬ (pN n d).tmod (pD d) = 0)
    (hE : ∀ X : World, Calls Tryz.prog 182 #[.string s] X fun e w' => ∃ u v, e = .returned (.tuple #[u, v, .bool true]) ∧ Num w' u LO 2 ∧ Num w' v HI 2 ∧ Below X.heap.size X w') :
    Calls Tryz.prog 112 #[.agg #[.bool n1, .slice a1 l1 c1, .bool n2, .slice a2 l2 c2], .string s] w fun e w' => e = .returned (.tuple #[cNone, .bool false]) ∧ Below w.heap.size w w' := by
  obtain ⟨W, hW, hq2, hq4, hbW, hsz⟩ := two_new (w := w) (A := .cells #[.bool n1, .slice a1 l1 c1, .bool n2, .slice a2 l2 c2] 30) (B := .cells #[.int .i64 0, .bool false, .string ⟨#[]⟩, .bool false, .slice none 0 0, .bool false, .slice none 0 0] 32)
  obtain ⟨⟨p0, p1, p2, p3⟩, _, _⟩ := cells4 hq2
  have kE : Hid (Calls Tryz.prog 182 #[.string s] W _) := hE W
  have kI : Hid (∀ X, Below W.heap.size W X → Calls Tryz.prog 91 #[.agg #[.bool n1, .slice a1 l1 c1, .bool n2, .slice a2 l2 c2]] X fun e w' => ∃ ng a l c, e = .returned (.tuple #[.agg #[.bool ng, .slice a l c], .bool false]) ∧ Below X.heap.size X w') := fun X hX => (Int_num ((hF.next hbW).next hX) (by omega)).mono fun e w' h => by
    obtain ⟨t, rfl, hI, hb⟩ := h
    obtain ⟨ng, a, l, c, rfl⟩ := IntAns.form hI
    exact ⟨ng, a, l, c, by rw [decide_eq_false hw], hb⟩
  have hall : Hid (Below w.heap.size w W ∧ W.heap.size = w.heap.size + 1 + 1 ∧ W.heap[w.heap.size + 1]? = some (.cells #[.int .i64 0, .bool false, .string ⟨#[]⟩, .bool false, .slice none 0 0, .bool false, .slice none 0 0] 32 (0, 0))) := ⟨hbW, hsz, hq4⟩
  clear hq2 hq4 hbW hsz hF hw hE
  go_enter Tryz.func112, Tryz.ntmps112
  go_upto_region 1 with fail
  rw [← hW]
  clear hW
  go_wp2_with fail
  refine Calls.mono kE.out ?_
  clear kE
  rintro e w1 ⟨u, v, rfl, hN1, hN2, hb1⟩
  obtain ⟨g1, f1, e1, h1, rfl⟩ := hN1.form
  obtain ⟨g2, f2, e2, h2, rfl⟩ := hN2.form
  obtain ⟨X, hX, hxa, hxb, hbX, hsX⟩ := two_new (w := w1) (A := .cells #[.bool g1, .slice f1 e1 h1] 28) (B := .cells #[.bool g2, .slice f2 e2 h2] 28)
  have hbWX : Hid (Below W.heap.size W X) := hb1.trans (hbX.mono hb1.size)
  have hN : Hid (Num X (.agg #[.bool g1, .slice f1 e1 h1]) LO 2 ∧ Num X (.agg #[.bool g2, .slice f2 e2 h2]) HI 2) := ⟨hN1.next hbX, hN2.next hbX⟩
  obtain ⟨⟨a0, a1'⟩, _, al⟩ := cells2 hxa
  obtain ⟨⟨b0, b1'⟩, _, bl⟩ := cells2 hxb
  replace p0 := keep_cell hbWX.out p0
  replace p1 := keep_cell hbWX.out p1
  replace p2 := keep_cell hbWX.out p2
  replace p3 := keep_cell hbWX.out p3
  have kI' : Hid (Calls Tryz.prog 91 #[.agg #[.bool n1, .slice a1 l1 c1, .bool n2, .slice a2 l2 c2]] X fun e w' => ∃ ng a l c, e = .returned (.tuple #[.agg #[.bool ng, .slice a l c], .bool false]) ∧ Below X.heap.size X w') := kI.out X hbWX.out
  clear kI hN1 hN2 hb1 hxa hxb hbX hsX
  go_upto_region 2 with fail
  rw [← hX]
  clear hX
  obtain ⟨bx, hbx⟩ : ∃ bx, bx = w1.heap.size := ⟨_, rfl⟩
  rw [← hbx] at a0 a1' al b0 b1' bl ⊢
  clear hbx
  go_wp2_with fail
  refine Calls.mono kI'.out ?_
  clear kI'
  rintro e w2 ⟨g3, f3, e3, h3, rfl, hb2⟩
  obtain ⟨Y, hY⟩ : ∃ Y, Y = w2.alloc (.cells #[.bool g3, .slice f3 e3 h3] 28) := ⟨_, rfl⟩
  have hbY : Below w2.heap.size w2 Y := by rw [hY]; exact (Below.refl _ _).alloc (Nat.le_refl _) _
  have hqY : Y.heap[w2.heap.size]? = some (.cells #[.bool g3, .slice f3 e3 h3] 28 (0, 0)) := by rw [hY]; exact newAt _ _
  obtain ⟨⟨c0, c1'⟩, _, cl⟩ := cells2 hqY
  have hbXY : Below X.heap.size X Y := hb2.trans (hbY.mono hb2.size)
  replace a0 := keep_cell hbXY a0
  replace a1' := keep_cell hbXY a1'
  replace b0 := keep_cell hbXY b0
  replace b1' := keep_cell hbXY b1'
  have hbWY : Hid (Below W.heap.size W Y) := hbWX.out.trans (hbXY.mono hbWX.out.size)
  clear hb2 hbY hqY hbXY hN p0 p1 p2 p3 hbWX
  go_upto_region 3 with fail
  rw [← hY]
  clear hY
  obtain ⟨by', hby⟩ : ∃ by', by' = w2.heap.size := ⟨_, rfl⟩
  rw [← hby] at c0 c1' cl ⊢
  clear hby
  have hbW4 : Below W.heap.size W Y := hbWY.out
  have hq1 := (hbW4.block _ (by have := hall.out.2.1; omega)).trans hall.out.2.2
  have hB1 : Hid (Below w.heap.size w Y) := hall.out.1.trans (hbW4.mono (by have := hall.out.2.1; omega))
  obtain ⟨⟨r0, r1, r2, r3, r4, r5, r6⟩, rf, rl⟩ := cells7 hq1
  have rf0 := rf 0
  have rf1 := rf 1
  have rf2 := rf 2
  have rf3 := rf 3
  have rf4 := rf 4
  have rf5 := rf 5
  have rf6 := rf 6
  obtain ⟨W8, hW8⟩ : ∃ W8, W8 = put7 Y (w.heap.size + 1) (.int .i64 0) (.bool false) (.string ⟨#[]⟩) (.bool false) (.slice none 0 0) (.bool false) (.slice none 0 0) := ⟨_, rfl⟩
  have hqW8 : Hid (W8.heap[w.heap.size + 1]? = some (.cells #[.int .i64 0, .bool false, .string ⟨#[]⟩, .bool false, .slice none 0 0, .bool false, .slice none 0 0] 32 (0, 0))) := by show _ = _; rw [hW8]; exact put7_at hq1
  have hBW8 : Hid (Below w.heap.size w W8) := by
    show Below _ _ _
    rw [hW8]
    exact put7_below hB1.out (by omega)
  clear hq1 rf hbW4 hB1 hall hbWY a0 a1' b0 b1' c0 c1'
  go_wp2
  unfold put7 at hW8
  rw [← hW8]
  obtain ⟨⟨j0, j1, j2, j3, j4, j5, j6⟩, _, _⟩ := cells7 hqW8.out
  exact bodyPost_ret (v := .tuple #[.agg #[.int .i64 0, .bool false, .string ⟨#[]⟩, .bool false, .slice none 0 0, .bool false, .slice none 0 0], .bool false]) (by simp [results, Tryz.results112, go_sem, j0, j1, j2, j3, j4, j5, j6]) rfl ⟨rfl, hBW8.out⟩
end Go.Proofs.YtclokcoimdjaeaaGreatDoor
namespace Go.Proofs.YtclokcoimdjaeaaGreatDoor
open Go.RowKit
attribute [local go_sem ↓] Go.wp_at_zero Go.wp_at_succ
/-- What Fits answers: a whole number, or none. -/
def FitP (z : Option Int) (m : Nat) (w : World) (t : Value) (B : Bool) : Prop := match z with
  | some z => B = true ∧ CIE w t z m
  | none => B = false ∧ t = cNone
theorem FitP.form {z : Option Int} {m : Nat} {w : World} {t : Value} {B : Bool} (h : FitP z m w t B) : ∃ (i0 : Int) (i5 : Bool) (i6 : ByteArray) (i1 : Bool) (i2 : Option Addr) (i3 i4 : Nat) (o1 : Bool) (o2 : Option Addr) (o3 o4 : Nat), t = .agg #[.int .i64 i0, .bool i5, .string i6, .bool i1, .slice i2 i3 i4, .bool o1, .slice o2 o3 o4] := by
  cases z with
  | some z =>
    obtain ⟨_, n1, a1, l1, c1, n2, a2, l2, c2, e, _⟩ := h
    exact ⟨_, _, _, _, _, _, _, _, _, _, _, e⟩
  | none => exact ⟨_, _, _, _, _, _, _, _, _, _, _, h.2⟩
theorem FitP.next {z : Option Int} {m : Nat} {w w' : World} {t : Value} {B : Bool} (h : FitP z m w t B) (hb : Below w.heap.size w w') : FitP z m w' t B := by
  cases z with
  | some z => exact ⟨h.1, h.2.next hb⟩
  | none => exact h
theorem fitP_put7 {z : Option Int} {m : Nat} {w : World} {t : Value} {B : Bool} (h : FitP z m w t B) {b : Nat} {cur : Array Value} (hq : w.heap[b]? = some (.cells cur 32 (0, 0))) {v0 v1 v2 v3 v4 v5 v6 : Value} : FitP z m (put7 w b v0 v1 v2 v3 v4 v5 v6) t B := by
  cases z with
  | some z =>
    obtain ⟨hB, n1, a1, l1, c1, n2, a2, l2, c2, e, hF⟩ := h
    exact ⟨hB, n1, a1, l1, c1, n2, a2, l2, c2, e, fracE_put7 hF hq⟩
  | none =>
    obtain ⟨h1, h2⟩ := h
    exact ⟨h1, h2⟩
set_option maxRecDepth 20000 in
set_option maxHeartbeats 2000000 in
theorem fitNumber_of {w : World} {n1 : Bool} {a1 : Option Addr} {l1 c1 : Nat} {n2 : Bool} {a2 : Option Addr} {l2 c2 : Nat} {M : Nat} (zz : Option Int) (s : ByteArray) (hn3 : (s.toList == [102, 108, 111, 97, 116, 51, 50]) = false) (hn4 : (s.toList == [102, 108, 111, 97, 116, 54, 52]) = false)
    (hk : ∀ X, Below w.heap.size w X → Calls Tryz.prog 112 #[.agg #[.bool n1, .slice a1 l1 c1, .bool n2, .slice a2 l2 c2], .string s] X fun e w' => ∃ t B, e = .returned (.tuple #[t, .bool B]) ∧ FitP zz M w' t B ∧ Below X.heap.size X w') :
    Calls Tryz.prog 60 #[.agg #[.bool n1, .slice a1 l1 c1, .bool n2, .slice a2 l2 c2], .string s] w fun e w' => ∃ t B, e = .returned (.tuple #[t, .bool B]) ∧ FitP zz M w' t B ∧ Below w.heap.size w w' := by
  obtain ⟨W, hW, hq2, hq4, hbW, hsz⟩ := two_new (w := w) (A := .cells #[.bool n1, .slice a1 l1 c1, .bool n2, .slice a2 l2 c2] 30) (B := .cells #[.int .i64 0, .bool false, .string ⟨#[]⟩, .bool false, .slice none 0 0, .bool false, .slice none 0 0] 32)
  obtain ⟨⟨p0, p1, p2, p3⟩, _, _⟩ := cells4 hq2
  have kF : Hid (Calls Tryz.prog 112 #[.agg #[.bool n1, .slice a1 l1 c1, .bool n2, .slice a2 l2 c2], .string s] W fun e w' => ∃ t B, e = .returned (.tuple #[t, .bool B]) ∧ FitP zz M w' t B ∧ Below W.heap.size W w') := hk W hbW
  have hall : Hid (Below w.heap.size w W ∧ W.heap.size = w.heap.size + 1 + 1 ∧ W.heap[w.heap.size + 1]? = some (.cells #[.int .i64 0, .bool false, .string ⟨#[]⟩, .bool false, .slice none 0 0, .bool false, .slice none 0 0] 32 (0, 0))) := ⟨hbW, hsz, hq4⟩
  clear hq2 hq4 hbW hsz hk
  go_enter Tryz.func60, Tryz.ntmps60
  go_upto_region 1 with fail
  rw [← hW]
  clear hW
  go_wp2_with fail
  refine Calls.mono kF.out ?_
  clear kF
  rintro e w1 ⟨t, B, rfl, hP, hb1⟩
  obtain ⟨i0, i5, i6, i1, i2, i3, i4, o1, o2, o3, o4, rfl⟩ := FitP.form hP
  have hq1 := (hb1.block _ (by have := hall.out.2.1; omega)).trans hall.out.2.2
  have hB1 : Hid (Below w.heap.size w w1) := hall.out.1.trans (hb1.mono (by have := hall.out.2.1; omega))
  obtain ⟨⟨r0, r1, r2, r3, r4, r5, r6⟩, rf, rl⟩ := cells7 hq1
  have rf0 := rf 0
  have rf1 := rf 1
  have rf2 := rf 2
  have rf3 := rf 3
  have rf4 := rf 4
  have rf5 := rf 5
  have rf6 := rf 6
  obtain ⟨W8, hW8⟩ : ∃ W8, W8 = put7 w1 (w.heap.size + 1) (.int .i64 i0) (.bool i5) (.string i6) (.bool i1) (.slice i2 i3 i4) (.bool o1) (.slice o2 o3 o4) := ⟨_, rfl⟩
  have hqW8 : Hid (W8.heap[w.heap.size + 1]? = some (.cells #[.int .i64 i0, .bool i5, .string i6, .bool i1, .slice i2 i3 i4, .bool o1, .slice o2 o3 o4] 32 (0, 0))) := by show _ = _; rw [hW8]; exact put7_at hq1
  have hBW8 : Hid (Below w.heap.size w W8) := by
    show Below _ _ _
    rw [hW8]
    exact put7_below hB1.out (by omega)
  have hC8 : Hid (FitP zz M W8 (.agg #[.int .i64 i0, .bool i5, .string i6, .bool i1, .slice i2 i3 i4, .bool o1, .slice o2 o3 o4]) B) := by
    show FitP _ _ _ _ _
    rw [hW8]
    exact fitP_put7 hP hq1
  clear hq1 rf hB1 hall hb1 p0 p1 p2 p3 hP
  go_wp2
  unfold put7 at hW8
  rw [← hW8]
  obtain ⟨⟨j0, j1, j2, j3, j4, j5, j6⟩, _, _⟩ := cells7 hqW8.out
  exact bodyPost_ret (v := .tuple #[.agg #[.int .i64 i0, .bool i5, .string i6, .bool i1, .slice i2 i3 i4, .bool o1, .slice o2 o3 o4], .bool B]) (by simp [results, Tryz.results60, go_sem, j0, j1, j2, j3, j4, j5, j6]) rfl ⟨_, _, rfl, hC8.out, hBW8.out⟩
set_option maxRecDepth 20000 in
set_option maxHeartbeats 2000000 in
theorem Fits23_whole {w : World} {u : Value} {n d : Int} {m M : Nat} (zz : Option Int) (s : ByteArray) (hn : IntName s) (hu : CNum w u 3 n d m) (hm : m ≤ 150) (hw : (pN n d).tmod (pD d) = 0)
    (hk : ∀ (n1 : Bool) (a1 : Option Addr) (l1 c1 : Nat) (n2 : Bool) (a2 : Option Addr) (l2 c2 : Nat) (X : World), Frac X (.agg #[.bool n1, .slice a1 l1 c1, .bool n2, .slice a2 l2 c2]) n d m → Calls Tryz.prog 112 #[.agg #[.bool n1, .slice a1 l1 c1, .bool n2, .slice a2 l2 c2], .string s] X fun e w' => ∃ t B, e = .returned (.tuple #[t, .bool B]) ∧ FitP zz M w' t B ∧ Below X.heap.size X w') :
    Calls Tryz.prog 23 #[u, .string s] w fun e w' => ∃ t B, e = .returned (.tuple #[t, .bool B]) ∧ FitP zz M w' t B ∧ Below w.heap.size w w' := by
  obtain ⟨n1, a1, l1, c1, n2, a2, l2, c2, rfl, hF⟩ := hu
  obtain ⟨hn1, hn2, hn3, hn4⟩ := hn
  obtain ⟨W, hW, hq2, hq4, hbW, hsz⟩ := two_new (w := w) (A := .cells #[.int .i64 3, .bool false, .string ⟨#[]⟩, .bool n1, .slice a1 l1 c1, .bool n2, .slice a2 l2 c2] 32) (B := .cells #[.int .i64 0, .bool false, .string ⟨#[]⟩, .bool false, .slice none 0 0, .bool false, .slice none 0 0] 32)
  obtain ⟨⟨p0, p1, p2, p3, p4, p5, p6⟩, _, _⟩ := cells7 hq2
  have kA : Hid (Calls Tryz.prog 41 #[.agg #[.int .i64 3, .bool false, .string ⟨#[]⟩, .bool n1, .slice a1 l1 c1, .bool n2, .slice a2 l2 c2]] W _) := admit_int (hF.next hbW) (by omega) hw
  have hall : Hid (Below w.heap.size w W ∧ W.heap.size = w.heap.size + 1 + 1 ∧ W.heap[w.heap.size + 1]? = some (.cells #[.int .i64 0, .bool false, .string ⟨#[]⟩, .bool false, .slice none 0 0, .bool false, .slice none 0 0] 32 (0, 0))) := ⟨hbW, hsz, hq4⟩
  have hFW : Hid (Frac W (.agg #[.bool n1, .slice a1 l1 c1, .bool n2, .slice a2 l2 c2]) n d m ∧ W.heap[w.heap.size]? = some (.cells #[.int .i64 3, .bool false, .string ⟨#[]⟩, .bool n1, .slice a1 l1 c1, .bool n2, .slice a2 l2 c2] 32 (0, 0))) := ⟨hF.next hbW, hq2⟩
  clear hq2 hq4 hbW hsz hF hw
  go_enter Tryz.func23, Tryz.ntmps23
  go_upto_region 1 with fail
  rw [← hW]
  clear hW
  go_wp2_with fail
  refine Calls.mono kA.out ?_
  clear kA
  rintro e w1 ⟨rfl, hb1⟩
  have hqa := (hb1.block _ (by have := hall.out.2.1; omega)).trans hFW.out.2
  obtain ⟨⟨s0, s1, s2, s3, s4, s5, s6⟩, sf, _⟩ := cells7 hqa
  have sf0 := sf 0
  have sf1 := sf 1
  have sf2 := sf 2
  have sf3 := sf 3
  have sf4 := sf 4
  have sf5 := sf 5
  have sf6 := sf 6
  obtain ⟨X, hX⟩ : ∃ X, X = put7 w1 w.heap.size (.int .i64 3) (.bool false) (.string ⟨#[]⟩) (.bool n1) (.slice a1 l1 c1) (.bool n2) (.slice a2 l2 c2) := ⟨_, rfl⟩
  have hqX : X.heap[w.heap.size]? = some (.cells #[.int .i64 3, .bool false, .string ⟨#[]⟩, .bool n1, .slice a1 l1 c1, .bool n2, .slice a2 l2 c2] 32 (0, 0)) := by rw [hX]; exact put7_at hqa
  obtain ⟨⟨x0, x1, x2, x3, x4, x5, x6⟩, _, _⟩ := cells7 hqX
  have hFX : Frac X (.agg #[.bool n1, .slice a1 l1 c1, .bool n2, .slice a2 l2 c2]) n d m := by rw [hX]; exact frac_put7 ⟨_, _, _, _, _, _, _, _, _, _, _, hqa⟩ (hFW.out.1.next hb1)
  have hsX : X.heap.size = w1.heap.size := by rw [hX]; exact put7_size
  have hBX : Hid (Below w.heap.size w X ∧ X.heap[w.heap.size + 1]? = some (.cells #[.int .i64 0, .bool false, .string ⟨#[]⟩, .bool false, .slice none 0 0, .bool false, .slice none 0 0] 32 (0, 0)) ∧ w.heap.size + 1 + 1 ≤ X.heap.size) := by
    have h1 := hall.out.2.1
    have h2 := hb1.size
    refine ⟨?_, ?_, by omega⟩
    · rw [hX]; exact put7_below (hall.out.1.trans (hb1.mono (by omega))) (Nat.le_refl _)
    · rw [hX, put7_same (by omega), hb1.block _ (by omega)]; exact hall.out.2.2
  have kN : Hid (Calls Tryz.prog 46 #[.agg #[.int .i64 3, .bool false, .string ⟨#[]⟩, .bool n1, .slice a1 l1 c1, .bool n2, .slice a2 l2 c2]] X _) := isNumber_int
  have kG : Hid (∀ Q, Below X.heap.size X Q → Calls Tryz.prog 60 #[.agg #[.bool n1, .slice a1 l1 c1, .bool n2, .slice a2 l2 c2], .string s] Q fun e w' => ∃ t B, e = .returned (.tuple #[t, .bool B]) ∧ FitP zz M w' t B ∧ Below Q.heap.size Q w') := fun Q hQ => fitNumber_of zz s hn3 hn4 (fun Y hY => hk n1 a1 l1 c1 n2 a2 l2 c2 Y ((hFX.next hQ).next hY))
  clear hb1 hqa sf hqX hFX hFW hall p0 p1 p2 p3 p4 p5 p6 hsX
  go_upto_region 2 with fail
  unfold put7 at hX
  rw [← hX]
  clear hX
  go_wp2_with fail
  refine Calls.mono kN.out ?_
  clear kN
  rintro e w2 ⟨rfl, hb2⟩
  replace x3 := keep_cell hb2 x3
  replace x4 := keep_cell hb2 x4
  replace x5 := keep_cell hb2 x5
  replace x6 := keep_cell hb2 x6
  have kG' : Hid (Calls Tryz.prog 60 #[.agg #[.bool n1, .slice a1 l1 c1, .bool n2, .slice a2 l2 c2], .string s] w2 fun e w' => ∃ t B, e = .returned (.tuple #[t, .bool B]) ∧ FitP zz M w' t B ∧ Below w2.heap.size w2 w') := kG.out w2 hb2
  have hb2h : Hid (Below X.heap.size X w2) := hb2
  clear kG hb2 x0 x1 x2 s0 s1 s2 s3 s4 s5 s6 sf0 sf1 sf2 sf3 sf4 sf5 sf6
  go_wp2_with fail
  refine Calls.mono kG'.out ?_
  clear kG'
  rintro e w3 ⟨t, B, rfl, hP, hb3⟩
  obtain ⟨i0, i5, i6, i1, i2, i3, i4, o1, o2, o3, o4, rfl⟩ := FitP.form hP
  have hall : Hid (Below w.heap.size w X ∧ w.heap.size + 1 + 1 ≤ X.heap.size ∧ X.heap[w.heap.size + 1]? = some (.cells #[.int .i64 0, .bool false, .string ⟨#[]⟩, .bool false, .slice none 0 0, .bool false, .slice none 0 0] 32 (0, 0))) := ⟨hBX.out.1, hBX.out.2.2, hBX.out.2.1⟩
  have hb4 : Below X.heap.size X w3 := hb2h.out.trans (hb3.mono hb2h.out.size)
  have hq1 := (hb4.block _ (by have := hall.out.2.1; omega)).trans hall.out.2.2
  have hB1 : Hid (Below w.heap.size w w3) := hall.out.1.trans (hb4.mono (by have := hall.out.2.1; omega))
  obtain ⟨⟨r0, r1, r2, r3, r4, r5, r6⟩, rf, rl⟩ := cells7 hq1
  have rf0 := rf 0
  have rf1 := rf 1
  have rf2 := rf 2
  have rf3 := rf 3
  have rf4 := rf 4
  have rf5 := rf 5
  have rf6 := rf 6
  obtain ⟨W8, hW8⟩ : ∃ W8, W8 = put7 w3 (w.heap.size + 1) (.int .i64 i0) (.bool i5) (.string i6) (.bool i1) (.slice i2 i3 i4) (.bool o1) (.slice o2 o3 o4) := ⟨_, rfl⟩
  have hqW8 : Hid (W8.heap[w.heap.size + 1]? = some (.cells #[.int .i64 i0, .bool i5, .string i6, .bool i1, .slice i2 i3 i4, .bool o1, .slice o2 o3 o4] 32 (0, 0))) := by show _ = _; rw [hW8]; exact put7_at hq1
  have hBW8 : Hid (Below w.heap.size w W8) := by
    show Below _ _ _
    rw [hW8]
    exact put7_below hB1.out (by omega)
  have hC8 : Hid (FitP zz M W8 (.agg #[.int .i64 i0, .bool i5, .string i6, .bool i1, .slice i2 i3 i4, .bool o1, .slice o2 o3 o4]) B) := by
    show FitP _ _ _ _ _
    rw [hW8]
    exact fitP_put7 hP hq1
  clear hq1 rf hB1 hall hb3 hb4 hb2h hBX x3 x4 x5 x6 hP
  go_wp2
  unfold put7 at hW8
  rw [← hW8]
  obtain ⟨⟨j0, j1, j2, j3, j4, j5, j6⟩, _, _⟩ := cells7 hqW8.out
  exact bodyPost_ret (v := .tuple #[.agg #[.int .i64 i0, .bool i5, .string i6, .bool i1, .slice i2 i3 i4, .bool o1, .slice o2 o3 o4], .bool B]) (by simp [results, Tryz.results23, go_sem, j0, j1, j2, j3, j4, j5, j6]) rfl ⟨_, _, rfl, hC8.out, hBW8.out⟩
set_option maxRecDepth 20000 in
set_option maxHeartbeats 2000000 in
theorem Fits23_frac {w : World} {u : Value} {n d : Int} {m M : Nat} (zz : Option Int) (s : ByteArray) (hn : IntName s) (hu : CNum w u 4 n d m) (hm : m ≤ 150) 
    (hk : ∀ (n1 : Bool) (a1 : Option Addr) (l1 c1 : Nat) (n2 : Bool) (a2 : Option Addr) (l2 c2 : Nat) (X : World), Frac X (.agg #[.bool n1, .slice a1 l1 c1, .bool n2, .slice a2 l2 c2]) n d m → Calls Tryz.prog 112 #[.agg #[.bool n1, .slice a1 l1 c1, .bool n2, .slice a2 l2 c2], .string s] X fun e w' => ∃ t B, e = .returned (.tuple #[t, .bool B]) ∧ FitP zz M w' t B ∧ Below X.heap.size X w') :
    Calls Tryz.prog 23 #[u, .string s] w fun e w' => ∃ t B, e = .returned (.tuple #[t, .bool B]) ∧ FitP zz M w' t B ∧ Below w.heap.size w w' := by
  obtain ⟨n1, a1, l1, c1, n2, a2, l2, c2, rfl, hF⟩ := hu
  obtain ⟨hn1, hn2, hn3, hn4⟩ := hn
  obtain ⟨W, hW, hq2, hq4, hbW, hsz⟩ := two_new (w := w) (A := .cells #[.int .i64 4, .bool false, .string ⟨#[]⟩, .bool n1, .slice a1 l1 c1, .bool n2, .slice a2 l2 c2] 32) (B := .cells #[.int .i64 0, .bool false, .string ⟨#[]⟩, .bool false, .slice none 0 0, .bool false, .slice none 0 0] 32)
  obtain ⟨⟨p0, p1, p2, p3, p4, p5, p6⟩, _, _⟩ := cells7 hq2
  have kA : Hid (Calls Tryz.prog 41 #[.agg #[.int .i64 4, .bool false, .string ⟨#[]⟩, .bool n1, .slice a1 l1 c1, .bool n2, .slice a2 l2 c2]] W _) := admit_flt (hF.next hbW) (by omega)
  have hall : Hid (Below w.heap.size w W ∧ W.heap.size = w.heap.size + 1 + 1 ∧ W.heap[w.heap.size + 1]? = some (.cells #[.int .i64 0, .bool false, .string ⟨#[]⟩, .bool false, .slice none 0 0, .bool false, .slice none 0 0] 32 (0, 0))) := ⟨hbW, hsz, hq4⟩
  have hFW : Hid (Frac W (.agg #[.bool n1, .slice a1 l1 c1, .bool n2, .slice a2 l2 c2]) n d m ∧ W.heap[w.heap.size]? = some (.cells #[.int .i64 4, .bool false, .string ⟨#[]⟩, .bool n1, .slice a1 l1 c1, .bool n2, .slice a2 l2 c2] 32 (0, 0))) := ⟨hF.next hbW, hq2⟩
  clear hq2 hq4 hbW hsz hF
  go_enter Tryz.func23, Tryz.ntmps23
  go_upto_region 1 with fail
  rw [← hW]
  clear hW
  go_wp2_with fail
  refine Calls.mono kA.out ?_
  clear kA
  rintro e w1 ⟨rfl, hb1⟩
  have hqa := (hb1.block _ (by have := hall.out.2.1; omega)).trans hFW.out.2
  obtain ⟨⟨s0, s1, s2, s3, s4, s5, s6⟩, sf, _⟩ := cells7 hqa
  have sf0 := sf 0
  have sf1 := sf 1
  have sf2 := sf 2
  have sf3 := sf 3
  have sf4 := sf 4
  have sf5 := sf 5
  have sf6 := sf 6
  obtain ⟨X, hX⟩ : ∃ X, X = put7 w1 w.heap.size (.int .i64 4) (.bool false) (.string ⟨#[]⟩) (.bool n1) (.slice a1 l1 c1) (.bool n2) (.slice a2 l2 c2) := ⟨_, rfl⟩
  have hqX : X.heap[w.heap.size]? = some (.cells #[.int .i64 4, .bool false, .string ⟨#[]⟩, .bool n1, .slice a1 l1 c1, .bool n2, .slice a2 l2 c2] 32 (0, 0)) := by rw [hX]; exact put7_at hqa
  obtain ⟨⟨x0, x1, x2, x3, x4, x5, x6⟩, _, _⟩ := cells7 hqX
  have hFX : Frac X (.agg #[.bool n1, .slice a1 l1 c1, .bool n2, .slice a2 l2 c2]) n d m := by rw [hX]; exact frac_put7 ⟨_, _, _, _, _, _, _, _, _, _, _, hqa⟩ (hFW.out.1.next hb1)
  have hsX : X.heap.size = w1.heap.size := by rw [hX]; exact put7_size
  have hBX : Hid (Below w.heap.size w X ∧ X.heap[w.heap.size + 1]? = some (.cells #[.int .i64 0, .bool false, .string ⟨#[]⟩, .bool false, .slice none 0 0, .bool false, .slice none 0 0] 32 (0, 0)) ∧ w.heap.size + 1 + 1 ≤ X.heap.size) := by
    have h1 := hall.out.2.1
    have h2 := hb1.size
    refine ⟨?_, ?_, by omega⟩
    · rw [hX]; exact put7_below (hall.out.1.trans (hb1.mono (by omega))) (Nat.le_refl _)
    · rw [hX, put7_same (by omega), hb1.block _ (by omega)]; exact hall.out.2.2
  have kN : Hid (Calls Tryz.prog 46 #[.agg #[.int .i64 4, .bool false, .string ⟨#[]⟩, .bool n1, .slice a1 l1 c1, .bool n2, .slice a2 l2 c2]] X _) := isNumber_flt
  have kG : Hid (∀ Q, Below X.heap.size X Q → Calls Tryz.prog 60 #[.agg #[.bool n1, .slice a1 l1 c1, .bool n2, .slice a2 l2 c2], .string s] Q fun e w' => ∃ t B, e = .returned (.tuple #[t, .bool B]) ∧ FitP zz M w' t B ∧ Below Q.heap.size Q w') := fun Q hQ => fitNumber_of zz s hn3 hn4 (fun Y hY => hk n1 a1 l1 c1 n2 a2 l2 c2 Y ((hFX.next hQ).next hY))
  clear hb1 hqa sf hqX hFX hFW hall p0 p1 p2 p3 p4 p5 p6 hsX
  go_upto_region 2 with fail
  unfold put7 at hX
  rw [← hX]
  clear hX
  go_wp2_with fail
  refine Calls.mono kN.out ?_
  clear kN
  rintro e w2 ⟨rfl, hb2⟩
  replace x3 := keep_cell hb2 x3
  replace x4 := keep_cell hb2 x4
  replace x5 := keep_cell hb2 x5
  replace x6 := keep_cell hb2 x6
  have kG' : Hid (Calls Tryz.prog 60 #[.agg #[.bool n1, .slice a1 l1 c1, .bool n2, .slice a2 l2 c2], .string s] w2 fun e w' => ∃ t B, e = .returned (.tuple #[t, .bool B]) ∧ FitP zz M w' t B ∧ Below w2.heap.size w2 w') := kG.out w2 hb2
  have hb2h : Hid (Below X.heap.size X w2) := hb2
  clear kG hb2 x0 x1 x2 s0 s1 s2 s3 s4 s5 s6 sf0 sf1 sf2 sf3 sf4 sf5 sf6
  go_wp2_with fail
  refine Calls.mono kG'.out ?_
  clear kG'
  rintro e w3 ⟨t, B, rfl, hP, hb3⟩
  obtain ⟨i0, i5, i6, i1, i2, i3, i4, o1, o2, o3, o4, rfl⟩ := FitP.form hP
  have hall : Hid (Below w.heap.size w X ∧ w.heap.size + 1 + 1 ≤ X.heap.size ∧ X.heap[w.heap.size + 1]? = some (.cells #[.int .i64 0, .bool false, .string ⟨#[]⟩, .bool false, .slice none 0 0, .bool false, .slice none 0 0] 32 (0, 0))) := ⟨hBX.out.1, hBX.out.2.2, hBX.out.2.1⟩
  have hb4 : Below X.heap.size X w3 := hb2h.out.trans (hb3.mono hb2h.out.size)
  have hq1 := (hb4.block _ (by have := hall.out.2.1; omega)).trans hall.out.2.2
  have hB1 : Hid (Below w.heap.size w w3) := hall.out.1.trans (hb4.mono (by have := hall.out.2.1; omega))
  obtain ⟨⟨r0, r1, r2, r3, r4, r5, r6⟩, rf, rl⟩ := cells7 hq1
  have rf0 := rf 0
  have rf1 := rf 1
  have rf2 := rf 2
  have rf3 := rf 3
  have rf4 := rf 4
  have rf5 := rf 5
  have rf6 := rf 6
  obtain ⟨W8, hW8⟩ : ∃ W8, W8 = put7 w3 (w.heap.size + 1) (.int .i64 i0) (.bool i5) (.string i6) (.bool i1) (.slice i2 i3 i4) (.bool o1) (.slice o2 o3 o4) := ⟨_, rfl⟩
  have hqW8 : Hid (W8.heap[w.heap.size + 1]? = some (.cells #[.int .i64 i0, .bool i5, .string i6, .bool i1, .slice i2 i3 i4, .bool o1, .slice o2 o3 o4] 32 (0, 0))) := by show _ = _; rw [hW8]; exact put7_at hq1
  have hBW8 : Hid (Below w.heap.size w W8) := by
    show Below _ _ _
    rw [hW8]
    exact put7_below hB1.out (by omega)
  have hC8 : Hid (FitP zz M W8 (.agg #[.int .i64 i0, .bool i5, .string i6, .bool i1, .slice i2 i3 i4, .bool o1, .slice o2 o3 o4]) B) := by
    show FitP _ _ _ _ _
    rw [hW8]
    exact fitP_put7 hP hq1
  clear hq1 rf hB1 hall hb3 hb4 hb2h hBX x3 x4 x5 x6 hP
  go_wp2
  unfold put7 at hW8
  rw [← hW8]
  obtain ⟨⟨j0, j1, j2, j3, j4, j5, j6⟩, _, _⟩ := cells7 hqW8.out
  exact bodyPost_ret (v := .tuple #[.agg #[.int .i64 i0, .bool i5, .string i6, .bool i1, .slice i2 i3 i4, .bool o1, .slice o2 o3 o4], .bool B]) (by simp [results, Tryz.results23, go_sem, j0, j1, j2, j3, j4, j5, j6]) rfl ⟨_, _, rfl, hC8.out, hBW8.out⟩
end Go.Proofs.YtclokcoimdjaeaaGreatDoor
