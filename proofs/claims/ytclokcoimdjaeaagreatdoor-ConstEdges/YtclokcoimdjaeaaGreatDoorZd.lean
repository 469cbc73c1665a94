/- constants: the second road asks whether a number is in an integer type's range. -/
import Derived.Test.YtclokcoimdjaeaaGreatDoorZcm
namespace Go.Proofs.YtclokcoimdjaeaaGreatDoor
open Go.RowKit
attribute [local go_sem ↓] Go.wp_at_zero Go.wp_at_succ
/-- A name that is none of the four other types. -/
def IntName (t : ByteArray) : Prop := (t.toList == [98, 111, 111, 108]) = false ∧ (t.toList == [115, 116, 114, 105, 110, 103]) = false ∧ (t.toList == [102, 108, 111, 97, 116, 51, 50]) = false ∧ (t.toList == [102, 108, 111, 97, 116, 54, 52]) = false
def RangeIs (t : ByteArray) (LO HI : Int) : Prop := ∀ X, Calls Tryz.prog 64 #[.string t] X fun e w' => ∃ u v, e = .returned (.tuple #[u, v, .bool true]) ∧ Rint w' u LO 20 ∧ Rint w' v HI 20 ∧ Below X.heap.size X w'
theorem four_new {w : World} {A B : Obj} : ∃ W, W = (w.alloc A).alloc B ∧ W.heap[w.heap.size]? = some A ∧ W.heap[w.heap.size + 1]? = some B ∧ Below w.heap.size w W ∧ W.heap.size = w.heap.size + 1 + 1 := two_new
set_option maxRecDepth 20000 in
set_option maxHeartbeats 2000000 in
theorem Fits25_frac {w : World} {u : Value} {k p q LO HI : Int} {m : Nat} {t : ByteArray} (hn : IntName t) (hr : RangeIs t LO HI) (hu : CRn w u k p q m) (hk : (decide (k = 3) || decide (k = 4)) = true) (hq : 0 < q) (hm : m ≤ 300) (h1q : q ≠ 1) :
    Calls Tryz.prog 25 #[u, .string t] w fun e w' => e = .returned (.tuple #[cNone, .bool false]) ∧ Below w.heap.size w w' := by
  obtain ⟨m1, b1, k1, d1, m2, b2, k2, d2, rfl, hR⟩ := hu
  obtain ⟨n1, n2, n3, n4⟩ := hn
  obtain ⟨W, hW, hq0, hq1, hbW, hsz⟩ := two_new (w := w) (A := .cells #[.int .i64 k, .bool false, .string ⟨#[]⟩, .bool m1, .slice b1 k1 d1, .bool m2, .slice b2 k2 d2] 42) (B := .cells #[.int .i64 0, .bool false, .string ⟨#[]⟩, .bool false, .slice none 0 0, .bool false, .slice none 0 0] 42)
  obtain ⟨⟨p0, p1, p2, p3, p4, p5, p6⟩, _, _⟩ := cells7 hq0
  have hall : Hid (Below w.heap.size w W ∧ W.heap[w.heap.size + 1]? = some (.cells #[.int .i64 0, .bool false, .string ⟨#[]⟩, .bool false, .slice none 0 0, .bool false, .slice none 0 0] 42 (0, 0))) := ⟨hbW, hq1⟩
  have hRW : Hid (RatR W (.agg #[.bool m1, .slice b1 k1 d1, .bool m2, .slice b2 k2 d2]) p q m) := hR.next hbW
  have kR : Hid (Calls Tryz.prog 64 #[.string t] W _) := hr W
  have hqh : Hid (0 < q) := hq
  clear hq0 hq1 hbW hsz hR hr hq
  go_enter Tryz.func25, Tryz.ntmps25
  go_upto_region 1 with fail
  rw [← hW]
  clear hW
  go_wp2_with fail
  refine Calls.mono kR.out ?_
  clear kR
  rintro e w1 ⟨u1, v1, rfl, hU, hV, hb1⟩
  obtain ⟨g1, f1, e1, h1, rfl⟩ := Rint.form hU
  obtain ⟨g2, f2, e2, h2, rfl⟩ := Rint.form hV
  obtain ⟨W2, hW2, hx, hy, hb2, hs2⟩ := four_new (w := w1) (A := .cells #[.bool g1, .slice f1 e1 h1] 38) (B := .cells #[.bool g2, .slice f2 e2 h2] 38)
  have zk : Hid (Below W.heap.size W W2) := bthen hb1 hb2
  have hUV : Hid (Rint W2 (.agg #[.bool g1, .slice f1 e1 h1]) LO 20 ∧ Rint W2 (.agg #[.bool g2, .slice f2 e2 h2]) HI 20) := ⟨Rint.next hU hb2, Rint.next hV hb2⟩
  obtain ⟨⟨x0, x1⟩, _, _⟩ := cells2 hx
  obtain ⟨⟨y0, y1⟩, _, _⟩ := cells2 hy
  replace p0 := keep_cell zk.out p0
  replace p1 := keep_cell zk.out p1
  replace p2 := keep_cell zk.out p2
  replace p3 := keep_cell zk.out p3
  replace p4 := keep_cell zk.out p4
  replace p5 := keep_cell zk.out p5
  replace p6 := keep_cell zk.out p6
  clear hU hV hb1 hb2 hx hy hs2
  go_upto_region 16 with fail
  rw [← hW2]
  clear hW2
  generalize w1.heap.size = pL at *
  have kN : Hid (Calls Tryz.prog 57 #[.agg #[.int .i64 k, .bool false, .string ⟨#[]⟩, .bool m1, .slice b1 k1 d1, .bool m2, .slice b2 k2 d2]] W2 fun e w' => e = .returned (.bool true) ∧ Below W2.heap.size W2 w') := Num57_any W2 k false ⟨#[]⟩ m1 b1 k1 d1 m2 b2 k2 d2 true hk
  go_wp2_with fail
  refine Calls.mono kN.out ?_
  clear kN
  rintro e w3 ⟨rfl, hb3⟩
  replace p0 := keep_cell hb3 p0
  replace p1 := keep_cell hb3 p1
  replace p2 := keep_cell hb3 p2
  replace p3 := keep_cell hb3 p3
  replace p4 := keep_cell hb3 p4
  replace p5 := keep_cell hb3 p5
  replace p6 := keep_cell hb3 p6
  replace x0 := keep_cell hb3 x0
  replace y0 := keep_cell hb3 y0
  replace x1 := keep_cell hb3 x1
  replace y1 := keep_cell hb3 y1
  replace hUV : Hid (Rint w3 (.agg #[.bool g1, .slice f1 e1 h1]) LO 20 ∧ Rint w3 (.agg #[.bool g2, .slice f2 e2 h2]) HI 20) := ⟨Rint.next hUV.out.1 hb3, Rint.next hUV.out.2 hb3⟩
  replace zk : Hid (Below W.heap.size W w3) := bthen zk.out hb3
  clear hb3
  have kI : Hid (Calls Tryz.prog 65 #[.agg #[.bool m1, .slice b1 k1 d1, .bool m2, .slice b2 k2 d2]] w3 fun e w' => e = .returned (.bool false) ∧ Below w3.heap.size w3 w') := by
    have h := IsInt_num (RatR.next hRW.out zk.out) hqh.out (by omega)
    rw [decide_eq_false h1q] at h
    exact h
  go_wp2_with fail
  refine Calls.mono kI.out ?_
  clear kI
  rintro e w4 ⟨rfl, hb4⟩
  replace p0 := keep_cell hb4 p0
  replace p1 := keep_cell hb4 p1
  replace p2 := keep_cell hb4 p2
  replace p3 := keep_cell hb4 p3
  replace p4 := keep_cell hb4 p4
  replace p5 := keep_cell hb4 p5
  replace p6 := keep_cell hb4 p6
  replace x0 := keep_cell hb4 x0
  replace y0 := keep_cell hb4 y0
  replace x1 := keep_cell hb4 x1
  replace y1 := keep_cell hb4 y1
  replace hUV : Hid (Rint w4 (.agg #[.bool g1, .slice f1 e1 h1]) LO 20 ∧ Rint w4 (.agg #[.bool g2, .slice f2 e2 h2]) HI 20) := ⟨Rint.next hUV.out.1 hb4, Rint.next hUV.out.2 hb4⟩
  replace zk : Hid (Below W.heap.size W w4) := bthen zk.out hb4
  clear hb4
  have q8 := keep_heap zk.out hall.out.2
  obtain ⟨⟨r0, r1, r2, r3, r4, r5, r6⟩, rf, _⟩ := cells7 q8
  have rf0 := rf 0
  have rf1 := rf 1
  have rf2 := rf 2
  have rf3 := rf 3
  have rf4 := rf 4
  have rf5 := rf 5
  have rf6 := rf 6
  obtain ⟨W8, hW8⟩ : ∃ W8, W8 = put7 w4 (w.heap.size + 1) (.int .i64 0) (.bool false) (.string ⟨#[]⟩) (.bool false) (.slice none 0 0) (.bool false) (.slice none 0 0) := ⟨_, rfl⟩
  have hqW8 : Hid (W8.heap[w.heap.size + 1]? = some (.cells #[.int .i64 0, .bool false, .string ⟨#[]⟩, .bool false, .slice none 0 0, .bool false, .slice none 0 0] 42 (0, 0))) := by show _ = _; rw [hW8]; exact put7_at q8
  have hBW8 : Hid (Below w.heap.size w W8 ∧ CRn W8 (.agg #[.int .i64 3, .bool false, .string ⟨#[]⟩, .bool m1, .slice b1 k1 d1, .bool m2, .slice b2 k2 d2]) 3 p q m) := by
    show _ ∧ _
    rw [hW8]
    exact ⟨put7_below (bthen hall.out.1 zk.out) (by omega), CRn.put7 ⟨_, _, _, _, _, _, _, _, rfl, RatR.next hRW.out zk.out⟩ ⟨_, _, _, _, _, _, _, _, _, _, _, q8⟩⟩
  clear q8 rf zk hall hRW 
  go_wp2
  unfold put7 at hW8
  rw [← hW8]
  obtain ⟨⟨j0, j1, j2, j3, j4, j5, j6⟩, _, _⟩ := cells7 hqW8.out
  exact bodyPost_ret (v := .tuple #[.agg #[.int .i64 0, .bool false, .string ⟨#[]⟩, .bool false, .slice none 0 0, .bool false, .slice none 0 0], .bool false]) (by simp [results, Tryz.results25, go_sem, j0, j1, j2, j3, j4, j5, j6]) rfl ⟨rfl, hBW8.out.1⟩
set_option maxRecDepth 20000 in
set_option maxHeartbeats 2000000 in
theorem Fits25_low {w : World} {u : Value} {k p q LO HI : Int} {m : Nat} {t : ByteArray} (hn : IntName t) (hr : RangeIs t LO HI) (hu : CRn w u k p q m) (hk : (decide (k = 3) || decide (k = 4)) = true) (hq : 0 < q) (hm : m ≤ 300) (h1q : q = 1) (hlo : cmpI p LO < 0) :
    Calls Tryz.prog 25 #[u, .string t] w fun e w' => e = .returned (.tuple #[cNone, .bool false]) ∧ Below w.heap.size w w' := by
  obtain ⟨m1, b1, k1, d1, m2, b2, k2, d2, rfl, hR⟩ := hu
  obtain ⟨n1, n2, n3, n4⟩ := hn
  obtain ⟨W, hW, hq0, hq1, hbW, hsz⟩ := two_new (w := w) (A := .cells #[.int .i64 k, .bool false, .string ⟨#[]⟩, .bool m1, .slice b1 k1 d1, .bool m2, .slice b2 k2 d2] 42) (B := .cells #[.int .i64 0, .bool false, .string ⟨#[]⟩, .bool false, .slice none 0 0, .bool false, .slice none 0 0] 42)
  obtain ⟨⟨p0, p1, p2, p3, p4, p5, p6⟩, _, _⟩ := cells7 hq0
  have hall : Hid (Below w.heap.size w W ∧ W.heap[w.heap.size + 1]? = some (.cells #[.int .i64 0, .bool false, .string ⟨#[]⟩, .bool false, .slice none 0 0, .bool false, .slice none 0 0] 42 (0, 0))) := ⟨hbW, hq1⟩
  have hRW : Hid (RatR W (.agg #[.bool m1, .slice b1 k1 d1, .bool m2, .slice b2 k2 d2]) p q m) := hR.next hbW
  have kR : Hid (Calls Tryz.prog 64 #[.string t] W _) := hr W
  have hqh : Hid (0 < q) := hq
  clear hq0 hq1 hbW hsz hR hr hq
  go_enter Tryz.func25, Tryz.ntmps25
  go_upto_region 1 with fail
  rw [← hW]
  clear hW
  go_wp2_with fail
  refine Calls.mono kR.out ?_
  clear kR
  rintro e w1 ⟨u1, v1, rfl, hU, hV, hb1⟩
  obtain ⟨g1, f1, e1, h1, rfl⟩ := Rint.form hU
  obtain ⟨g2, f2, e2, h2, rfl⟩ := Rint.form hV
  obtain ⟨W2, hW2, hx, hy, hb2, hs2⟩ := four_new (w := w1) (A := .cells #[.bool g1, .slice f1 e1 h1] 38) (B := .cells #[.bool g2, .slice f2 e2 h2] 38)
  have zk : Hid (Below W.heap.size W W2) := bthen hb1 hb2
  have hUV : Hid (Rint W2 (.agg #[.bool g1, .slice f1 e1 h1]) LO 20 ∧ Rint W2 (.agg #[.bool g2, .slice f2 e2 h2]) HI 20) := ⟨Rint.next hU hb2, Rint.next hV hb2⟩
  obtain ⟨⟨x0, x1⟩, _, _⟩ := cells2 hx
  obtain ⟨⟨y0, y1⟩, _, _⟩ := cells2 hy
  replace p0 := keep_cell zk.out p0
  replace p1 := keep_cell zk.out p1
  replace p2 := keep_cell zk.out p2
  replace p3 := keep_cell zk.out p3
  replace p4 := keep_cell zk.out p4
  replace p5 := keep_cell zk.out p5
  replace p6 := keep_cell zk.out p6
  clear hU hV hb1 hb2 hx hy hs2
  go_upto_region 16 with fail
  rw [← hW2]
  clear hW2
  generalize w1.heap.size = pL at *
  have kN : Hid (Calls Tryz.prog 57 #[.agg #[.int .i64 k, .bool false, .string ⟨#[]⟩, .bool m1, .slice b1 k1 d1, .bool m2, .slice b2 k2 d2]] W2 fun e w' => e = .returned (.bool true) ∧ Below W2.heap.size W2 w') := Num57_any W2 k false ⟨#[]⟩ m1 b1 k1 d1 m2 b2 k2 d2 true hk
  go_wp2_with fail
  refine Calls.mono kN.out ?_
  clear kN
  rintro e w3 ⟨rfl, hb3⟩
  replace p0 := keep_cell hb3 p0
  replace p1 := keep_cell hb3 p1
  replace p2 := keep_cell hb3 p2
  replace p3 := keep_cell hb3 p3
  replace p4 := keep_cell hb3 p4
  replace p5 := keep_cell hb3 p5
  replace p6 := keep_cell hb3 p6
  replace x0 := keep_cell hb3 x0
  replace y0 := keep_cell hb3 y0
  replace x1 := keep_cell hb3 x1
  replace y1 := keep_cell hb3 y1
  replace hUV : Hid (Rint w3 (.agg #[.bool g1, .slice f1 e1 h1]) LO 20 ∧ Rint w3 (.agg #[.bool g2, .slice f2 e2 h2]) HI 20) := ⟨Rint.next hUV.out.1 hb3, Rint.next hUV.out.2 hb3⟩
  replace zk : Hid (Below W.heap.size W w3) := bthen zk.out hb3
  clear hb3
  have kI : Hid (Calls Tryz.prog 65 #[.agg #[.bool m1, .slice b1 k1 d1, .bool m2, .slice b2 k2 d2]] w3 fun e w' => e = .returned (.bool true) ∧ Below w3.heap.size w3 w') := by
    have h := IsInt_num (RatR.next hRW.out zk.out) hqh.out (by omega)
    rw [decide_eq_true h1q] at h
    exact h
  go_wp2_with fail
  refine Calls.mono kI.out ?_
  clear kI
  rintro e w4 ⟨rfl, hb4⟩
  replace p0 := keep_cell hb4 p0
  replace p1 := keep_cell hb4 p1
  replace p2 := keep_cell hb4 p2
  replace p3 := keep_cell hb4 p3
  replace p4 := keep_cell hb4 p4
  replace p5 := keep_cell hb4 p5
  replace p6 := keep_cell hb4 p6
  replace x0 := keep_cell hb4 x0
  replace y0 := keep_cell hb4 y0
  replace x1 := keep_cell hb4 x1
  replace y1 := keep_cell hb4 y1
  replace hUV : Hid (Rint w4 (.agg #[.bool g1, .slice f1 e1 h1]) LO 20 ∧ Rint w4 (.agg #[.bool g2, .slice f2 e2 h2]) HI 20) := ⟨Rint.next hUV.out.1 hb4, Rint.next hUV.out.2 hb4⟩
  replace zk : Hid (Below W.heap.size W w4) := bthen zk.out hb4
  clear hb4
  have kC : Hid (Calls Tryz.prog 66 #[.agg #[.bool m1, .slice b1 k1 d1], .agg #[.bool g1, .slice f1 e1 h1]] w4 fun e w' => e = .returned (.int .i64 (cmpI p LO)) ∧ Below w4.heap.size w4 w') := rCmp_num (RatR.next hRW.out zk.out).parts.1 hUV.out.1 (by omega) (by decide)
  go_wp2_with fail
  refine Calls.mono kC.out ?_
  clear kC
  rintro e w5 ⟨rfl, hb5⟩
  replace p0 := keep_cell hb5 p0
  replace p1 := keep_cell hb5 p1
  replace p2 := keep_cell hb5 p2
  replace p3 := keep_cell hb5 p3
  replace p4 := keep_cell hb5 p4
  replace p5 := keep_cell hb5 p5
  replace p6 := keep_cell hb5 p6
  replace x0 := keep_cell hb5 x0
  replace y0 := keep_cell hb5 y0
  replace x1 := keep_cell hb5 x1
  replace y1 := keep_cell hb5 y1
  replace hUV : Hid (Rint w5 (.agg #[.bool g1, .slice f1 e1 h1]) LO 20 ∧ Rint w5 (.agg #[.bool g2, .slice f2 e2 h2]) HI 20) := ⟨Rint.next hUV.out.1 hb5, Rint.next hUV.out.2 hb5⟩
  replace zk : Hid (Below W.heap.size W w5) := bthen zk.out hb5
  clear hb5
  have c1 : cmpI p LO < 0 := hlo
  have c1' : decide (cmpI p LO < 0) = true := decide_eq_true hlo
  generalize cmpI p LO = C1 at *
  have q8 := keep_heap zk.out hall.out.2
  obtain ⟨⟨r0, r1, r2, r3, r4, r5, r6⟩, rf, _⟩ := cells7 q8
  have rf0 := rf 0
  have rf1 := rf 1
  have rf2 := rf 2
  have rf3 := rf 3
  have rf4 := rf 4
  have rf5 := rf 5
  have rf6 := rf 6
  obtain ⟨W8, hW8⟩ : ∃ W8, W8 = put7 w5 (w.heap.size + 1) (.int .i64 0) (.bool false) (.string ⟨#[]⟩) (.bool false) (.slice none 0 0) (.bool false) (.slice none 0 0) := ⟨_, rfl⟩
  have hqW8 : Hid (W8.heap[w.heap.size + 1]? = some (.cells #[.int .i64 0, .bool false, .string ⟨#[]⟩, .bool false, .slice none 0 0, .bool false, .slice none 0 0] 42 (0, 0))) := by show _ = _; rw [hW8]; exact put7_at q8
  have hBW8 : Hid (Below w.heap.size w W8 ∧ CRn W8 (.agg #[.int .i64 3, .bool false, .string ⟨#[]⟩, .bool m1, .slice b1 k1 d1, .bool m2, .slice b2 k2 d2]) 3 p q m) := by
    show _ ∧ _
    rw [hW8]
    exact ⟨put7_below (bthen hall.out.1 zk.out) (by omega), CRn.put7 ⟨_, _, _, _, _, _, _, _, rfl, RatR.next hRW.out zk.out⟩ ⟨_, _, _, _, _, _, _, _, _, _, _, q8⟩⟩
  clear q8 rf zk hall hRW 
  go_wp2
  unfold put7 at hW8
  rw [← hW8]
  obtain ⟨⟨j0, j1, j2, j3, j4, j5, j6⟩, _, _⟩ := cells7 hqW8.out
  exact bodyPost_ret (v := .tuple #[.agg #[.int .i64 0, .bool false, .string ⟨#[]⟩, .bool false, .slice none 0 0, .bool false, .slice none 0 0], .bool false]) (by simp [results, Tryz.results25, go_sem, j0, j1, j2, j3, j4, j5, j6]) rfl ⟨rfl, hBW8.out.1⟩
set_option maxRecDepth 20000 in
set_option maxHeartbeats 2000000 in
theorem Fits25_high {w : World} {u : Value} {k p q LO HI : Int} {m : Nat} {t : ByteArray} (hn : IntName t) (hr : RangeIs t LO HI) (hu : CRn w u k p q m) (hk : (decide (k = 3) || decide (k = 4)) = true) (hq : 0 < q) (hm : m ≤ 300) (h1q : q = 1) (hlo : ¬ cmpI p LO < 0) (hhi : cmpI p HI > 0) :
    Calls Tryz.prog 25 #[u, .string t] w fun e w' => e = .returned (.tuple #[cNone, .bool false]) ∧ Below w.heap.size w w' := by
  obtain ⟨m1, b1, k1, d1, m2, b2, k2, d2, rfl, hR⟩ := hu
  obtain ⟨n1, n2, n3, n4⟩ := hn
  obtain ⟨W, hW, hq0, hq1, hbW, hsz⟩ := two_new (w := w) (A := .cells #[.int .i64 k, .bool false, .string ⟨#[]⟩, .bool m1, .slice b1 k1 d1, .bool m2, .slice b2 k2 d2] 42) (B := .cells #[.int .i64 0, .bool false, .string ⟨#[]⟩, .bool false, .slice none 0 0, .bool false, .slice none 0 0] 42)
  obtain ⟨⟨p0, p1, p2, p3, p4, p5, p6⟩, _, _⟩ := cells7 hq0
  have hall : Hid (Below w.heap.size w W ∧ W.heap[w.heap.size + 1]? = some (.cells #[.int .i64 0, .bool false, .string ⟨#[]⟩, .bool false, .slice none 0 0, .bool false, .slice none 0 0] 42 (0, 0))) := ⟨hbW, hq1⟩
  have hRW : Hid (RatR W (.agg #[.bool m1, .slice b1 k1 d1, .bool m2, .slice b2 k2 d2]) p q m) := hR.next hbW
  have kR : Hid (Calls Tryz.prog 64 #[.string t] W _) := hr W
  have hqh : Hid (0 < q) := hq
  clear hq0 hq1 hbW hsz hR hr hq
  go_enter Tryz.func25, Tryz.ntmps25
  go_upto_region 1 with fail
  rw [← hW]
  clear hW
  go_wp2_with fail
  refine Calls.mono kR.out ?_
  clear kR
  rintro e w1 ⟨u1, v1, rfl, hU, hV, hb1⟩
  obtain ⟨g1, f1, e1, h1, rfl⟩ := Rint.form hU
  obtain ⟨g2, f2, e2, h2, rfl⟩ := Rint.form hV
  obtain ⟨W2, hW2, hx, hy, hb2, hs2⟩ := four_new (w := w1) (A := .cells #[.bool g1, .slice f1 e1 h1] 38) (B := .cells #[.bool g2, .slice f2 e2 h2] 38)
  have zk : Hid (Below W.heap.size W W2) := bthen hb1 hb2
  have hUV : Hid (Rint W2 (.agg #[.bool g1, .slice f1 e1 h1]) LO 20 ∧ Rint W2 (.agg #[.bool g2, .slice f2 e2 h2]) HI 20) := ⟨Rint.next hU hb2, Rint.next hV hb2⟩
  obtain ⟨⟨x0, x1⟩, _, _⟩ := cells2 hx
  obtain ⟨⟨y0, y1⟩, _, _⟩ := cells2 hy
  replace p0 := keep_cell zk.out p0
  replace p1 := keep_cell zk.out p1
  replace p2 := keep_cell zk.out p2
  replace p3 := keep_cell zk.out p3
  replace p4 := keep_cell zk.out p4
  replace p5 := keep_cell zk.out p5
  replace p6 := keep_cell zk.out p6
  clear hU hV hb1 hb2 hx hy hs2
  go_upto_region 16 with fail
  rw [← hW2]
  clear hW2
  generalize w1.heap.size = pL at *
  have kN : Hid (Calls Tryz.prog 57 #[.agg #[.int .i64 k, .bool false, .string ⟨#[]⟩, .bool m1, .slice b1 k1 d1, .bool m2, .slice b2 k2 d2]] W2 fun e w' => e = .returned (.bool true) ∧ Below W2.heap.size W2 w') := Num57_any W2 k false ⟨#[]⟩ m1 b1 k1 d1 m2 b2 k2 d2 true hk
  go_wp2_with fail
  refine Calls.mono kN.out ?_
  clear kN
  rintro e w3 ⟨rfl, hb3⟩
  replace p0 := keep_cell hb3 p0
  replace p1 := keep_cell hb3 p1
  replace p2 := keep_cell hb3 p2
  replace p3 := keep_cell hb3 p3
  replace p4 := keep_cell hb3 p4
  replace p5 := keep_cell hb3 p5
  replace p6 := keep_cell hb3 p6
  replace x0 := keep_cell hb3 x0
  replace y0 := keep_cell hb3 y0
  replace x1 := keep_cell hb3 x1
  replace y1 := keep_cell hb3 y1
  replace hUV : Hid (Rint w3 (.agg #[.bool g1, .slice f1 e1 h1]) LO 20 ∧ Rint w3 (.agg #[.bool g2, .slice f2 e2 h2]) HI 20) := ⟨Rint.next hUV.out.1 hb3, Rint.next hUV.out.2 hb3⟩
  replace zk : Hid (Below W.heap.size W w3) := bthen zk.out hb3
  clear hb3
  have kI : Hid (Calls Tryz.prog 65 #[.agg #[.bool m1, .slice b1 k1 d1, .bool m2, .slice b2 k2 d2]] w3 fun e w' => e = .returned (.bool true) ∧ Below w3.heap.size w3 w') := by
    have h := IsInt_num (RatR.next hRW.out zk.out) hqh.out (by omega)
    rw [decide_eq_true h1q] at h
    exact h
  go_wp2_with fail
  refine Calls.mono kI.out ?_
  clear kI
  rintro e w4 ⟨rfl, hb4⟩
  replace p0 := keep_cell hb4 p0
  replace p1 := keep_cell hb4 p1
  replace p2 := keep_cell hb4 p2
  replace p3 := keep_cell hb4 p3
  replace p4 := keep_cell hb4 p4
  replace p5 := keep_cell hb4 p5
  replace p6 := keep_cell hb4 p6
  replace x0 := keep_cell hb4 x0
  replace y0 := keep_cell hb4 y0
  replace x1 := keep_cell hb4 x1
  replace y1 := keep_cell hb4 y1
  replace hUV : Hid (Rint w4 (.agg #[.bool g1, .slice f1 e1 h1]) LO 20 ∧ Rint w4 (.agg #[.bool g2, .slice f2 e2 h2]) HI 20) := ⟨Rint.next hUV.out.1 hb4, Rint.next hUV.out.2 hb4⟩
  replace zk : Hid (Below W.heap.size W w4) := bthen zk.out hb4
  clear hb4
  have kC : Hid (Calls Tryz.prog 66 #[.agg #[.bool m1, .slice b1 k1 d1], .agg #[.bool g1, .slice f1 e1 h1]] w4 fun e w' => e = .returned (.int .i64 (cmpI p LO)) ∧ Below w4.heap.size w4 w') := rCmp_num (RatR.next hRW.out zk.out).parts.1 hUV.out.1 (by omega) (by decide)
  go_wp2_with fail
  refine Calls.mono kC.out ?_
  clear kC
  rintro e w5 ⟨rfl, hb5⟩
  replace p0 := keep_cell hb5 p0
  replace p1 := keep_cell hb5 p1
  replace p2 := keep_cell hb5 p2
  replace p3 := keep_cell hb5 p3
  replace p4 := keep_cell hb5 p4
  replace p5 := keep_cell hb5 p5
  replace p6 := keep_cell hb5 p6
  replace x0 := keep_cell hb5 x0
  replace y0 := keep_cell hb5 y0
  replace x1 := keep_cell hb5 x1
  replace y1 := keep_cell hb5 y1
  replace hUV : Hid (Rint w5 (.agg #[.bool g1, .slice f1 e1 h1]) LO 20 ∧ Rint w5 (.agg #[.bool g2, .slice f2 e2 h2]) HI 20) := ⟨Rint.next hUV.out.1 hb5, Rint.next hUV.out.2 hb5⟩
  replace zk : Hid (Below W.heap.size W w5) := bthen zk.out hb5
  clear hb5
  have c1 : ¬ cmpI p LO < 0 := by omega
  have c1' : decide (cmpI p LO < 0) = false := decide_eq_false (by omega)
  have c1'' : 0 ≤ cmpI p LO := by omega
  generalize cmpI p LO = C1 at *
  have kD : Hid (Calls Tryz.prog 66 #[.agg #[.bool m1, .slice b1 k1 d1], .agg #[.bool g2, .slice f2 e2 h2]] w5 fun e w' => e = .returned (.int .i64 (cmpI p HI)) ∧ Below w5.heap.size w5 w') := rCmp_num (RatR.next hRW.out zk.out).parts.1 hUV.out.2 (by omega) (by decide)
  go_wp2_with fail
  refine Calls.mono kD.out ?_
  clear kD
  rintro e w6 ⟨rfl, hb6⟩
  replace p0 := keep_cell hb6 p0
  replace p1 := keep_cell hb6 p1
  replace p2 := keep_cell hb6 p2
  replace p3 := keep_cell hb6 p3
  replace p4 := keep_cell hb6 p4
  replace p5 := keep_cell hb6 p5
  replace p6 := keep_cell hb6 p6
  replace x0 := keep_cell hb6 x0
  replace y0 := keep_cell hb6 y0
  replace x1 := keep_cell hb6 x1
  replace y1 := keep_cell hb6 y1
  replace zk : Hid (Below W.heap.size W w6) := bthen zk.out hb6
  clear hb6 hUV
  have c2 : cmpI p HI > 0 := hhi
  have c2' : decide (cmpI p HI > 0) = true := decide_eq_true hhi
  have c2'' : 0 < cmpI p HI := hhi
  generalize cmpI p HI = C2 at *
  have q8 := keep_heap zk.out hall.out.2
  obtain ⟨⟨r0, r1, r2, r3, r4, r5, r6⟩, rf, _⟩ := cells7 q8
  have rf0 := rf 0
  have rf1 := rf 1
  have rf2 := rf 2
  have rf3 := rf 3
  have rf4 := rf 4
  have rf5 := rf 5
  have rf6 := rf 6
  obtain ⟨W8, hW8⟩ : ∃ W8, W8 = put7 w6 (w.heap.size + 1) (.int .i64 0) (.bool false) (.string ⟨#[]⟩) (.bool false) (.slice none 0 0) (.bool false) (.slice none 0 0) := ⟨_, rfl⟩
  have hqW8 : Hid (W8.heap[w.heap.size + 1]? = some (.cells #[.int .i64 0, .bool false, .string ⟨#[]⟩, .bool false, .slice none 0 0, .bool false, .slice none 0 0] 42 (0, 0))) := by show _ = _; rw [hW8]; exact put7_at q8
  have hBW8 : Hid (Below w.heap.size w W8 ∧ CRn W8 (.agg #[.int .i64 3, .bool false, .string ⟨#[]⟩, .bool m1, .slice b1 k1 d1, .bool m2, .slice b2 k2 d2]) 3 p q m) := by
    show _ ∧ _
    rw [hW8]
    exact ⟨put7_below (bthen hall.out.1 zk.out) (by omega), CRn.put7 ⟨_, _, _, _, _, _, _, _, rfl, RatR.next hRW.out zk.out⟩ ⟨_, _, _, _, _, _, _, _, _, _, _, q8⟩⟩
  clear q8 rf zk hall hRW 
  go_wp2
  unfold put7 at hW8
  rw [← hW8]
  obtain ⟨⟨j0, j1, j2, j3, j4, j5, j6⟩, _, _⟩ := cells7 hqW8.out
  exact bodyPost_ret (v := .tuple #[.agg #[.int .i64 0, .bool false, .string ⟨#[]⟩, .bool false, .slice none 0 0, .bool false, .slice none 0 0], .bool false]) (by simp [results, Tryz.results25, go_sem, j0, j1, j2, j3, j4, j5, j6]) rfl ⟨rfl, hBW8.out.1⟩
set_option maxRecDepth 20000 in
set_option maxHeartbeats 2000000 in
theorem Fits25_yes {w : World} {u : Value} {k p q LO HI : Int} {m : Nat} {t : ByteArray} (hn : IntName t) (hr : RangeIs t LO HI) (hu : CRn w u k p q m) (hk : (decide (k = 3) || decide (k = 4)) = true) (hq : 0 < q) (hm : m ≤ 300) (h1q : q = 1) (hlo : ¬ cmpI p LO < 0) (hhi : ¬ cmpI p HI > 0) :
    Calls Tryz.prog 25 #[u, .string t] w fun e w' => ∃ t, e = .returned (.tuple #[t, .bool true]) ∧ CRn w' t 3 p q m ∧ Below w.heap.size w w' := by
  obtain ⟨m1, b1, k1, d1, m2, b2, k2, d2, rfl, hR⟩ := hu
  obtain ⟨n1, n2, n3, n4⟩ := hn
  obtain ⟨W, hW, hq0, hq1, hbW, hsz⟩ := two_new (w := w) (A := .cells #[.int .i64 k, .bool false, .string ⟨#[]⟩, .bool m1, .slice b1 k1 d1, .bool m2, .slice b2 k2 d2] 42) (B := .cells #[.int .i64 0, .bool false, .string ⟨#[]⟩, .bool false, .slice none 0 0, .bool false, .slice none 0 0] 42)
  obtain ⟨⟨p0, p1, p2, p3, p4, p5, p6⟩, _, _⟩ := cells7 hq0
  have hall : Hid (Below w.heap.size w W ∧ W.heap[w.heap.size + 1]? = some (.cells #[.int .i64 0, .bool false, .string ⟨#[]⟩, .bool false, .slice none 0 0, .bool false, .slice none 0 0] 42 (0, 0))) := ⟨hbW, hq1⟩
  have hRW : Hid (RatR W (.agg #[.bool m1, .slice b1 k1 d1, .bool m2, .slice b2 k2 d2]) p q m) := hR.next hbW
  have kR : Hid (Calls Tryz.prog 64 #[.string t] W _) := hr W
  have hqh : Hid (0 < q) := hq
  clear hq0 hq1 hbW hsz hR hr hq
  go_enter Tryz.func25, Tryz.ntmps25
  go_upto_region 1 with fail
  rw [← hW]
  clear hW
  go_wp2_with fail
  refine Calls.mono kR.out ?_
  clear kR
  rintro e w1 ⟨u1, v1, rfl, hU, hV, hb1⟩
  obtain ⟨g1, f1, e1, h1, rfl⟩ := Rint.form hU
  obtain ⟨g2, f2, e2, h2, rfl⟩ := Rint.form hV
  obtain ⟨W2, hW2, hx, hy, hb2, hs2⟩ := four_new (w := w1) (A := .cells #[.bool g1, .slice f1 e1 h1] 38) (B := .cells #[.bool g2, .slice f2 e2 h2] 38)
  have zk : Hid (Below W.heap.size W W2) := bthen hb1 hb2
  have hUV : Hid (Rint W2 (.agg #[.bool g1, .slice f1 e1 h1]) LO 20 ∧ Rint W2 (.agg #[.bool g2, .slice f2 e2 h2]) HI 20) := ⟨Rint.next hU hb2, Rint.next hV hb2⟩
  obtain ⟨⟨x0, x1⟩, _, _⟩ := cells2 hx
  obtain ⟨⟨y0, y1⟩, _, _⟩ := cells2 hy
  replace p0 := keep_cell zk.out p0
  replace p1 := keep_cell zk.out p1
  replace p2 := keep_cell zk.out p2
  replace p3 := keep_cell zk.out p3
  replace p4 := keep_cell zk.out p4
  replace p5 := keep_cell zk.out p5
  replace p6 := keep_cell zk.out p6
  clear hU hV hb1 hb2 hx hy hs2
  go_upto_region 16 with fail
  rw [← hW2]
  clear hW2
  generalize w1.heap.size = pL at *
  have kN : Hid (Calls Tryz.prog 57 #[.agg #[.int .i64 k, .bool false, .string ⟨#[]⟩, .bool m1, .slice b1 k1 d1, .bool m2, .slice b2 k2 d2]] W2 fun e w' => e = .returned (.bool true) ∧ Below W2.heap.size W2 w') := Num57_any W2 k false ⟨#[]⟩ m1 b1 k1 d1 m2 b2 k2 d2 true hk
  go_wp2_with fail
  refine Calls.mono kN.out ?_
  clear kN
  rintro e w3 ⟨rfl, hb3⟩
  replace p0 := keep_cell hb3 p0
  replace p1 := keep_cell hb3 p1
  replace p2 := keep_cell hb3 p2
  replace p3 := keep_cell hb3 p3
  replace p4 := keep_cell hb3 p4
  replace p5 := keep_cell hb3 p5
  replace p6 := keep_cell hb3 p6
  replace x0 := keep_cell hb3 x0
  replace y0 := keep_cell hb3 y0
  replace x1 := keep_cell hb3 x1
  replace y1 := keep_cell hb3 y1
  replace hUV : Hid (Rint w3 (.agg #[.bool g1, .slice f1 e1 h1]) LO 20 ∧ Rint w3 (.agg #[.bool g2, .slice f2 e2 h2]) HI 20) := ⟨Rint.next hUV.out.1 hb3, Rint.next hUV.out.2 hb3⟩
  replace zk : Hid (Below W.heap.size W w3) := bthen zk.out hb3
  clear hb3
  have kI : Hid (Calls Tryz.prog 65 #[.agg #[.bool m1, .slice b1 k1 d1, .bool m2, .slice b2 k2 d2]] w3 fun e w' => e = .returned (.bool true) ∧ Below w3.heap.size w3 w') := by
    have h := IsInt_num (RatR.next hRW.out zk.out) hqh.out (by omega)
    rw [decide_eq_true h1q] at h
    exact h
  go_wp2_with fail
  refine Calls.mono kI.out ?_
  clear kI
  rintro e w4 ⟨rfl, hb4⟩
  replace p0 := keep_cell hb4 p0
  replace p1 := keep_cell hb4 p1
  replace p2 := keep_cell hb4 p2
  replace p3 := keep_cell hb4 p3
  replace p4 := keep_cell hb4 p4
  replace p5 := keep_cell hb4 p5
  replace p6 := keep_cell hb4 p6
  replace x0 := keep_cell hb4 x0
  replace y0 := keep_cell hb4 y0
  replace x1 := keep_cell hb4 x1
  replace y1 := keep_cell hb4 y1
  replace hUV : Hid (Rint w4 (.agg #[.bool g1, .slice f1 e1 h1]) LO 20 ∧ Rint w4 (.agg #[.bool g2, .slice f2 e2 h2]) HI 20) := ⟨Rint.next hUV.out.1 hb4, Rint.next hUV.out.2 hb4⟩
  replace zk : Hid (Below W.heap.size W w4) := bthen zk.out hb4
  clear hb4
  have kC : Hid (Calls Tryz.prog 66 #[.agg #[.bool m1, .slice b1 k1 d1], .agg #[.bool g1, .slice f1 e1 h1]] w4 fun e w' => e = .returned (.int .i64 (cmpI p LO)) ∧ Below w4.heap.size w4 w') := rCmp_num (RatR.next hRW.out zk.out).parts.1 hUV.out.1 (by omega) (by decide)
  go_wp2_with fail
  refine Calls.mono kC.out ?_
  clear kC
  rintro e w5 ⟨rfl, hb5⟩
  replace p0 := keep_cell hb5 p0
  replace p1 := keep_cell hb5 p1
  replace p2 := keep_cell hb5 p2
  replace p3 := keep_cell hb5 p3
  replace p4 := keep_cell hb5 p4
  replace p5 := keep_cell hb5 p5
  replace p6 := keep_cell hb5 p6
  replace x0 := keep_cell hb5 x0
  replace y0 := keep_cell hb5 y0
  replace x1 := keep_cell hb5 x1
  replace y1 := keep_cell hb5 y1
  replace hUV : Hid (Rint w5 (.agg #[.bool g1, .slice f1 e1 h1]) LO 20 ∧ Rint w5 (.agg #[.bool g2, .slice f2 e2 h2]) HI 20) := ⟨Rint.next hUV.out.1 hb5, Rint.next hUV.out.2 hb5⟩
  replace zk : Hid (Below W.heap.size W w5) := bthen zk.out hb5
  clear hb5
  have c1 : ¬ cmpI p LO < 0 := by omega
  have c1' : decide (cmpI p LO < 0) = false := decide_eq_false (by omega)
  have c1'' : 0 ≤ cmpI p LO := by omega
  generalize cmpI p LO = C1 at *
  have kD : Hid (Calls Tryz.prog 66 #[.agg #[.bool m1, .slice b1 k1 d1], .agg #[.bool g2, .slice f2 e2 h2]] w5 fun e w' => e = .returned (.int .i64 (cmpI p HI)) ∧ Below w5.heap.size w5 w') := rCmp_num (RatR.next hRW.out zk.out).parts.1 hUV.out.2 (by omega) (by decide)
  go_wp2_with fail
  refine Calls.mono kD.out ?_
  clear kD
  rintro e w6 ⟨rfl, hb6⟩
  replace p0 := keep_cell hb6 p0
  replace p1 := keep_cell hb6 p1
  replace p2 := keep_cell hb6 p2
  replace p3 := keep_cell hb6 p3
  replace p4 := keep_cell hb6 p4
  replace p5 := keep_cell hb6 p5
  replace p6 := keep_cell hb6 p6
  replace x0 := keep_cell hb6 x0
  replace y0 := keep_cell hb6 y0
  replace x1 := keep_cell hb6 x1
  replace y1 := keep_cell hb6 y1
  replace zk : Hid (Below W.heap.size W w6) := bthen zk.out hb6
  clear hb6 hUV
  have c2 : ¬ cmpI p HI > 0 := by omega
  have c2' : decide (cmpI p HI > 0) = false := decide_eq_false (by omega)
  have c2'' : cmpI p HI ≤ 0 := by omega
  generalize cmpI p HI = C2 at *
  have q8 := keep_heap zk.out hall.out.2
  obtain ⟨⟨r0, r1, r2, r3, r4, r5, r6⟩, rf, _⟩ := cells7 q8
  have rf0 := rf 0
  have rf1 := rf 1
  have rf2 := rf 2
  have rf3 := rf 3
  have rf4 := rf 4
  have rf5 := rf 5
  have rf6 := rf 6
  obtain ⟨W8, hW8⟩ : ∃ W8, W8 = put7 w6 (w.heap.size + 1) (.int .i64 3) (.bool false) (.string ⟨#[]⟩) (.bool m1) (.slice b1 k1 d1) (.bool m2) (.slice b2 k2 d2) := ⟨_, rfl⟩
  have hqW8 : Hid (W8.heap[w.heap.size + 1]? = some (.cells #[.int .i64 3, .bool false, .string ⟨#[]⟩, .bool m1, .slice b1 k1 d1, .bool m2, .slice b2 k2 d2] 42 (0, 0))) := by show _ = _; rw [hW8]; exact put7_at q8
  have hBW8 : Hid (Below w.heap.size w W8 ∧ CRn W8 (.agg #[.int .i64 3, .bool false, .string ⟨#[]⟩, .bool m1, .slice b1 k1 d1, .bool m2, .slice b2 k2 d2]) 3 p q m) := by
    show _ ∧ _
    rw [hW8]
    exact ⟨put7_below (bthen hall.out.1 zk.out) (by omega), CRn.put7 ⟨_, _, _, _, _, _, _, _, rfl, RatR.next hRW.out zk.out⟩ ⟨_, _, _, _, _, _, _, _, _, _, _, q8⟩⟩
  clear q8 rf zk hall hRW 
  go_wp2
  unfold put7 at hW8
  rw [← hW8]
  obtain ⟨⟨j0, j1, j2, j3, j4, j5, j6⟩, _, _⟩ := cells7 hqW8.out
  exact bodyPost_ret (v := .tuple #[.agg #[.int .i64 3, .bool false, .string ⟨#[]⟩, .bool m1, .slice b1 k1 d1, .bool m2, .slice b2 k2 d2], .bool true]) (by simp [results, Tryz.results25, go_sem, j0, j1, j2, j3, j4, j5, j6]) rfl ⟨_, rfl, hBW8.out.2, hBW8.out.1⟩
end Go.Proofs.YtclokcoimdjaeaaGreatDoor
