/- constants: the second road adds and divides numbers. -/
import Derived.Test.YtclokcoimdjaeaaGreatDoorZd
import Derived.Deep.RegionWith
import Derived.Test.YtclokcoimdjaeaaGreatDoorGimm
namespace Go.Proofs.YtclokcoimdjaeaaGreatDoor
set_option linter.unusedVariables false
open Go.RowKit
attribute [local go_sem ↓] Go.wp_at_zero Go.wp_at_succ
/-- A store where no number lies leaves all rows. -/
theorem Row.setNon {w : World} {k : IntKind} {B : Int} {a : Option Addr} {cap : Nat} {ds : List Int} (h : Row w k B a cap ds) {p : Addr} {v : Value} (hc : w.cell? p = some v) (hn : notInt v) (u : Value) : Row (w.setCell p u) k B a cap ds := by
  refine ⟨h.le, h.max, h.nil, fun x hx i hi => ?_, h.words⟩
  have h1 := h.cell x hx i hi
  by_cases e : p = x.add i
  · exfalso
    rw [← e, hc] at h1
    exact hn _ _ (Option.some.inj h1)
  · rw [World.cell?_setCell_other _ _ _ _ e]
    exact h1
theorem RatR.setNon {w : World} {v : Value} {p q : Int} {m : Nat} (h : RatR w v p q m) {x : Addr} {y : Value} (hc : w.cell? x = some y) (hn : notInt y) (u : Value) : RatR (w.setCell x u) v p q m := by
  obtain ⟨n1, a1, l1, c1, n2, a2, l2, c2, e, ⟨x1, x2, x3, x4, e1, r1, y1⟩, ⟨z1, z2, z3, z4, e2, r2, y2⟩⟩ := h
  exact ⟨n1, a1, l1, c1, n2, a2, l2, c2, e, ⟨x1, x2, x3, x4, e1, r1.setNon hc hn u, y1⟩, ⟨z1, z2, z3, z4, e2, r2.setNon hc hn u, y2⟩⟩
/-- A box's fraction put anew. -/
theorem RatR.set4 {w : World} {v : Value} {p q : Int} {m : Nat} (h : RatR w v p q m) {b T : Nat} {u0 u1 u2 : Value} {m1 : Bool} {b1 : Option Addr} {k1 d1 : Nat} {m2 : Bool} {b2 : Option Addr} {k2 d2 : Nat} (hq : w.heap[b]? = some (.cells #[u0, u1, u2, .bool m1, .slice b1 k1 d1, .bool m2, .slice b2 k2 d2] T (0, 0))) (v3 v4 v5 v6 : Value) : RatR ((((w.setCell ⟨b, 3, none⟩ v3).setCell ⟨b, 4, none⟩ v4).setCell ⟨b, 5, none⟩ v5).setCell ⟨b, 6, none⟩ v6) v p q m := by
  obtain ⟨⟨_, _, _, h3, h4, h5, h6⟩, _, _⟩ := cells7 hq
  have o1 : ∀ (x y : Nat), x ≠ y → (⟨b, x, none⟩ : Addr) ≠ ⟨b, y, none⟩ := fun x y hne e => hne (by injection e)
  refine (((h.setNon h3 (notInt_bool _) v3).setNon (x := ⟨b, 4, none⟩) ?_ (notInt_slice b1 k1 d1) v4).setNon (x := ⟨b, 5, none⟩) ?_ (notInt_bool m2) v5).setNon (x := ⟨b, 6, none⟩) ?_ (notInt_slice b2 k2 d2) v6
  · rw [World.cell?_setCell_other _ _ _ _ (o1 _ _ (by decide))]; exact h4
  · rw [World.cell?_setCell_other _ _ _ _ (o1 _ _ (by decide)), World.cell?_setCell_other _ _ _ _ (o1 _ _ (by decide))]; exact h5
  · rw [World.cell?_setCell_other _ _ _ _ (o1 _ _ (by decide)), World.cell?_setCell_other _ _ _ _ (o1 _ _ (by decide)), World.cell?_setCell_other _ _ _ _ (o1 _ _ (by decide))]; exact h6
theorem low_simple {x y p q : Int} (hy : 0 < y) (h : Low (pN x y) (pD y) p q) : Low x y p q := by
  rw [pN_pos hy, pD_of hy] at h
  exact h
set_option maxRecDepth 20000 in
set_option maxHeartbeats 2000000 in
theorem bin_33_add {w : World} {u v : Value} {p q p2 q2 : Int} {m : Nat} (hu : CRn w u 3 p q m) (hv : CRn w v 3 p2 q2 m) (hm : m ≤ 100) (hq : 0 < q) (hq2 : 0 < q2)  :
    Calls Tryz.prog 56 #[.string ⟨#[43]⟩, u, v] w fun e w' => ∃ t P Q, e = .returned (.tuple #[t, .bool true]) ∧ CRn w' t 3 P Q (2 * m + 4) ∧ Low (p * q2 + p2 * q) (q * q2) P Q ∧ Below w.heap.size w w' := by
  obtain ⟨m1, b1, k1, d1, n1, a1, l1, c1, rfl, hR1⟩ := hu
  obtain ⟨m2, b2, k2, d2, n2, a2, l2, c2, rfl, hR2⟩ := hv
  obtain ⟨W, hW, hqa, hqb, hqc, hbW, hsz⟩ := three_new (w := w) (A := .cells #[.int .i64 3, .bool false, .string ⟨#[]⟩, .bool m1, .slice b1 k1 d1, .bool n1, .slice a1 l1 c1] 42) (B := .cells #[.int .i64 3, .bool false, .string ⟨#[]⟩, .bool m2, .slice b2 k2 d2, .bool n2, .slice a2 l2 c2] 42) (C := .cells #[.int .i64 0, .bool false, .string ⟨#[]⟩, .bool false, .slice none 0 0, .bool false, .slice none 0 0] 42)
  obtain ⟨⟨p0, p1, p2', p3, p4, p5, p6⟩, _, _⟩ := cells7 hqa
  obtain ⟨⟨r0, r1, r2, r3, r4, r5, r6⟩, _, _⟩ := cells7 hqb
  have hpos : 0 < q * q2 := Int.mul_pos hq hq2
  have hall : Hid (Below w.heap.size w W ∧ W.heap[w.heap.size + 1 + 1]? = some (.cells #[.int .i64 0, .bool false, .string ⟨#[]⟩, .bool false, .slice none 0 0, .bool false, .slice none 0 0] 42 (0, 0)) ∧ W.heap.size = w.heap.size + 1 + 1 + 1 ∧ 0 < q * q2 ∧ RatR W (.agg #[.bool m1, .slice b1 k1 d1, .bool n1, .slice a1 l1 c1]) p q m ∧ RatR W (.agg #[.bool m2, .slice b2 k2 d2, .bool n2, .slice a2 l2 c2]) p2 q2 m) := ⟨hbW, hqc, hsz, hpos, hR1.next hbW, hR2.next hbW⟩
  have kN1 : Hid (∀ X, Calls Tryz.prog 57 #[.agg #[.int .i64 3, .bool false, .string ⟨#[]⟩, .bool m1, .slice b1 k1 d1, .bool n1, .slice a1 l1 c1]] X fun e w' => e = .returned (.bool true) ∧ Below X.heap.size X w') := fun X => Num57_any X 3 false ⟨#[]⟩ _ _ _ _ _ _ _ _ true rfl
  have kN2 : Hid (∀ X, Calls Tryz.prog 57 #[.agg #[.int .i64 3, .bool false, .string ⟨#[]⟩, .bool m2, .slice b2 k2 d2, .bool n2, .slice a2 l2 c2]] X fun e w' => e = .returned (.bool true) ∧ Below X.heap.size X w') := fun X => Num57_any X 3 false ⟨#[]⟩ _ _ _ _ _ _ _ _ true rfl
  clear hqa hqb hqc hbW hsz hR1 hR2 hpos hq hq2 
  go_enter Tryz.func56, Tryz.ntmps56
  go_upto_region 1 with fail
  rw [← hW]
  clear hW
  go_wp2_with fail
  refine Calls.mono (kN1.out _) ?_
  clear kN1
  rintro e w1 ⟨rfl, hb1⟩
  replace p0 := keep_cell hb1 p0
  replace p1 := keep_cell hb1 p1
  replace p2' := keep_cell hb1 p2'
  replace p3 := keep_cell hb1 p3
  replace p4 := keep_cell hb1 p4
  replace p5 := keep_cell hb1 p5
  replace p6 := keep_cell hb1 p6
  replace r0 := keep_cell hb1 r0
  replace r1 := keep_cell hb1 r1
  replace r2 := keep_cell hb1 r2
  replace r3 := keep_cell hb1 r3
  replace r4 := keep_cell hb1 r4
  replace r5 := keep_cell hb1 r5
  replace r6 := keep_cell hb1 r6
  have zk : Hid (Below W.heap.size W w1) := hb1
  clear hb1
  go_wp2_with fail
  refine Calls.mono (kN2.out _) ?_
  clear kN2
  rintro e w2 ⟨rfl, hb2⟩
  replace p0 := keep_cell hb2 p0
  replace p1 := keep_cell hb2 p1
  replace p2' := keep_cell hb2 p2'
  replace p3 := keep_cell hb2 p3
  replace p4 := keep_cell hb2 p4
  replace p5 := keep_cell hb2 p5
  replace p6 := keep_cell hb2 p6
  replace r0 := keep_cell hb2 r0
  replace r1 := keep_cell hb2 r1
  replace r2 := keep_cell hb2 r2
  replace r3 := keep_cell hb2 r3
  replace r4 := keep_cell hb2 r4
  replace r5 := keep_cell hb2 r5
  replace r6 := keep_cell hb2 r6
  replace zk : Hid (Below W.heap.size W w2) := bthen zk.out hb2
  clear hb2
  obtain ⟨W3, hW3⟩ : ∃ W3, W3 = w2.alloc (.cells #[.int .i64 3, .bool false, .string ⟨#[]⟩, .bool false, .slice none 0 0, .bool false, .slice none 0 0] 42) := ⟨_, rfl⟩
  go_upto_region 13 with fail
  rw [← hW3]
  have hb3 : Below w2.heap.size w2 W3 := by rw [hW3]; exact (Below.refl _ _).alloc (Nat.le_refl _) _
  have hq3h : Hid (W3.heap[w2.heap.size]? = some (.cells #[.int .i64 3, .bool false, .string ⟨#[]⟩, .bool false, .slice none 0 0, .bool false, .slice none 0 0] 42 (0, 0))) := by show _ = _; rw [hW3]; exact newAt _ _
  replace p0 := keep_cell hb3 p0
  replace p1 := keep_cell hb3 p1
  replace p2' := keep_cell hb3 p2'
  replace p3 := keep_cell hb3 p3
  replace p4 := keep_cell hb3 p4
  replace p5 := keep_cell hb3 p5
  replace p6 := keep_cell hb3 p6
  replace r0 := keep_cell hb3 r0
  replace r1 := keep_cell hb3 r1
  replace r2 := keep_cell hb3 r2
  replace r3 := keep_cell hb3 r3
  replace r4 := keep_cell hb3 r4
  replace r5 := keep_cell hb3 r5
  replace r6 := keep_cell hb3 r6
  replace zk : Hid (Below W.heap.size W W3 ∧ W.heap.size ≤ w2.heap.size) := ⟨bthen zk.out hb3, zk.out.size⟩
  clear hb3 hW3
  generalize w2.heap.size = pC at *
  have kO : Hid (Calls Tryz.prog 103 #[.agg #[.bool m1, .slice b1 k1 d1, .bool n1, .slice a1 l1 c1], .agg #[.bool m2, .slice b2 k2 d2, .bool n2, .slice a2 l2 c2]] W3 fun e w' => ∃ t, e = .returned t ∧ LowR w' t (pN (p * q2 + p2 * q) (q * q2)) (pD (q * q2)) (2 * m + 4) ∧ Below W3.heap.size W3 w') := AddRat_num (hall.out.2.2.2.2.1.next zk.out.1) (hall.out.2.2.2.2.2.next zk.out.1) (by omega) (by have := hall.out.2.2.2.1; omega)
  go_wp2_with fail
  refine Calls.mono kO.out ?_
  clear kO
  rintro e w4 ⟨t, rfl, ⟨P, Q, hR, hlow⟩, hb4⟩
  obtain ⟨m3, b3, k3, d3, n3, a3, l3, c3, rfl⟩ := hR.form
  have q4 := keep_heap hb4 hq3h.out
  obtain ⟨⟨s0, s1, s2, s3, s4, s5, s6⟩, sf, _⟩ := cells7 q4
  have sf3 := sf 3
  have sf4 := sf 4
  have sf5 := sf 5
  have sf6 := sf 6
  obtain ⟨W5, hW5⟩ : ∃ W5, W5 = (((w4.setCell ⟨pC, 3, none⟩ (.bool m3)).setCell ⟨pC, 4, none⟩ (.slice b3 k3 d3)).setCell ⟨pC, 5, none⟩ (.bool n3)).setCell ⟨pC, 6, none⟩ (.slice a3 l3 c3) := ⟨_, rfl⟩
  have q5 : W5.heap[pC]? = some (.cells #[.int .i64 3, .bool false, .string ⟨#[]⟩, .bool m3, .slice b3 k3 d3, .bool n3, .slice a3 l3 c3] 42 (0, 0)) := by rw [hW5]; exact put5_at q4
  have hR5 : RatR W5 (.agg #[.bool m3, .slice b3 k3 d3, .bool n3, .slice a3 l3 c3]) P Q (2 * m + 4) := by rw [hW5]; exact hR.set4 q4 _ _ _ _
  have hb5 : Below W.heap.size W W5 := by rw [hW5]; exact ((((bthen zk.out.1 hb4).setCell (by exact zk.out.2) _).setCell (by exact zk.out.2) _).setCell (by exact zk.out.2) _).setCell (by exact zk.out.2) _
  have q6 : W5.heap[w.heap.size + 1 + 1]? = some (.cells #[.int .i64 0, .bool false, .string ⟨#[]⟩, .bool false, .slice none 0 0, .bool false, .slice none 0 0] 42 (0, 0)) := (hb5.block _ (by have := hall.out.2.2.1; omega)).trans hall.out.2.1
  obtain ⟨⟨y0, y1, y2, y3, y4, y5, y6⟩, rf, _⟩ := cells7 q6
  obtain ⟨⟨z0, z1, z2, z3, z4, z5, z6⟩, _, _⟩ := cells7 q5
  have rf0 := rf 0
  have rf1 := rf 1
  have rf2 := rf 2
  have rf3 := rf 3
  have rf4 := rf 4
  have rf5 := rf 5
  have rf6 := rf 6
  obtain ⟨W8, hW8⟩ : ∃ W8, W8 = put7 W5 (w.heap.size + 1 + 1) (.int .i64 3) (.bool false) (.string ⟨#[]⟩) (.bool m3) (.slice b3 k3 d3) (.bool n3) (.slice a3 l3 c3) := ⟨_, rfl⟩
  have hqW8 : Hid (W8.heap[w.heap.size + 1 + 1]? = some (.cells #[.int .i64 3, .bool false, .string ⟨#[]⟩, .bool m3, .slice b3 k3 d3, .bool n3, .slice a3 l3 c3] 42 (0, 0))) := by show _ = _; rw [hW8]; exact put7_at q6
  have hBW8 : Hid (Below w.heap.size w W8 ∧ CRn W8 (.agg #[.int .i64 3, .bool false, .string ⟨#[]⟩, .bool m3, .slice b3 k3 d3, .bool n3, .slice a3 l3 c3]) 3 P Q (2 * m + 4) ∧ Low (p * q2 + p2 * q) (q * q2) P Q) := by
    show _ ∧ _ ∧ _
    rw [hW8]
    exact ⟨put7_below (bthen hall.out.1 hb5) (by omega), CRn.put7 ⟨_, _, _, _, _, _, _, _, rfl, hR5⟩ ⟨_, _, _, _, _, _, _, _, _, _, _, q6⟩, low_simple hall.out.2.2.2.1 hlow⟩
  clear q4 q5 q6 hR5 hb5 hR hlow hb4 sf rf zk hall hq3h
  go_upto_region 17 with fail
  rw [← hW5]
  clear hW5 s0 s1 s2 s3 s4 s5 s6 sf3 sf4 sf5 sf6 p0 p1 p2' p3 p4 p5 p6 r0 r1 r2 r3 r4 r5 r6
  go_wp2
  unfold put7 at hW8
  rw [← hW8]
  obtain ⟨⟨j0, j1, j2, j3, j4, j5, j6⟩, _, _⟩ := cells7 hqW8.out
  exact bodyPost_ret (v := .tuple #[.agg #[.int .i64 3, .bool false, .string ⟨#[]⟩, .bool m3, .slice b3 k3 d3, .bool n3, .slice a3 l3 c3], .bool true]) (by simp [results, Tryz.results56, go_sem, j0, j1, j2, j3, j4, j5, j6]) rfl ⟨_, P, Q, rfl, hBW8.out.2.1, hBW8.out.2.2, hBW8.out.1⟩
set_option maxRecDepth 20000 in
set_option maxHeartbeats 2000000 in
theorem bin_44_quo {w : World} {u v : Value} {p q p2 q2 : Int} {m : Nat} (hu : CRn w u 4 p q m) (hv : CRn w v 4 p2 q2 m) (hm : m ≤ 100) (hq : 0 < q) (hq2 : 0 < q2) (hp2 : 0 < p2) :
    Calls Tryz.prog 56 #[.string ⟨#[47]⟩, u, v] w fun e w' => ∃ t P Q, e = .returned (.tuple #[t, .bool true]) ∧ CRn w' t 4 P Q (2 * m + 4) ∧ Low (p * q2) (q * p2) P Q ∧ Below w.heap.size w w' := by
  obtain ⟨m1, b1, k1, d1, n1, a1, l1, c1, rfl, hR1⟩ := hu
  obtain ⟨m2, b2, k2, d2, n2, a2, l2, c2, rfl, hR2⟩ := hv
  obtain ⟨W, hW, hqa, hqb, hqc, hbW, hsz⟩ := three_new (w := w) (A := .cells #[.int .i64 4, .bool false, .string ⟨#[]⟩, .bool m1, .slice b1 k1 d1, .bool n1, .slice a1 l1 c1] 42) (B := .cells #[.int .i64 4, .bool false, .string ⟨#[]⟩, .bool m2, .slice b2 k2 d2, .bool n2, .slice a2 l2 c2] 42) (C := .cells #[.int .i64 0, .bool false, .string ⟨#[]⟩, .bool false, .slice none 0 0, .bool false, .slice none 0 0] 42)
  obtain ⟨⟨p0, p1, p2', p3, p4, p5, p6⟩, _, _⟩ := cells7 hqa
  obtain ⟨⟨r0, r1, r2, r3, r4, r5, r6⟩, _, _⟩ := cells7 hqb
  have hpos : 0 < q * p2 := Int.mul_pos hq hp2
  have hall : Hid (Below w.heap.size w W ∧ W.heap[w.heap.size + 1 + 1]? = some (.cells #[.int .i64 0, .bool false, .string ⟨#[]⟩, .bool false, .slice none 0 0, .bool false, .slice none 0 0] 42 (0, 0)) ∧ W.heap.size = w.heap.size + 1 + 1 + 1 ∧ 0 < q * p2 ∧ RatR W (.agg #[.bool m1, .slice b1 k1 d1, .bool n1, .slice a1 l1 c1]) p q m ∧ RatR W (.agg #[.bool m2, .slice b2 k2 d2, .bool n2, .slice a2 l2 c2]) p2 q2 m) := ⟨hbW, hqc, hsz, hpos, hR1.next hbW, hR2.next hbW⟩
  have kN1 : Hid (∀ X, Calls Tryz.prog 57 #[.agg #[.int .i64 4, .bool false, .string ⟨#[]⟩, .bool m1, .slice b1 k1 d1, .bool n1, .slice a1 l1 c1]] X fun e w' => e = .returned (.bool true) ∧ Below X.heap.size X w') := fun X => Num57_any X 4 false ⟨#[]⟩ _ _ _ _ _ _ _ _ true rfl
  have kN2 : Hid (∀ X, Calls Tryz.prog 57 #[.agg #[.int .i64 4, .bool false, .string ⟨#[]⟩, .bool m2, .slice b2 k2 d2, .bool n2, .slice a2 l2 c2]] X fun e w' => e = .returned (.bool true) ∧ Below X.heap.size X w') := fun X => Num57_any X 4 false ⟨#[]⟩ _ _ _ _ _ _ _ _ true rfl
  have hlen : ¬ ((k2 : Int) = 0) := by
    obtain ⟨ng, a', cap', ds, e, hrow, hnorm, hz, hl⟩ := hR2.parts.1
    intro h0
    cases e
    have : ds = [] := List.length_eq_zero_iff.1 (by omega)
    subst this
    cases m2 <;> simp [num, val] at hz <;> omega
  have hlen1 : ((k2 : Int) == 0) = false := by rw [beq_eq_false_iff_ne]; exact hlen
  have hlen2 : decide ((k2 : Int) = 0) = false := decide_eq_false hlen
  clear hlen
  clear hqa hqb hqc hbW hsz hR1 hR2 hpos hq hq2 hp2
  go_enter Tryz.func56, Tryz.ntmps56
  go_upto_region 1 with fail
  rw [← hW]
  clear hW
  go_wp2_with fail
  refine Calls.mono (kN1.out _) ?_
  clear kN1
  rintro e w1 ⟨rfl, hb1⟩
  replace p0 := keep_cell hb1 p0
  replace p1 := keep_cell hb1 p1
  replace p2' := keep_cell hb1 p2'
  replace p3 := keep_cell hb1 p3
  replace p4 := keep_cell hb1 p4
  replace p5 := keep_cell hb1 p5
  replace p6 := keep_cell hb1 p6
  replace r0 := keep_cell hb1 r0
  replace r1 := keep_cell hb1 r1
  replace r2 := keep_cell hb1 r2
  replace r3 := keep_cell hb1 r3
  replace r4 := keep_cell hb1 r4
  replace r5 := keep_cell hb1 r5
  replace r6 := keep_cell hb1 r6
  have zk : Hid (Below W.heap.size W w1) := hb1
  clear hb1
  go_wp2_with fail
  refine Calls.mono (kN2.out _) ?_
  clear kN2
  rintro e w2 ⟨rfl, hb2⟩
  replace p0 := keep_cell hb2 p0
  replace p1 := keep_cell hb2 p1
  replace p2' := keep_cell hb2 p2'
  replace p3 := keep_cell hb2 p3
  replace p4 := keep_cell hb2 p4
  replace p5 := keep_cell hb2 p5
  replace p6 := keep_cell hb2 p6
  replace r0 := keep_cell hb2 r0
  replace r1 := keep_cell hb2 r1
  replace r2 := keep_cell hb2 r2
  replace r3 := keep_cell hb2 r3
  replace r4 := keep_cell hb2 r4
  replace r5 := keep_cell hb2 r5
  replace r6 := keep_cell hb2 r6
  replace zk : Hid (Below W.heap.size W w2) := bthen zk.out hb2
  clear hb2
  obtain ⟨W3, hW3⟩ : ∃ W3, W3 = w2.alloc (.cells #[.int .i64 4, .bool false, .string ⟨#[]⟩, .bool false, .slice none 0 0, .bool false, .slice none 0 0] 42) := ⟨_, rfl⟩
  go_upto_region 13 with fail
  rw [← hW3]
  have hb3 : Below w2.heap.size w2 W3 := by rw [hW3]; exact (Below.refl _ _).alloc (Nat.le_refl _) _
  have hq3h : Hid (W3.heap[w2.heap.size]? = some (.cells #[.int .i64 4, .bool false, .string ⟨#[]⟩, .bool false, .slice none 0 0, .bool false, .slice none 0 0] 42 (0, 0))) := by show _ = _; rw [hW3]; exact newAt _ _
  replace p0 := keep_cell hb3 p0
  replace p1 := keep_cell hb3 p1
  replace p2' := keep_cell hb3 p2'
  replace p3 := keep_cell hb3 p3
  replace p4 := keep_cell hb3 p4
  replace p5 := keep_cell hb3 p5
  replace p6 := keep_cell hb3 p6
  replace r0 := keep_cell hb3 r0
  replace r1 := keep_cell hb3 r1
  replace r2 := keep_cell hb3 r2
  replace r3 := keep_cell hb3 r3
  replace r4 := keep_cell hb3 r4
  replace r5 := keep_cell hb3 r5
  replace r6 := keep_cell hb3 r6
  replace zk : Hid (Below W.heap.size W W3 ∧ W.heap.size ≤ w2.heap.size) := ⟨bthen zk.out hb3, zk.out.size⟩
  clear hb3 hW3
  generalize w2.heap.size = pC at *
  have kO : Hid (Calls Tryz.prog 105 #[.agg #[.bool m1, .slice b1 k1 d1, .bool n1, .slice a1 l1 c1], .agg #[.bool m2, .slice b2 k2 d2, .bool n2, .slice a2 l2 c2]] W3 fun e w' => ∃ t, e = .returned t ∧ LowR w' t (pN (p * q2) (q * p2)) (pD (q * p2)) (2 * m + 4) ∧ Below W3.heap.size W3 w') := QuoRat_num (hall.out.2.2.2.2.1.next zk.out.1) (hall.out.2.2.2.2.2.next zk.out.1) (by omega) (by have := hall.out.2.2.2.1; omega)
  go_wp2_with fail
  refine Calls.mono kO.out ?_
  clear kO
  rintro e w4 ⟨t, rfl, ⟨P, Q, hR, hlow⟩, hb4⟩
  obtain ⟨m3, b3, k3, d3, n3, a3, l3, c3, rfl⟩ := hR.form
  have q4 := keep_heap hb4 hq3h.out
  obtain ⟨⟨s0, s1, s2, s3, s4, s5, s6⟩, sf, _⟩ := cells7 q4
  have sf3 := sf 3
  have sf4 := sf 4
  have sf5 := sf 5
  have sf6 := sf 6
  obtain ⟨W5, hW5⟩ : ∃ W5, W5 = (((w4.setCell ⟨pC, 3, none⟩ (.bool m3)).setCell ⟨pC, 4, none⟩ (.slice b3 k3 d3)).setCell ⟨pC, 5, none⟩ (.bool n3)).setCell ⟨pC, 6, none⟩ (.slice a3 l3 c3) := ⟨_, rfl⟩
  have q5 : W5.heap[pC]? = some (.cells #[.int .i64 4, .bool false, .string ⟨#[]⟩, .bool m3, .slice b3 k3 d3, .bool n3, .slice a3 l3 c3] 42 (0, 0)) := by rw [hW5]; exact put5_at q4
  have hR5 : RatR W5 (.agg #[.bool m3, .slice b3 k3 d3, .bool n3, .slice a3 l3 c3]) P Q (2 * m + 4) := by rw [hW5]; exact hR.set4 q4 _ _ _ _
  have hb5 : Below W.heap.size W W5 := by rw [hW5]; exact ((((bthen zk.out.1 hb4).setCell (by exact zk.out.2) _).setCell (by exact zk.out.2) _).setCell (by exact zk.out.2) _).setCell (by exact zk.out.2) _
  have q6 : W5.heap[w.heap.size + 1 + 1]? = some (.cells #[.int .i64 0, .bool false, .string ⟨#[]⟩, .bool false, .slice none 0 0, .bool false, .slice none 0 0] 42 (0, 0)) := (hb5.block _ (by have := hall.out.2.2.1; omega)).trans hall.out.2.1
  obtain ⟨⟨y0, y1, y2, y3, y4, y5, y6⟩, rf, _⟩ := cells7 q6
  obtain ⟨⟨z0, z1, z2, z3, z4, z5, z6⟩, _, _⟩ := cells7 q5
  have rf0 := rf 0
  have rf1 := rf 1
  have rf2 := rf 2
  have rf3 := rf 3
  have rf4 := rf 4
  have rf5 := rf 5
  have rf6 := rf 6
  obtain ⟨W8, hW8⟩ : ∃ W8, W8 = put7 W5 (w.heap.size + 1 + 1) (.int .i64 4) (.bool false) (.string ⟨#[]⟩) (.bool m3) (.slice b3 k3 d3) (.bool n3) (.slice a3 l3 c3) := ⟨_, rfl⟩
  have hqW8 : Hid (W8.heap[w.heap.size + 1 + 1]? = some (.cells #[.int .i64 4, .bool false, .string ⟨#[]⟩, .bool m3, .slice b3 k3 d3, .bool n3, .slice a3 l3 c3] 42 (0, 0))) := by show _ = _; rw [hW8]; exact put7_at q6
  have hBW8 : Hid (Below w.heap.size w W8 ∧ CRn W8 (.agg #[.int .i64 4, .bool false, .string ⟨#[]⟩, .bool m3, .slice b3 k3 d3, .bool n3, .slice a3 l3 c3]) 4 P Q (2 * m + 4) ∧ Low (p * q2) (q * p2) P Q) := by
    show _ ∧ _ ∧ _
    rw [hW8]
    exact ⟨put7_below (bthen hall.out.1 hb5) (by omega), CRn.put7 ⟨_, _, _, _, _, _, _, _, rfl, hR5⟩ ⟨_, _, _, _, _, _, _, _, _, _, _, q6⟩, low_simple hall.out.2.2.2.1 hlow⟩
  clear q4 q5 q6 hR5 hb5 hR hlow hb4 sf rf zk hall hq3h
  go_upto_region 30 with fail
  rw [← hW5]
  clear hW5 s0 s1 s2 s3 s4 s5 s6 sf3 sf4 sf5 sf6 p0 p1 p2' p3 p4 p5 p6 r0 r1 r2 r3 r4 r5 r6
  go_wp2
  unfold put7 at hW8
  rw [← hW8]
  obtain ⟨⟨j0, j1, j2, j3, j4, j5, j6⟩, _, _⟩ := cells7 hqW8.out
  exact bodyPost_ret (v := .tuple #[.agg #[.int .i64 4, .bool false, .string ⟨#[]⟩, .bool m3, .slice b3 k3 d3, .bool n3, .slice a3 l3 c3], .bool true]) (by simp [results, Tryz.results56, go_sem, j0, j1, j2, j3, j4, j5, j6]) rfl ⟨_, P, Q, rfl, hBW8.out.2.1, hBW8.out.2.2, hBW8.out.1⟩
end Go.Proofs.YtclokcoimdjaeaaGreatDoor
namespace Go.Proofs.YtclokcoimdjaeaaGreatDoor
set_option linter.unusedVariables false
open Go.RowKit
attribute [local go_sem ↓] Go.wp_at_zero Go.wp_at_succ
set_option maxRecDepth 20000 in
set_option maxHeartbeats 2000000 in
theorem Binary19_of {w : World} {u v : Value} {K1 K2 kr p q p2 q2 : Int} {m M : Nat} (s : ByteArray) (L : Int → Int → Prop) (hM : M ≤ 400) (hu : CRn w u K1 p q m) (hv : CRn w v K2 p2 q2 m)
    (hB : ∀ X, Below w.heap.size w X → Calls Tryz.prog 56 #[.string s, u, v] X fun e w' => ∃ t P Q, e = .returned (.tuple #[t, .bool true]) ∧ CRn w' t kr P Q M ∧ L P Q ∧ Below X.heap.size X w') :
    Calls Tryz.prog 19 #[.string s, u, v] w fun e w' => ∃ t P Q, e = .returned (.tuple #[t, .bool true]) ∧ CRn w' t kr P Q M ∧ L P Q ∧ Below w.heap.size w w' := by
  obtain ⟨m1, b1, k1, d1, n1, a1, l1, c1, rfl, hR1⟩ := hu
  obtain ⟨m2, b2, k2, d2, n2, a2, l2, c2, rfl, hR2⟩ := hv
  obtain ⟨W, hW, hqa, hqb, hqc, hbW, hsz⟩ := three_new (w := w) (A := .cells #[.int .i64 K1, .bool false, .string ⟨#[]⟩, .bool m1, .slice b1 k1 d1, .bool n1, .slice a1 l1 c1] 42) (B := .cells #[.int .i64 K2, .bool false, .string ⟨#[]⟩, .bool m2, .slice b2 k2 d2, .bool n2, .slice a2 l2 c2] 42) (C := .cells #[.int .i64 0, .bool false, .string ⟨#[]⟩, .bool false, .slice none 0 0, .bool false, .slice none 0 0] 42)
  obtain ⟨⟨p0, p1, p2', p3, p4, p5, p6⟩, _, _⟩ := cells7 hqa
  obtain ⟨⟨r0, r1, r2, r3, r4, r5, r6⟩, _, _⟩ := cells7 hqb
  have kB : Hid (Calls Tryz.prog 56 _ W _) := hB W hbW
  have hall : Hid (Below w.heap.size w W ∧ W.heap[w.heap.size + 1 + 1]? = some (.cells #[.int .i64 0, .bool false, .string ⟨#[]⟩, .bool false, .slice none 0 0, .bool false, .slice none 0 0] 42 (0, 0))) := ⟨hbW, hqc⟩
  clear hqa hqb hqc hbW hsz hR1 hR2 hB
  go_enter Tryz.func19, Tryz.ntmps19
  go_upto_region 1 with fail
  rw [← hW]
  clear hW
  go_wp2_with fail
  refine Calls.mono kB.out ?_
  clear kB
  rintro e w1 ⟨t, P, Q, rfl, ⟨m3, b3, k3, d3, n3, a3, l3, c3, rfl, hR⟩, hL, hb1⟩
  obtain ⟨W2, hW2⟩ : ∃ W2, W2 = w1.alloc (.cells #[.int .i64 kr, .bool false, .string ⟨#[]⟩, .bool m3, .slice b3 k3 d3, .bool n3, .slice a3 l3 c3] 42) := ⟨_, rfl⟩
  have hb2 : Below w1.heap.size w1 W2 := by rw [hW2]; exact (Below.refl _ _).alloc (Nat.le_refl _) _
  have q2' : W2.heap[w1.heap.size]? = some (.cells #[.int .i64 kr, .bool false, .string ⟨#[]⟩, .bool m3, .slice b3 k3 d3, .bool n3, .slice a3 l3 c3] 42 (0, 0)) := by rw [hW2]; exact newAt _ _
  have zk : Hid (Below W.heap.size W W2) := bthen hb1 hb2
  have hRh : Hid (RatR W2 (.agg #[.bool m3, .slice b3 k3 d3, .bool n3, .slice a3 l3 c3]) P Q M ∧ L P Q) := ⟨hR.next hb2, hL⟩
  obtain ⟨⟨g0, g1, g2, g3, g4, g5, g6⟩, _, _⟩ := cells7 q2'
  have kS : Hid (Calls Tryz.prog 37 #[.agg #[.int .i64 kr, .bool false, .string ⟨#[]⟩, .bool m3, .slice b3 k3 d3, .bool n3, .slice a3 l3 c3]] W2 fun e w' => e = .returned (.bool true) ∧ Below W2.heap.size W2 w') := small37_any hRh.out.1 (by omega) (by decide)
  clear hR hL hb1 hb2 q2' p0 p1 p2' p3 p4 p5 p6 r0 r1 r2 r3 r4 r5 r6
  go_upto_region 2 with fail
  rw [← hW2]
  clear hW2
  generalize w1.heap.size = pC at *
  go_wp2_with fail
  refine Calls.mono kS.out ?_
  clear kS
  rintro e w3 ⟨rfl, hb3⟩
  replace g0 := keep_cell hb3 g0
  replace g1 := keep_cell hb3 g1
  replace g2 := keep_cell hb3 g2
  replace g3 := keep_cell hb3 g3
  replace g4 := keep_cell hb3 g4
  replace g5 := keep_cell hb3 g5
  replace g6 := keep_cell hb3 g6
  replace zk : Hid (Below W.heap.size W w3) := bthen zk.out hb3
  replace hRh : Hid (RatR w3 (.agg #[.bool m3, .slice b3 k3 d3, .bool n3, .slice a3 l3 c3]) P Q M ∧ L P Q) := ⟨RatR.next hRh.out.1 hb3, hRh.out.2⟩
  have q6 := keep_heap zk.out hall.out.2
  obtain ⟨⟨y0, y1, y2, y3, y4, y5, y6⟩, rf, _⟩ := cells7 q6
  have rf0 := rf 0
  have rf1 := rf 1
  have rf2 := rf 2
  have rf3 := rf 3
  have rf4 := rf 4
  have rf5 := rf 5
  have rf6 := rf 6
  obtain ⟨W8, hW8⟩ : ∃ W8, W8 = put7 w3 (w.heap.size + 1 + 1) (.int .i64 kr) (.bool false) (.string ⟨#[]⟩) (.bool m3) (.slice b3 k3 d3) (.bool n3) (.slice a3 l3 c3) := ⟨_, rfl⟩
  have hqW8 : Hid (W8.heap[w.heap.size + 1 + 1]? = some (.cells #[.int .i64 kr, .bool false, .string ⟨#[]⟩, .bool m3, .slice b3 k3 d3, .bool n3, .slice a3 l3 c3] 42 (0, 0))) := by show _ = _; rw [hW8]; exact put7_at q6
  have hBW8 : Hid (Below w.heap.size w W8 ∧ CRn W8 (.agg #[.int .i64 kr, .bool false, .string ⟨#[]⟩, .bool m3, .slice b3 k3 d3, .bool n3, .slice a3 l3 c3]) kr P Q M ∧ L P Q) := by
    show _ ∧ _ ∧ _
    rw [hW8]
    exact ⟨put7_below (bthen hall.out.1 zk.out) (by omega), CRn.put7 ⟨_, _, _, _, _, _, _, _, rfl, hRh.out.1⟩ ⟨_, _, _, _, _, _, _, _, _, _, _, q6⟩, hRh.out.2⟩
  clear q6 rf zk hall hRh hb3
  go_wp2
  unfold put7 at hW8
  rw [← hW8]
  obtain ⟨⟨j0, j1, j2, j3, j4, j5, j6⟩, _, _⟩ := cells7 hqW8.out
  exact bodyPost_ret (v := .tuple #[.agg #[.int .i64 kr, .bool false, .string ⟨#[]⟩, .bool m3, .slice b3 k3 d3, .bool n3, .slice a3 l3 c3], .bool true]) (by simp [results, Tryz.results19, go_sem, j0, j1, j2, j3, j4, j5, j6]) rfl ⟨_, P, Q, rfl, hBW8.out.2.1, hBW8.out.2.2, hBW8.out.1⟩
theorem Frac.set4 {w : World} {v : Value} {n d : Int} {m : Nat} (h : Frac w v n d m) {b T : Nat} {u0 u1 u2 : Value} {m1 : Bool} {b1 : Option Addr} {k1 d1 : Nat} {m2 : Bool} {b2 : Option Addr} {k2 d2 : Nat} (hq : w.heap[b]? = some (.cells #[u0, u1, u2, .bool m1, .slice b1 k1 d1, .bool m2, .slice b2 k2 d2] T (0, 0))) (v3 v4 v5 v6 : Value) : Frac ((((w.setCell ⟨b, 3, none⟩ v3).setCell ⟨b, 4, none⟩ v4).setCell ⟨b, 5, none⟩ v5).setCell ⟨b, 6, none⟩ v6) v n d m := by
  obtain ⟨⟨_, _, _, h3, h4, h5, h6⟩, _, _⟩ := cells7 hq
  have o1 : ∀ (x y : Nat), x ≠ y → (⟨b, x, none⟩ : Addr) ≠ ⟨b, y, none⟩ := fun x y hne e => hne (by injection e)
  have key : ∀ {k : IntKind} {B : Int} {a : Option Addr} {cap : Nat} {ds : List Int}, Row w k B a cap ds → Row ((((w.setCell ⟨b, 3, none⟩ v3).setCell ⟨b, 4, none⟩ v4).setCell ⟨b, 5, none⟩ v5).setCell ⟨b, 6, none⟩ v6) k B a cap ds := by
    intro k B a cap ds hr
    refine (((hr.setNon h3 (notInt_bool _) v3).setNon (p := ⟨b, 4, none⟩) ?_ (notInt_slice b1 k1 d1) v4).setNon (p := ⟨b, 5, none⟩) ?_ (notInt_bool m2) v5).setNon (p := ⟨b, 6, none⟩) ?_ (notInt_slice b2 k2 d2) v6
    · rw [World.cell?_setCell_other _ _ _ _ (o1 _ _ (by decide))]; exact h4
    · rw [World.cell?_setCell_other _ _ _ _ (o1 _ _ (by decide)), World.cell?_setCell_other _ _ _ _ (o1 _ _ (by decide))]; exact h5
    · rw [World.cell?_setCell_other _ _ _ _ (o1 _ _ (by decide)), World.cell?_setCell_other _ _ _ _ (o1 _ _ (by decide)), World.cell?_setCell_other _ _ _ _ (o1 _ _ (by decide))]; exact h6
  obtain ⟨_, _, _, _, _, _, _, _, ev, ⟨x1, x2, x3, x4, e1, r1, y1⟩, ⟨z1, z2, z3, z4, e2, r2, y2⟩⟩ := h
  exact ⟨_, _, _, _, _, _, _, _, ev, ⟨x1, x2, x3, x4, e1, key r1, y1⟩, ⟨z1, z2, z3, z4, e2, key r2, y2⟩⟩
set_option maxRecDepth 20000 in
set_option maxHeartbeats 2000000 in
theorem To30_num {w : World} {u : Value} {k p q : Int} {m : Nat} (hu : CRn w u k p q m) (hm : m ≤ 1000) (hk : k = 3 ∨ k = 4) :
    Calls Tryz.prog 30 #[u] w fun e w' => ∃ t, e = .returned t ∧ CNum w' t k p q m ∧ Below w.heap.size w w' := by
  obtain ⟨m1, b1, k1, d1, n1, a1, l1, c1, rfl, hR1⟩ := hu
  obtain ⟨W, hW, hqa, hqb, hbW, hsz⟩ := two_new (w := w) (A := .cells #[.int .i64 k, .bool false, .string ⟨#[]⟩, .bool m1, .slice b1 k1 d1, .bool n1, .slice a1 l1 c1] 42) (B := .cells #[.int .i64 0, .bool false, .string ⟨#[]⟩, .bool false, .slice none 0 0, .bool false, .slice none 0 0] 32)
  obtain ⟨⟨p0, p1, p2, p3, p4, p5, p6⟩, _, _⟩ := cells7 hqa
  obtain ⟨W2, hW2⟩ : ∃ W2, W2 = W.alloc (.cells #[.int .i64 k, .bool false, .string ⟨#[]⟩, .bool false, .slice none 0 0, .bool false, .slice none 0 0] 32) := ⟨_, rfl⟩
  have hb2 : Below W.heap.size W W2 := by rw [hW2]; exact (Below.refl _ _).alloc (Nat.le_refl _) _
  have q2' : Hid (W2.heap[W.heap.size]? = some (.cells #[.int .i64 k, .bool false, .string ⟨#[]⟩, .bool false, .slice none 0 0, .bool false, .slice none 0 0] 32 (0, 0))) := by show _ = _; rw [hW2]; exact newAt _ _
  have hall : Hid (Below w.heap.size w W ∧ W.heap[w.heap.size + 1]? = some (.cells #[.int .i64 0, .bool false, .string ⟨#[]⟩, .bool false, .slice none 0 0, .bool false, .slice none 0 0] 32 (0, 0)) ∧ Below W.heap.size W W2 ∧ W.heap.size = w.heap.size + 1 + 1) := ⟨hbW, hqb, hb2, hsz⟩
  have kT : Hid (Calls Tryz.prog 69 #[.agg #[.bool m1, .slice b1 k1 d1, .bool n1, .slice a1 l1 c1]] W2 _) := ToRat_num ((hR1.next hbW).next hb2) (by omega)
  clear hqa hqb hbW hsz hR1
  go_enter Tryz.func30, Tryz.ntmps30
  go_upto_region 1 with fail
  rw [← hW]
  clear hW
  go_upto_region 2 with fail
  rw [← hW2]
  clear hW2
  replace p0 := keep_cell hb2 p0
  replace p1 := keep_cell hb2 p1
  replace p2 := keep_cell hb2 p2
  replace p3 := keep_cell hb2 p3
  replace p4 := keep_cell hb2 p4
  replace p5 := keep_cell hb2 p5
  replace p6 := keep_cell hb2 p6
  clear hb2
  generalize W.heap.size = pC at *
  rcases hk with rfl | rfl
  ·
   go_wp2_with fail
   refine Calls.mono kT.out ?_
   clear kT
   rintro e w3 ⟨t, rfl, hF, hb3⟩
   obtain ⟨m3, b3, k3, d3, n3, a3, l3, c3, rfl⟩ := (FracE.frac hF).form
   have q4 := keep_heap hb3 q2'.out
   obtain ⟨⟨s0, s1, s2, s3, s4, s5, s6⟩, sf, _⟩ := cells7 q4
   have sf3 := sf 3
   have sf4 := sf 4
   have sf5 := sf 5
   have sf6 := sf 6
   have hF' := FracE.frac hF
   obtain ⟨W5, hW5⟩ : ∃ W5, W5 = (((w3.setCell ⟨pC, 3, none⟩ (.bool m3)).setCell ⟨pC, 4, none⟩ (.slice b3 k3 d3)).setCell ⟨pC, 5, none⟩ (.bool n3)).setCell ⟨pC, 6, none⟩ (.slice a3 l3 c3) := ⟨_, rfl⟩
   have hpc : w.heap.size + 1 + 1 ≤ pC := by have := hall.out.2.2.2; omega
   have hbA := hall.out.2.2.1
   have q5 := by have h := put5_at q4 (v3 := .bool m3) (v4 := .slice b3 k3 d3) (v5 := .bool n3) (v6 := .slice a3 l3 c3); rw [← hW5] at h; exact h
   have hF5 : Frac W5 (.agg #[.bool m3, .slice b3 k3 d3, .bool n3, .slice a3 l3 c3]) p q m := by rw [hW5]; exact hF'.set4 q4 _ _ _ _
   have hb5 : Below pC W W5 := by rw [hW5]; exact (((((hbA.trans (hb3.mono (Nat.le_of_lt (Array.getElem?_eq_some_iff.1 q2'.out).1))).setCell (Nat.le_refl _) _).setCell (Nat.le_refl _) _).setCell (Nat.le_refl _) _).setCell (Nat.le_refl _) _)
   have q6 : W5.heap[w.heap.size + 1]? = some (.cells #[.int .i64 0, .bool false, .string ⟨#[]⟩, .bool false, .slice none 0 0, .bool false, .slice none 0 0] 32 (0, 0)) := (hb5.block _ (by omega)).trans hall.out.2.1
   obtain ⟨⟨y0, y1, y2, y3, y4, y5, y6⟩, rf, _⟩ := cells7 q6
   obtain ⟨⟨z0, z1, z2, z3, z4, z5, z6⟩, _, _⟩ := cells7 q5
   have rf0 := rf 0
   have rf1 := rf 1
   have rf2 := rf 2
   have rf3 := rf 3
   have rf4 := rf 4
   have rf5 := rf 5
   have rf6 := rf 6
   obtain ⟨W8, hW8⟩ : ∃ W8, W8 = put7 W5 (w.heap.size + 1) (.int .i64 3) (.bool false) (.string ⟨#[]⟩) (.bool m3) (.slice b3 k3 d3) (.bool n3) (.slice a3 l3 c3) := ⟨_, rfl⟩
   have hqW8 : Hid (W8.heap[w.heap.size + 1]? = some (.cells #[.int .i64 3, .bool false, .string ⟨#[]⟩, .bool m3, .slice b3 k3 d3, .bool n3, .slice a3 l3 c3] 32 (0, 0))) := by show _ = _; rw [hW8]; exact put7_at q6
   have hBW8 : Hid (Below w.heap.size w W8 ∧ CNum W8 (.agg #[.int .i64 3, .bool false, .string ⟨#[]⟩, .bool m3, .slice b3 k3 d3, .bool n3, .slice a3 l3 c3]) 3 p q m) := by
     show _ ∧ _
     rw [hW8]
     exact ⟨put7_below (hall.out.1.trans (hb5.mono (by omega))) (by omega), ⟨_, _, _, _, _, _, _, _, rfl, frac_put7 ⟨_, _, _, _, _, _, _, _, _, _, _, q6⟩ hF5⟩⟩
   clear q4 q5 q6 hF5 hb5 hF hF' hb3 sf rf hall q2' hbA hpc
   go_upto_region 4 with fail
   rw [← hW5]
   clear hW5 s0 s1 s2 s3 s4 s5 s6 sf3 sf4 sf5 sf6 p0 p1 p2 p3 p4 p5 p6
   go_wp2
   unfold put7 at hW8
   rw [← hW8]
   obtain ⟨⟨j0, j1, j2, j3, j4, j5, j6⟩, _, _⟩ := cells7 hqW8.out
   exact bodyPost_ret (v := .agg #[.int .i64 3, .bool false, .string ⟨#[]⟩, .bool m3, .slice b3 k3 d3, .bool n3, .slice a3 l3 c3]) (by simp [results, Tryz.results30, go_sem, j0, j1, j2, j3, j4, j5, j6]) rfl ⟨_, rfl, hBW8.out.2, hBW8.out.1⟩
  ·
   go_wp2_with fail
   refine Calls.mono kT.out ?_
   clear kT
   rintro e w3 ⟨t, rfl, hF, hb3⟩
   obtain ⟨m3, b3, k3, d3, n3, a3, l3, c3, rfl⟩ := (FracE.frac hF).form
   have q4 := keep_heap hb3 q2'.out
   obtain ⟨⟨s0, s1, s2, s3, s4, s5, s6⟩, sf, _⟩ := cells7 q4
   have sf3 := sf 3
   have sf4 := sf 4
   have sf5 := sf 5
   have sf6 := sf 6
   have hF' := FracE.frac hF
   obtain ⟨W5, hW5⟩ : ∃ W5, W5 = (((w3.setCell ⟨pC, 3, none⟩ (.bool m3)).setCell ⟨pC, 4, none⟩ (.slice b3 k3 d3)).setCell ⟨pC, 5, none⟩ (.bool n3)).setCell ⟨pC, 6, none⟩ (.slice a3 l3 c3) := ⟨_, rfl⟩
   have hpc : w.heap.size + 1 + 1 ≤ pC := by have := hall.out.2.2.2; omega
   have hbA := hall.out.2.2.1
   have q5 := by have h := put5_at q4 (v3 := .bool m3) (v4 := .slice b3 k3 d3) (v5 := .bool n3) (v6 := .slice a3 l3 c3); rw [← hW5] at h; exact h
   have hF5 : Frac W5 (.agg #[.bool m3, .slice b3 k3 d3, .bool n3, .slice a3 l3 c3]) p q m := by rw [hW5]; exact hF'.set4 q4 _ _ _ _
   have hb5 : Below pC W W5 := by rw [hW5]; exact (((((hbA.trans (hb3.mono (Nat.le_of_lt (Array.getElem?_eq_some_iff.1 q2'.out).1))).setCell (Nat.le_refl _) _).setCell (Nat.le_refl _) _).setCell (Nat.le_refl _) _).setCell (Nat.le_refl _) _)
   have q6 : W5.heap[w.heap.size + 1]? = some (.cells #[.int .i64 0, .bool false, .string ⟨#[]⟩, .bool false, .slice none 0 0, .bool false, .slice none 0 0] 32 (0, 0)) := (hb5.block _ (by omega)).trans hall.out.2.1
   obtain ⟨⟨y0, y1, y2, y3, y4, y5, y6⟩, rf, _⟩ := cells7 q6
   obtain ⟨⟨z0, z1, z2, z3, z4, z5, z6⟩, _, _⟩ := cells7 q5
   have rf0 := rf 0
   have rf1 := rf 1
   have rf2 := rf 2
   have rf3 := rf 3
   have rf4 := rf 4
   have rf5 := rf 5
   have rf6 := rf 6
   obtain ⟨W8, hW8⟩ : ∃ W8, W8 = put7 W5 (w.heap.size + 1) (.int .i64 4) (.bool false) (.string ⟨#[]⟩) (.bool m3) (.slice b3 k3 d3) (.bool n3) (.slice a3 l3 c3) := ⟨_, rfl⟩
   have hqW8 : Hid (W8.heap[w.heap.size + 1]? = some (.cells #[.int .i64 4, .bool false, .string ⟨#[]⟩, .bool m3, .slice b3 k3 d3, .bool n3, .slice a3 l3 c3] 32 (0, 0))) := by show _ = _; rw [hW8]; exact put7_at q6
   have hBW8 : Hid (Below w.heap.size w W8 ∧ CNum W8 (.agg #[.int .i64 4, .bool false, .string ⟨#[]⟩, .bool m3, .slice b3 k3 d3, .bool n3, .slice a3 l3 c3]) 4 p q m) := by
     show _ ∧ _
     rw [hW8]
     exact ⟨put7_below (hall.out.1.trans (hb5.mono (by omega))) (by omega), ⟨_, _, _, _, _, _, _, _, rfl, frac_put7 ⟨_, _, _, _, _, _, _, _, _, _, _, q6⟩ hF5⟩⟩
   clear q4 q5 q6 hF5 hb5 hF hF' hb3 sf rf hall q2' hbA hpc
   go_upto_region 4 with fail
   rw [← hW5]
   clear hW5 s0 s1 s2 s3 s4 s5 s6 sf3 sf4 sf5 sf6 p0 p1 p2 p3 p4 p5 p6
   go_wp2
   unfold put7 at hW8
   rw [← hW8]
   obtain ⟨⟨j0, j1, j2, j3, j4, j5, j6⟩, _, _⟩ := cells7 hqW8.out
   exact bodyPost_ret (v := .agg #[.int .i64 4, .bool false, .string ⟨#[]⟩, .bool m3, .slice b3 k3 d3, .bool n3, .slice a3 l3 c3]) (by simp [results, Tryz.results30, go_sem, j0, j1, j2, j3, j4, j5, j6]) rfl ⟨_, rfl, hBW8.out.2, hBW8.out.1⟩
end Go.Proofs.YtclokcoimdjaeaaGreatDoor
namespace Go.Proofs.YtclokcoimdjaeaaGreatDoor
set_option linter.unusedVariables false
open Go.RowKit
attribute [local go_sem ↓] Go.wp_at_zero Go.wp_at_succ
/-- The digits of a number lie at or above a block. -/
def FarE (B : Nat) (e : Ending) : Prop := ∀ n a l c v, e = .returned (.tuple #[.agg #[.bool n, .slice a l c], v]) → ∀ x, a = some x → B ≤ x.block
def Far4 (B : Nat) (v : Value) : Prop := ∀ n a l c n' a' l' c', v = .agg #[.bool n, .slice a l c, .bool n', .slice a' l' c'] → (∀ x, a = some x → B ≤ x.block) ∧ (∀ x, a' = some x → B ≤ x.block)
def FarC (B : Nat) (v : Value) : Prop := ∀ k b s n a l c n' a' l' c', v = .agg #[.int .i64 k, .bool b, .string s, .bool n, .slice a l c, .bool n', .slice a' l' c'] → (∀ x, a = some x → B ≤ x.block) ∧ (∀ x, a' = some x → B ≤ x.block)
theorem farE_mk {B : Nat} {qa : Option Addr} {ql qc : Nat} (h : ∀ x, qa = some x → B ≤ x.block) (b : Bool) (v : Value) : FarE B (.returned (.tuple #[.agg #[.bool b, .slice qa ql qc], v])) := by
  intro n a l c v' e
  simp at e
  obtain ⟨⟨_, rfl, _, _⟩, _⟩ := e
  exact h
theorem far4_mk {B : Nat} {a a' : Option Addr} {n n' : Bool} {l c l' c' : Nat} (h : ∀ x, a = some x → B ≤ x.block) (h' : ∀ x, a' = some x → B ≤ x.block) : Far4 B (.agg #[.bool n, .slice a l c, .bool n', .slice a' l' c']) := by
  intro _ _ _ _ _ _ _ _ e
  simp at e
  obtain ⟨_, ⟨rfl, _, _⟩, _, rfl, _, _⟩ := e
  exact ⟨h, h'⟩
theorem farC_mk {B : Nat} {k : Int} {b : Bool} {s : ByteArray} {a a' : Option Addr} {n n' : Bool} {l c l' c' : Nat} (h : ∀ x, a = some x → B ≤ x.block) (h' : ∀ x, a' = some x → B ≤ x.block) : FarC B (.agg #[.int .i64 k, .bool b, .string s, .bool n, .slice a l c, .bool n', .slice a' l' c']) := by
  intro _ _ _ _ _ _ _ _ _ _ _ e
  simp at e
  obtain ⟨_, _, _, _, ⟨rfl, _, _⟩, _, rfl, _, _⟩ := e
  exact ⟨h, h'⟩
def LowRF (B : Nat) (w : World) (v : Value) (n d : Int) (m : Nat) : Prop := LowR w v n d m ∧ Far4 B v
theorem LowRF.next {B : Nat} {w w' : World} {v : Value} {n d : Int} {m : Nat} (h : LowRF B w v n d m) (hb : Below w.heap.size w w') : LowRF B w' v n d m := ⟨h.1.next hb, h.2⟩
theorem LowRF.chg {B : Nat} {w w' : World} {b : Nat} {v : Value} {n d : Int} {m : Nat} (h : LowRF B w v n d m) (hc : Chg b w w') (hb : NoInt w b) : LowRF B w' v n d m := ⟨h.1.chg hc hb, h.2⟩
theorem LowRF.form {B : Nat} {w : World} {v : Value} {n d : Int} {m : Nat} (h : LowRF B w v n d m) : ∃ n1 a1 l1 c1 n2 a2 l2 c2, v = .agg #[.bool n1, .slice a1 l1 c1, .bool n2, .slice a2 l2 c2] := h.1.form
theorem Far4.mono {B B' : Nat} {v : Value} (h : Far4 B v) (hb : B' ≤ B) : Far4 B' v := fun _ _ _ _ _ _ _ _ e => ⟨fun x hx => Nat.le_trans hb ((h _ _ _ _ _ _ _ _ e).1 x hx), fun x hx => Nat.le_trans hb ((h _ _ _ _ _ _ _ _ e).2 x hx)⟩
theorem Rout.far {w : World} {B : Nat} {n : Bool} {a : Option Addr} {l c : Nat} {z : Int} {m : Nat} (h : Rout w B (.agg #[.bool n, .slice a l c]) z m) (x : Addr) (hx : a = some x) : B ≤ x.block := by
  obtain ⟨neg, a', cap, ds, hv, hr, _⟩ := h
  simp at hv
  obtain ⟨_, rfl, _, _⟩ := hv
  exact hr.2 x hx
set_option maxHeartbeats 4000000 in
set_option maxRecDepth 20000 in
theorem rQuo_anyF (na nb : Bool) (x y : Option Addr) (ca cb : Nat) (xs ys : List Int) (w : World) (ha : Row w .i64 65536 x ca xs) (hna : Norm na xs) (hb : Row w .i64 65536 y cb ys) (hnb : Norm nb ys) (hl : xs.length ≤ 900000) (hlb : ys.length ≤ 900000) (hy : ys ≠ []) :
    Calls Tryz.prog 106 #[.agg #[.bool na, .slice x xs.length ca], .agg #[.bool nb, .slice y ys.length cb]] w fun e w' => (∃ u v, e = .returned (.tuple #[u, v]) ∧ Rint w' u ((num 65536 na xs).tdiv (num 65536 nb ys)) (xs.length + 1) ∧ Rint w' v ((num 65536 na xs).tmod (num 65536 nb ys)) (xs.length + 1) ∧ Below w.heap.size w w') ∧ FarE w.heap.size e := by
  obtain ⟨W, hW, hbW, hlt, c0, c1, c2, c3, c4, c5, c6, c7, f4, f5, f6, f7⟩ := boxes4 w (.bool na) (.slice x xs.length ca) (.bool nb) (.slice y ys.length cb) (.bool false) (.slice none 0 0) 38
  have kq := rquo_any x y ca cb xs ys W (ha.next hbW) (hb.next hbW) hl hlb hna.1 hnb.1 hy
  replace kq : Hid _ := kq
  go_enter Tryz.func106, Tryz.ntmps106
  go_wp2_with fail
  rw [← hW]
  clear hW
  refine Calls.mono kq.out ?_
  rintro e w2 ⟨⟨qa, qc, qs, ra, rc, rs, rfl, hqo, hqn, hrr, hrn, hrd, hval, hr0, hr1, hql, hrl⟩, hB2⟩
  clear kq
  have htd := tdiv_num na nb hval (val_nonneg (by decide) hqo.1.words) hr0 hr1
  have hbne : (!na == nb) = (na != nb) := by cases na <;> cases nb <;> rfl
  rw [hbne] at htd
  have hne : ∀ z, ra = some z → rs ≠ [] → z.block < w.heap.size ∨ W.heap.size ≤ z.block := by
    intro z hz hrs
    rcases hrd with ⟨h1, h2⟩ | h1
    · left
      have := cell_lt (ha.cell z (by rw [← h1]; exact hz) 0 (by rw [← h2]; exact List.length_pos_iff.2 hrs))
      rwa [add_block] at this
    · exact .inr (h1 z hz)
  have hfin : ∀ (b1 b2 : Bool), Rint ((((w2.setCell ⟨w.heap.size + 1 + 1, 0, none⟩ (.bool b1)).setCell ⟨w.heap.size + 1 + 1, 1, none⟩ (.slice qa qs.length qc)).setCell ⟨w.heap.size + 1 + 1 + 1, 0, none⟩ (.bool b2)).setCell ⟨w.heap.size + 1 + 1 + 1, 1, none⟩ (.slice ra rs.length rc)) (.agg #[.bool ((na != nb) && decide (0 < qs.length)), .slice qa qs.length qc]) ((num 65536 na xs).tdiv (num 65536 nb ys)) (xs.length + 1) ∧
      Rint ((((w2.setCell ⟨w.heap.size + 1 + 1, 0, none⟩ (.bool b1)).setCell ⟨w.heap.size + 1 + 1, 1, none⟩ (.slice qa qs.length qc)).setCell ⟨w.heap.size + 1 + 1 + 1, 0, none⟩ (.bool b2)).setCell ⟨w.heap.size + 1 + 1 + 1, 1, none⟩ (.slice ra rs.length rc)) (.agg #[.bool (na && decide (0 < rs.length)), .slice ra rs.length rc]) ((num 65536 na xs).tmod (num 65536 nb ys)) (xs.length + 1) := by
    intro b1 b2
    refine ⟨⟨_, _, _, _, rfl, ((((hqo.set (by simp; omega) _).set (by simp; omega) _).set (by simp; omega) _).set (by simp; omega) _).1, norm_pick _ _ hqn, by rw [num_pick]; exact htd.1, hql⟩, ⟨_, _, _, _, rfl, ?_, norm_pick _ _ hrn, by rw [num_pick]; exact htd.2, hrl⟩⟩
    exact (((hrr.keepset (fun z hz hs => by have := hne z hz hs; simp; omega)).keepset (fun z hz hs => by have := hne z hz hs; simp; omega)).keepset (fun z hz hs => by have := hne z hz hs; simp; omega)).keepset (fun z hz hs => by have := hne z hz hs; simp; omega)
  have hBB := bthen hbW hB2
  have k0 := keep_cell hB2 c0
  have k2 := keep_cell hB2 c2
  have k4 := keep_cell hB2 c4
  have k5 := keep_cell hB2 c5
  have k6 := keep_cell hB2 c6
  have k7 := keep_cell hB2 c7
  have g4 := keep_frozen hB2 c4 f4
  have g5 := keep_frozen hB2 c5 f5
  have g6 := keep_frozen hB2 c6 f6
  have g7 := keep_frozen hB2 c7 f7
  have hqfar : Hid (∀ x, qa = some x → w.heap.size ≤ x.block) := fun x hx => Nat.le_trans hbW.size (hqo.2 x hx)
  clear htd hne hval hr0 hr1 hrd hqo hrr hqn hrn hbne hql hrl
  replace hfin : Hid _ := hfin
  generalize qs.length = ql at *
  generalize rs.length = rl at *
  have hq : (0 < ql ∧ (ql : Int) > 0) ∨ (¬ 0 < ql ∧ ¬ (ql : Int) > 0) := by omega
  have hr : (0 < rl ∧ (rl : Int) > 0) ∨ (¬ 0 < rl ∧ ¬ (rl : Int) > 0) := by omega
  have fin : ∀ (b1 b2 : Bool), b1 = ((na != nb) && decide (0 < ql)) → b2 = (na && decide (0 < rl)) → ∃ u v, Ending.returned (.tuple #[.agg #[.bool b1, .slice qa ql qc], .agg #[.bool b2, .slice ra rl rc]]) = .returned (.tuple #[u, v]) ∧ Rint ((((w2.setCell ⟨w.heap.size + 1 + 1, 0, none⟩ (.bool b1)).setCell ⟨w.heap.size + 1 + 1, 1, none⟩ (.slice qa ql qc)).setCell ⟨w.heap.size + 1 + 1 + 1, 0, none⟩ (.bool b2)).setCell ⟨w.heap.size + 1 + 1 + 1, 1, none⟩ (.slice ra rl rc)) u ((num 65536 na xs).tdiv (num 65536 nb ys)) (xs.length + 1) ∧ Rint ((((w2.setCell ⟨w.heap.size + 1 + 1, 0, none⟩ (.bool b1)).setCell ⟨w.heap.size + 1 + 1, 1, none⟩ (.slice qa ql qc)).setCell ⟨w.heap.size + 1 + 1 + 1, 0, none⟩ (.bool b2)).setCell ⟨w.heap.size + 1 + 1 + 1, 1, none⟩ (.slice ra rl rc)) v ((num 65536 na xs).tmod (num 65536 nb ys)) (xs.length + 1) ∧ Below w.heap.size w ((((w2.setCell ⟨w.heap.size + 1 + 1, 0, none⟩ (.bool b1)).setCell ⟨w.heap.size + 1 + 1, 1, none⟩ (.slice qa ql qc)).setCell ⟨w.heap.size + 1 + 1 + 1, 0, none⟩ (.bool b2)).setCell ⟨w.heap.size + 1 + 1 + 1, 1, none⟩ (.slice ra rl rc)) := by
    intro b1 b2 h1 h2
    have hh := hfin.out b1 b2
    rw [← h1, ← h2] at hh
    exact ⟨_, _, rfl, hh.1, hh.2, (((hBB.setCell (by simp; omega) _).setCell (by simp; omega) _).setCell (by simp; omega) _).setCell (by simp; omega) _⟩
  clear hfin hBB hB2
  replace fin : Hid _ := fin
  have n1 : w.heap.size + 1 + 1 ≠ w.heap.size + 1 + 1 + 1 := by omega
  rcases hq with ⟨hq, hq'⟩ | ⟨hq, hq'⟩ <;> rcases hr with ⟨hr, hr'⟩ | ⟨hr, hr'⟩ <;> cases na <;> cases nb
  all_goals
    go_wp2
    refine bodyPost_ret ?_ rfl ⟨fin.out _ _ ?_ ?_, farE_mk hqfar.out _ _⟩
    · simp [results, Tryz.results106, go_sem, k4, k5, k6, k7, cell_set_ne]
    · simp [hq]
    · simp [hr]
theorem rQuo_numF {w : World} {u v : Value} {y z : Int} {m n : Nat} (hu : Rint w u y m) (hv : Rint w v z n) (hm : m ≤ 1000) (hn : n ≤ 1000) (hz : z ≠ 0) :
    Calls Tryz.prog 106 #[u, v] w fun e w' => (∃ t t', e = .returned (.tuple #[t, t']) ∧ Rint w' t (y.tdiv z) (m + 1) ∧ Rint w' t' (y.tmod z) (m + 1) ∧ Below w.heap.size w w') ∧ FarE w.heap.size e := by
  obtain ⟨na, x, ca, xs, rfl, ha, hna, rfl, hl⟩ := hu
  obtain ⟨nb, x', cb, ys, rfl, hb, hnb, rfl, hl'⟩ := hv
  refine (rQuo_anyF na nb x x' ca cb xs ys w ha hna hb hnb (by omega) (by omega) (fun e => hz (by subst e; cases nb <;> simp [num, val]))).mono ?_
  rintro e w' ⟨⟨t, t', rfl, h1, h2, h⟩, hF⟩
  exact ⟨⟨t, t', rfl, h1.mono (by omega), h2.mono (by omega), h⟩, hF⟩
set_option maxRecDepth 20000 in
set_option maxHeartbeats 4000000 in
theorem rRatio_numF {w : World} {u v : Value} {y z : Int} {m : Nat} (hu : Rint w u y m) (hv : Rint w v z m) (hz : z ≠ 0) (hy0 : y ≠ 0) (hm : m ≤ 900) :
    Calls Tryz.prog 146 #[u, v] w fun e w' => ∃ t p q, e = .returned t ∧ RatR w' t p q (m + 2) ∧ Low (pN y z) (pD z) p q ∧ Below w.heap.size w w' ∧ Far4 w.heap.size t := by
  obtain ⟨n1, a1, l1, c1, rfl⟩ := hu.form
  obtain ⟨n2, a2, l2, c2, rfl⟩ := hv.form
  obtain ⟨W, hW, hbW, ⟨e0, e1, e2, e3⟩, x0, x1, x2⟩ := boxes_ratio w n1 a1 l1 c1 n2 a2 l2 c2
  have hU := hu.next hbW
  have hV := hv.next hbW
  have hs : Hid (n2 = decide (z < 0)) := hV.sign
  go_enter Tryz.func146, Tryz.ntmps146
  go_upto_region 1 with fail
  rw [← hW]
  clear hW
  go_upto_if 11 with fail
  go_cut [] from 10 (fun wc => RatioAt w wc (pN y z) (pD z) m)
  case first =>
    by_cases hneg : z < 0
    · have hn2 : n2 = true := by rw [hs.out]; simpa using hneg
      subst hn2
      go_wp2_with fail
      refine Calls.mono (rNeg_num hU) ?_
      rintro e w2 ⟨t, rfl, hO, b2⟩
      obtain ⟨n3, a3, l3, c3, rfl⟩ := hO.form
      obtain ⟨W2, hW2, g0, g1, go', gb2, gb4, gx, gB⟩ := put2r (x0.next b2) n3 a3 l3 c3
      obtain ⟨_, _, _, _, q0, q1, qf⟩ := (x0.next b2).cells
      have f0 := qf 0
      have f1 := qf 1
      have hO2 := gx _ _ _ hO
      have hV2 := gx _ _ _ (hV.next b2)
      have r2 : W2.cell? ⟨w.heap.size + 1, 0, none⟩ = some (.bool true) := (go' ⟨w.heap.size + 1, 0, none⟩ (by simp)).trans (keep_cell b2 e2)
      have r3 : W2.cell? ⟨w.heap.size + 1, 1, none⟩ = some (.slice a2 l2 c2) := (go' ⟨w.heap.size + 1, 1, none⟩ (by simp)).trans (keep_cell b2 e3)
      have y1 := gb2 (w.heap.size + 1) (by omega) (x1.next b2)
      have y2 := gb4 (w.heap.size + 1 + 1) (by omega) (x2.next b2)
      have k2 := gB _ _ (bthen hbW b2) (Nat.le_refl _)
      clear qf go' gb2 gb4 gx gB
      go_upto_region 3 with fail
      rw [← hW2]
      clear hW2
      go_wp2_with fail
      refine Calls.mono (rNeg_num hV2) ?_
      rintro e w3 ⟨t, rfl, hP, b3⟩
      obtain ⟨n4, a4, l4, c4, rfl⟩ := hP.form
      obtain ⟨W3, hW3, j0, j1, jo, jb2, jb4, jx, jB⟩ := put2r (y1.next b3) n4 a4 l4 c4
      obtain ⟨_, _, _, _, s0, s1, sf⟩ := (y1.next b3).cells
      have h0 := sf 0
      have h1 := sf 1
      have z0 := (jo ⟨w.heap.size, 0, none⟩ (by simp)).trans (keep_cell b3 g0)
      have z1 := (jo ⟨w.heap.size, 1, none⟩ (by simp)).trans (keep_cell b3 g1)
      have hA : RatioAt w W3 (pN y z) (pD z) m := by
        have eN : pN y z = -y := by unfold pN; rw [if_pos hneg]
        have eD : pD z = -z := by unfold pD; rw [if_neg hz, if_pos hneg]
        rw [eN, eD]
        exact ⟨⟨_, _, _, _, z0, z1, jx _ _ _ (hO2.next b3)⟩, ⟨_, _, _, _, j0, j1, jx _ _ _ hP⟩, jb4 _ (by omega) (y2.next b3), jB _ _ (bthen k2 b3) (by omega)⟩
      clear sf
      go_wp2
      rw [← hW3]
      go_meet
      case rel => exact hA
    · have hn2 : n2 = false := by rw [hs.out]; simpa using hneg
      subst hn2
      have hA : RatioAt w W (pN y z) (pD z) m := by
        have eN : pN y z = y := by unfold pN; rw [if_neg hneg]
        have eD : pD z = z := by unfold pD; rw [if_neg hz, if_neg hneg]
        rw [eN, eD]
        exact ⟨⟨_, _, _, _, e0, e1, hU⟩, ⟨_, _, _, _, e2, e3, hV⟩, x2, hbW⟩
      go_wp2
      go_meet
      case rel => exact hA
  case rest =>
    clear hs hU hV x0 x1 x2 e0 e1 e2 e3 hbW
    obtain ⟨⟨n3, a3, l3, c3, p0, p1, hY⟩, ⟨n4, a4, l4, c4, p2, p3, hZ⟩, y2, hB⟩ := hcut
    have hD := pD_pos z
    obtain ⟨ds, hl3, hr, hn, hv1, hl1⟩ := hY.val
    obtain ⟨es, hl4, hr', hn', hv2, hl2⟩ := hZ.val
    have hlt := y2.noint.lt
    replace hv1 : Hid _ := hv1
    replace hv2 : Hid _ := hv2
    replace hl3 : Hid _ := hl3
    replace hl4 : Hid _ := hl4
    by_cases h0 : pN y z = 0
    · have hd0 : l3 = 0 := hY.digits.2 h0
      subst hd0
      go_wp2_with fail
      refine Calls.mono (rOf_one wc) ?_
      rintro e w5 ⟨t, rfl, hO, b5⟩
      obtain ⟨n5, a5, l5, c5, rfl⟩ := hO.rint.form
      have y4 := y2.next b5
      obtain ⟨_, _, _, _, _, _, _, _, j0, j1, j2, j3, f⟩ := y4.cells
      have f0 := f 0
      have f1 := f 1
      have f2 := f 2
      have f3 := f 3
      clear f
      have hbx : Hid _ := put4_boxed (base := w.heap.size) y4.noint (by omega) false none 0 0 n5 a5 l5 c5
      have hBf := bthen hB b5
      have hz0 : Hid (∀ W', Rint W' (.agg #[.bool false, .slice none 0 0]) 0 (m + 2)) := fun W' => ⟨false, none, 0, [], rfl, Row.empty _ _ _, ⟨trivial, fun h => by cases h⟩, rfl, Nat.zero_le _⟩
      have hOf : Hid _ := (hbx.out.rint hO.rint).mono (m := m + 2) (by omega)
      go_wp2
      exact bodyPost_ret (v := .agg #[.bool false, .slice none 0 0, .bool n5, .slice a5 l5 c5]) (by simp [results, Tryz.results146, go_sem, j0, j1, j2, j3]) rfl ⟨_, 0, 1, rfl, ⟨_, _, _, _, _, _, _, _, rfl, hz0.out _, hOf.out⟩, ⟨by decide, by decide, by rw [h0]; simp⟩, hbx.out.keep hBf (Nat.le_refl _) hBf.size, far4_mk (fun x hx => by cases hx) (fun x hx => Nat.le_trans hB.size (hO.far x hx))⟩
    · have hd0 : l3 ≠ 0 := fun e => h0 (hY.digits.1 e)
      have hd1 : ¬ ((l3 : Int) = 0) := by omega
      have kg := rgcd_any a3 a4 c3 c4 ds es wc hr hr' hn hn' (by omega) (by omega)
      rw [hv1.out, hv2.out, ← hl3.out, ← hl4.out] at kg
      replace kg : Hid _ := kg
      go_wp2_with fail
      refine Calls.mono kg.out ?_
      rintro e w5 ⟨ga, gc, gs, rfl, hgr, hgn, hgv, hgl, b5⟩
      clear kg
      obtain ⟨g, hg⟩ : ∃ g : Nat, g = Nat.gcd (pN y z).natAbs (pD z).natAbs := ⟨_, rfl⟩
      have hlow := low_of (n := pN y z) hD
      rw [← hg] at hgv hlow
      have hG : Rint w5 (.agg #[.bool false, .slice ga gs.length gc]) (g : Int) 1000 := ⟨false, ga, gc, gs, rfl, hgr, ⟨hgn, fun h => by cases h⟩, by simp [Go.Proofs.YtclokcoimdjaeaaGreatDoor.num]; exact hgv, hgl⟩
      obtain ⟨hlow, hg0⟩ := hlow
      replace hlow : Hid _ := hlow
      obtain ⟨lg, hlg⟩ : ∃ lg, lg = gs.length := ⟨_, rfl⟩
      rw [← hlg] at hG ⊢
      clear hgr hgn hgv hgl hlg hg hr hr' hn hn' hv1 hv2 hl1 hl2 hl3 hl4
      obtain ⟨W5, hW5⟩ : ∃ W5, W5 = w5.alloc (.cells #[.bool false, .slice ga lg gc] 38) := ⟨_, rfl⟩
      have b6 : Below w5.heap.size w5 W5 := by rw [hW5]; exact (Below.refl _ _).alloc (Nat.le_refl _) _
      have s0 : W5.cell? ⟨w5.heap.size, 0, none⟩ = some (.bool false) := by rw [hW5]; simp [go_sem]
      have s1 : W5.cell? ⟨w5.heap.size, 1, none⟩ = some (.slice ga lg gc) := by rw [hW5]; simp [go_sem]
      have b56 := bthen b5 b6
      replace p0 := keep_cell b56 p0
      replace p1 := keep_cell b56 p1
      replace p2 := keep_cell b56 p2
      replace p3 := keep_cell b56 p3
      replace hY := hY.next b56
      replace hZ := hZ.next b56
      replace hG := hG.next b6
      replace y2 := y2.next b56
      replace hB := bthen hB b56
      go_upto_region 7 with fail
      rw [← hW5]
      clear hW5 b5 b6 b56 hlt
      generalize w5.heap.size = bg at *
      go_wp2_with fail
      refine Calls.mono (rQuo_numF hY hG (by omega) (by decide) (by omega)) ?_
      rintro e w6 ⟨⟨t, t', rfl, hQ, hR, b7⟩, fE⟩
      obtain ⟨n5, a5, l5, c5, rfl⟩ := hQ.form
      obtain ⟨n6, a6, l6, c6, rfl⟩ := hR.form
      have fQ : Hid (∀ x, a5 = some x → w.heap.size ≤ x.block) := fun x hx => Nat.le_trans hB.size (fE _ _ _ _ _ rfl x hx)
      clear fE
      obtain ⟨W6, hW6⟩ : ∃ W6, W6 = (w6.alloc (.cells #[.bool n5, .slice a5 l5 c5] 38)).alloc (.cells #[.bool n6, .slice a6 l6 c6] 38) := ⟨_, rfl⟩
      have b8 : Below w6.heap.size w6 W6 := by rw [hW6]; exact ((Below.refl _ _).alloc (Nat.le_refl _) _).alloc (by simp) _
      have t0 : W6.cell? ⟨w6.heap.size, 0, none⟩ = some (.bool n5) := by rw [hW6]; simp [go_sem, World.cell?_alloc_past]
      have t1 : W6.cell? ⟨w6.heap.size, 1, none⟩ = some (.slice a5 l5 c5) := by rw [hW6]; simp [go_sem, World.cell?_alloc_past]
      have b78 := bthen b7 b8
      replace p2 := keep_cell b78 p2
      replace p3 := keep_cell b78 p3
      replace s0 := keep_cell b78 s0
      replace s1 := keep_cell b78 s1
      replace hZ := hZ.next b78
      replace hG := hG.next b78
      replace hQ := hQ.next b8
      replace y2 := y2.next b78
      replace hB := bthen hB b78
      go_upto_region 8 with fail
      rw [← hW6]
      clear hW6 b7 b8 b78 hR hY p0 p1
      generalize w6.heap.size = bq at *
      go_wp2_with fail
      refine Calls.mono (rQuo_numF hZ hG (by omega) (by decide) (by omega)) ?_
      rintro e w7 ⟨⟨t, t', rfl, hS, hR, b9⟩, fE⟩
      obtain ⟨n7, a7, l7, c7, rfl⟩ := hS.form
      obtain ⟨n8, a8, l8, c8, rfl⟩ := hR.form
      have fS : Hid (∀ x, a7 = some x → w.heap.size ≤ x.block) := fun x hx => Nat.le_trans hB.size (fE _ _ _ _ _ rfl x hx)
      clear fE
      obtain ⟨W7, hW7⟩ : ∃ W7, W7 = (w7.alloc (.cells #[.bool n7, .slice a7 l7 c7] 38)).alloc (.cells #[.bool n8, .slice a8 l8 c8] 38) := ⟨_, rfl⟩
      have b10 : Below w7.heap.size w7 W7 := by rw [hW7]; exact ((Below.refl _ _).alloc (Nat.le_refl _) _).alloc (by simp) _
      have v0 : W7.cell? ⟨w7.heap.size, 0, none⟩ = some (.bool n7) := by rw [hW7]; simp [go_sem, World.cell?_alloc_past]
      have v1 : W7.cell? ⟨w7.heap.size, 1, none⟩ = some (.slice a7 l7 c7) := by rw [hW7]; simp [go_sem, World.cell?_alloc_past]
      have b90 := bthen b9 b10
      replace t0 := keep_cell b90 t0
      replace t1 := keep_cell b90 t1
      replace hQ := hQ.next b90
      replace hS := hS.next b10
      have y4 := y2.next b90
      replace hB := bthen hB b90
      go_upto_region 9 with fail
      rw [← hW7]
      clear hW7 b9 b10 b90 hR hZ hG p2 p3 s0 s1 y2
      generalize w7.heap.size = bs at *
      obtain ⟨_, _, _, _, _, _, _, _, j0, j1, j2, j3, f⟩ := y4.cells
      have f0 := f 0
      have f1 := f 1
      have f2 := f 2
      have f3 := f 3
      clear f
      have hbx : Hid _ := put4_boxed (base := w.heap.size) y4.noint (by omega) n5 a5 l5 c5 n7 a7 l7 c7
      have hQf : Hid _ := (hbx.out.rint hQ).mono (m := m + 2) (by omega)
      have hSf : Hid _ := (hbx.out.rint hS).mono (m := m + 2) (by omega)
      go_wp2
      exact bodyPost_ret (v := .agg #[.bool n5, .slice a5 l5 c5, .bool n7, .slice a7 l7 c7]) (by simp [results, Tryz.results146, go_sem, j0, j1, j2, j3]) rfl ⟨_, _, _, rfl, ⟨_, _, _, _, _, _, _, _, rfl, hQf.out, hSf.out⟩, hlow.out, hbx.out.keep hB (Nat.le_refl _) hB.size, far4_mk fQ.out fS.out⟩
def addFV (b0 K : Nat) (AN AD BN BD : Value) (p q p2 q2 : Int) (t : Nat) (v : Value) (w : World) : Prop := match t with
  | 2 => v = .pointer (some ⟨b0, 0, none⟩)
  | 3 => v = .pointer (some ⟨b0 + 1, 0, none⟩)
  | 4 => v = .pointer (some ⟨b0 + 1 + 1, 0, none⟩) ∧ Box4 w (b0 + 1 + 1)
  | 5 => v = .pointer (some ⟨b0, 0, none⟩)
  | 6 => v = AN
  | 7 => v = .pointer (some ⟨b0 + 1, 2, none⟩)
  | 8 => v = BD
  | 9 => Rint w v (p * q2) K
  | 10 => v = .pointer (some ⟨b0 + 1, 0, none⟩)
  | 11 => v = BN
  | 12 => v = .pointer (some ⟨b0, 2, none⟩)
  | 13 => v = AD
  | 14 => Rint w v (p2 * q) K
  | 15 => Rint w v ((p * q2) + (p2 * q)) (K + 1)
  | 16 => v = .pointer (some ⟨b0, 2, none⟩)
  | 17 => v = AD
  | 18 => v = .pointer (some ⟨b0 + 1, 2, none⟩)
  | 19 => v = BD
  | 20 => Rint w v (q * q2) K
  | 21 => LowRF b0 w v (pN ((p * q2) + (p2 * q)) (q * q2)) (pD (q * q2)) (K + 3)
  | _ => True
theorem addFV_next {b0 K : Nat} {AN AD BN BD : Value} {p q p2 q2 : Int} (t : Nat) (v : Value) (w w' : World) (hb : Below w.heap.size w w') (h : addFV b0 K AN AD BN BD p q p2 q2 t v w) : addFV b0 K AN AD BN BD p q p2 q2 t v w' := by
  unfold addFV at h ⊢
  split at h <;> first | exact h | exact Rint.next h hb | exact LowRF.next h hb | exact ⟨h.1, h.2.next hb⟩
theorem addFV_chg {b0 K : Nat} {AN AD BN BD : Value} {p q p2 q2 : Int} (t : Nat) (v : Value) (w w' : World) (b : Nat) (hc : Chg b w w') (hb : Box4 w b) (hb' : Box4 w' b) (h : addFV b0 K AN AD BN BD p q p2 q2 t v w) : addFV b0 K AN AD BN BD p q p2 q2 t v w' := by
  unfold addFV at h ⊢
  split at h <;> first | exact h | exact Rint.chg h hc hb.noint | exact LowRF.chg h hc hb.noint | exact ⟨h.1, h.2.chg hc hb'⟩
def addFC (b0 K : Nat) (AN AD BN BD : Value) (p q p2 q2 : Int) (j b : Nat) (w : World) : Prop := match j with
  | 17 => Holds4 w b (fun v => LowRF b0 w v (pN ((p * q2) + (p2 * q)) (q * q2)) (pD (q * q2)) (K + 3))
  | _ => True
theorem addFC_next {b0 K : Nat} {AN AD BN BD : Value} {p q p2 q2 : Int} (j b : Nat) (w w' : World) (hb : Below w.heap.size w w') (_ : b < w.heap.size) (h : addFC b0 K AN AD BN BD p q p2 q2 j b w) : addFC b0 K AN AD BN BD p q p2 q2 j b w' := by
  unfold addFC at h ⊢
  split at h <;> first | exact h | exact Holds4.next h hb (fun v k => k.next hb)
theorem addFC_chg {b0 K : Nat} {AN AD BN BD : Value} {p q p2 q2 : Int} (j b b' : Nat) (w w' : World) (hc : Chg b' w w') (hb : Box4 w b') (_ : Box4 w' b') (hne : b ≠ b') (h : addFC b0 K AN AD BN BD p q p2 q2 j b w) : addFC b0 K AN AD BN BD p q p2 q2 j b w' := by
  unfold addFC at h ⊢
  split at h <;> first | exact h | exact Holds4.chg h hc hne (fun v k => k.chg hc hb.noint)
set_option maxRecDepth 20000 in
set_option maxHeartbeats 4000000 in
theorem AddRat_numF {w : World} {u v : Value} {p q p2 q2 : Int} {m : Nat} (hu : RatR w u p q m) (hv : RatR w v p2 q2 m) (hm : m ≤ 400) (hz : (q * q2) ≠ 0) (hy0 : p * q2 + p2 * q ≠ 0) :
    Calls Tryz.prog 103 #[u, v] w fun e w' => ∃ t, e = .returned t ∧ LowRF w.heap.size w' t (pN ((p * q2) + (p2 * q)) (q * q2)) (pD (q * q2)) (2 * m + 4) ∧ Below w.heap.size w w' := by
  obtain ⟨n1, a1, l1, c1, n2, a2, l2, c2, rfl⟩ := hu.form
  obtain ⟨n3, a3, l3, c3, n4, a4, l4, c4, rfl⟩ := hv.form
  obtain ⟨W, hW, hbW, ⟨e0, e1, e2, e3⟩, ⟨g0, g1, g2, g3⟩, x0⟩ := boxes_op34 w n1 a1 l1 c1 n2 a2 l2 c2 n3 a3 l3 c3 n4 a4 l4 c4
  obtain ⟨hAN, hAD⟩ := (hu.next hbW).parts
  obtain ⟨hBN, hBD⟩ := (hv.next hbW).parts
  have hx0 := x0.noint.lt
  go_enter Tryz.func103, Tryz.ntmps103
  go_upto_region 1 with fail
  rw [← hW]
  clear hW
  have hS : ∀ k, k ∈ [w.heap.size + 1 + 1] → NoInt W k := by
    intro k hk
    simp only [List.mem_cons, List.not_mem_nil, or_false] at hk
    subst hk
    exact x0.noint
  have hB_int : ∀ {w' : World} {v : Value} {z : Int} {n : Nat}, BelowBut [w.heap.size + 1 + 1] W w' → Rint W v z n → Rint w' v z n := fun hW h => h.but hW hS
  refine wp_region_boxes (addFV w.heap.size (2 * m + 1) (.agg #[.bool n1, .slice a1 l1 c1]) (.agg #[.bool n2, .slice a2 l2 c2]) (.agg #[.bool n3, .slice a3 l3 c3]) (.agg #[.bool n4, .slice a4 l4 c4]) p q p2 q2) Box4 (addFC w.heap.size (2 * m + 1) (.agg #[.bool n1, .slice a1 l1 c1]) (.agg #[.bool n2, .slice a2 l2 c2]) (.agg #[.bool n3, .slice a3 l3 c3]) (.agg #[.bool n4, .slice a4 l4 c4]) p q p2 q2) [2, 3, 4] [4] [w.heap.size + 1 + 1] [(17, 4)] 22 (by kernel_rfl) (by kernel_rfl) rfl addFV_next addFV_chg ?hA addFC_next addFC_chg ?hstart ?hdis (StepsFrom.all ?hstep) ?hend
  case hA =>
    intro s v w' hs hv
    have hs' : s = 4 := by simpa using hs
    subst hs'
    exact ⟨_, hv.1, hv.2, .inr (by simp), hv.2.noint.lt⟩
  case hstart =>
    intro t ht
    have hD0 : Below W.heap.size W W.drew := (Below.refl _ _).drew
    simp only [List.mem_cons, List.not_mem_nil, or_false] at ht
    rcases ht with rfl | rfl | rfl
    · rfl
    · rfl
    · exact ⟨rfl, x0.next hD0⟩
  case hdis =>
    intro s t hs ht hne _ _
    have hs' : s = 4 := by simpa using hs
    have ht' : t = 4 := by simpa using ht
    exact absurd (hs'.trans ht'.symm) hne
  case hstep =>
    refine ⟨?s0, ?s1, ?s2, ?s3, ?s4, ?s5, ?s6, ?s7, ?s8, ?s9, ?s10, ?s11, ?s12, ?s13, ?s14, ?s15, ?s16, ?s17, trivial⟩
    case s0 => exact plain_at (plain_of (guard_none rfl) fun b w' _ hW hl K hK => fa34_0 2 rfl (look hl 2 (by kernel_rfl)) (hK _ _ (Below.refl _ _) (dst_eq rfl rfl))) (dst_eq rfl rfl) rfl
    case s1 => exact plain_at (plain_of (guard_none rfl) fun b w' _ hW hl K hK => ld32 (hW.cell e0 (by simp; try omega)) (hW.cell e1 (by simp; try omega)) 5 rfl (look hl 5 (by kernel_rfl)) (hK _ _ (Below.refl _ _) (dst_eq rfl rfl))) (dst_eq rfl rfl) rfl
    case s2 => exact plain_at (plain_of (guard_none rfl) fun b w' _ hW hl K hK => fa34_1 3 rfl (look hl 3 (by kernel_rfl)) (hK _ _ (Below.refl _ _) (dst_eq rfl rfl))) (dst_eq rfl rfl) rfl
    case s3 => exact plain_at (plain_of (guard_none rfl) fun b w' _ hW hl K hK => ld32b (hW.cell g2 (by simp; try omega)) (hW.cell g3 (by simp; try omega)) 7 rfl (look hl 7 (by kernel_rfl)) (hK _ _ (Below.refl _ _) (dst_eq rfl rfl))) (dst_eq rfl rfl) rfl
    case s4 => exact plain_at (pl_call2 108 6 8 9 _ (by kernel_rfl) rfl rfl (guard_none rfl) (by kernel_rfl) (by kernel_rfl) (fun u v w' hW hu hv => by subst hu; subst hv; exact (rMul_num (hB_int hW hAN) (hB_int hW hBD) (by omega) (by omega)).mono fun e w'' h => by obtain ⟨t, h1, h2, h3⟩ := h; exact ⟨t, h1, h2.mono (by omega), h3⟩)) (dst_eq rfl rfl) rfl
    case s5 => exact plain_at (plain_of (guard_none rfl) fun b w' _ hW hl K hK => fa34_0 3 rfl (look hl 3 (by kernel_rfl)) (hK _ _ (Below.refl _ _) (dst_eq rfl rfl))) (dst_eq rfl rfl) rfl
    case s6 => exact plain_at (plain_of (guard_none rfl) fun b w' _ hW hl K hK => ld32 (hW.cell g0 (by simp; try omega)) (hW.cell g1 (by simp; try omega)) 10 rfl (look hl 10 (by kernel_rfl)) (hK _ _ (Below.refl _ _) (dst_eq rfl rfl))) (dst_eq rfl rfl) rfl
    case s7 => exact plain_at (plain_of (guard_none rfl) fun b w' _ hW hl K hK => fa34_1 2 rfl (look hl 2 (by kernel_rfl)) (hK _ _ (Below.refl _ _) (dst_eq rfl rfl))) (dst_eq rfl rfl) rfl
    case s8 => exact plain_at (plain_of (guard_none rfl) fun b w' _ hW hl K hK => ld32b (hW.cell e2 (by simp; try omega)) (hW.cell e3 (by simp; try omega)) 12 rfl (look hl 12 (by kernel_rfl)) (hK _ _ (Below.refl _ _) (dst_eq rfl rfl))) (dst_eq rfl rfl) rfl
    case s9 => exact plain_at (pl_call2 108 11 13 14 _ (by kernel_rfl) rfl rfl (guard_none rfl) (by kernel_rfl) (by kernel_rfl) (fun u v w' hW hu hv => by subst hu; subst hv; exact (rMul_num (hB_int hW hBN) (hB_int hW hAD) (by omega) (by omega)).mono fun e w'' h => by obtain ⟨t, h1, h2, h3⟩ := h; exact ⟨t, h1, h2.mono (by omega), h3⟩)) (dst_eq rfl rfl) rfl
    case s10 => exact plain_at (pl_call2 144 9 14 15 _ (by kernel_rfl) rfl rfl (guard_none rfl) (by kernel_rfl) (by kernel_rfl) (fun u v w' hW hu hv => by exact (rAdd_num hu hv (by omega) (by omega)).mono fun e w'' h => by obtain ⟨t, h1, h2, h3⟩ := h; exact ⟨t, h1, h2.mono (by omega), h3⟩)) (dst_eq rfl rfl) rfl
    case s11 => exact plain_at (plain_of (guard_none rfl) fun b w' _ hW hl K hK => fa34_1 2 rfl (look hl 2 (by kernel_rfl)) (hK _ _ (Below.refl _ _) (dst_eq rfl rfl))) (dst_eq rfl rfl) rfl
    case s12 => exact plain_at (plain_of (guard_none rfl) fun b w' _ hW hl K hK => ld32b (hW.cell e2 (by simp; try omega)) (hW.cell e3 (by simp; try omega)) 16 rfl (look hl 16 (by kernel_rfl)) (hK _ _ (Below.refl _ _) (dst_eq rfl rfl))) (dst_eq rfl rfl) rfl
    case s13 => exact plain_at (plain_of (guard_none rfl) fun b w' _ hW hl K hK => fa34_1 3 rfl (look hl 3 (by kernel_rfl)) (hK _ _ (Below.refl _ _) (dst_eq rfl rfl))) (dst_eq rfl rfl) rfl
    case s14 => exact plain_at (plain_of (guard_none rfl) fun b w' _ hW hl K hK => ld32b (hW.cell g2 (by simp; try omega)) (hW.cell g3 (by simp; try omega)) 18 rfl (look hl 18 (by kernel_rfl)) (hK _ _ (Below.refl _ _) (dst_eq rfl rfl))) (dst_eq rfl rfl) rfl
    case s15 => exact plain_at (pl_call2 108 17 19 20 _ (by kernel_rfl) rfl rfl (guard_none rfl) (by kernel_rfl) (by kernel_rfl) (fun u v w' hW hu hv => by subst hu; subst hv; exact (rMul_num (hB_int hW hAD) (hB_int hW hBD) (by omega) (by omega)).mono fun e w'' h => by obtain ⟨t, h1, h2, h3⟩ := h; exact ⟨t, h1, h2.mono (by omega), h3⟩)) (dst_eq rfl rfl) rfl
    case s16 => exact plain_at (pl_call2 146 15 20 21 _ (by kernel_rfl) rfl rfl (guard_none rfl) (by kernel_rfl) (by kernel_rfl) (fun u v w' hW hu hv => by exact (rRatio_numF (Rint.mono (m := 2 * m + 2) hu (by omega)) (Rint.mono (m := 2 * m + 2) hv (by omega)) hz hy0 (by omega)).mono fun e w'' h => by obtain ⟨t, x, y, h1, h2, h3, h4, h5⟩ := h; exact ⟨t, h1, ⟨⟨x, y, h2, h3⟩, h5.mono (Nat.le_trans hbW.size hW.size)⟩, h4⟩)) (dst_eq rfl rfl) rfl
    case s17 => exact put_at (step_put34 17 4 21 rfl rfl rfl (by kernel_rfl) (by kernel_rfl) ⟨fun v w h => LowRF.form h, fun g w' w'' m a l c m' a' l' c' hv hc hb r0 r1 r2 r3 => ⟨m, a, l, c, m', a', l', c', r0, r1, r2, r3, LowRF.chg hv hc hb.noint⟩⟩) rfl rfl (by kernel_rfl)
  case hend =>
    intro b w' hs hd hW hv hdis hC hfr
    obtain ⟨h4, _⟩ := hv 4 (.inl rfl)
    obtain ⟨q1, b1, i1, o1, q2, b2, i2, o2, m0, m1, m2, m3, hR'⟩ := hC 17 4 (by simp) (by decide) _ h4
    have hBf : Below w.heap.size w w' := hbW.trans (hW.below hbW.size (by intro k hk; simp only [List.mem_cons, List.not_mem_nil, or_false] at hk; omega))
    rw [Array.getD_eq_getD_getElem?] at h4
    clear hv hdis hC hfr hW
    go_wp2
    exact bodyPost_ret (v := .agg #[.bool q1, .slice b1 i1 o1, .bool q2, .slice b2 i2 o2]) (by simp [results, Tryz.results103, go_sem, h4, m0, m1, m2, m3]) hd ⟨_, rfl, hR', hBf⟩
set_option maxRecDepth 20000 in
set_option maxHeartbeats 2000000 in
theorem bin_34_addF {w : World} {u v : Value} {p q p2 q2 : Int} {m : Nat} (hu : CRn w u 3 p q m) (hv : CRn w v 4 p2 q2 m) (hm : m ≤ 100) (hq : 0 < q) (hq2 : 0 < q2) (hy0 : p * q2 + p2 * q ≠ 0)  :
    Calls Tryz.prog 56 #[.string ⟨#[43]⟩, u, v] w fun e w' => ∃ t P Q, e = .returned (.tuple #[t, .bool true]) ∧ CRn w' t 4 P Q (2 * m + 4) ∧ (Low (p * q2 + p2 * q) (q * q2) P Q ∧ FarC w.heap.size t) ∧ Below w.heap.size w w' := by
  replace hy0 : Hid (p * q2 + p2 * q ≠ 0) := hy0
  obtain ⟨m1, b1, k1, d1, n1, a1, l1, c1, rfl, hR1⟩ := hu
  obtain ⟨m2, b2, k2, d2, n2, a2, l2, c2, rfl, hR2⟩ := hv
  obtain ⟨W, hW, hqa, hqb, hqc, hbW, hsz⟩ := three_new (w := w) (A := .cells #[.int .i64 3, .bool false, .string ⟨#[]⟩, .bool m1, .slice b1 k1 d1, .bool n1, .slice a1 l1 c1] 42) (B := .cells #[.int .i64 4, .bool false, .string ⟨#[]⟩, .bool m2, .slice b2 k2 d2, .bool n2, .slice a2 l2 c2] 42) (C := .cells #[.int .i64 0, .bool false, .string ⟨#[]⟩, .bool false, .slice none 0 0, .bool false, .slice none 0 0] 42)
  obtain ⟨⟨p0, p1, p2', p3, p4, p5, p6⟩, _, _⟩ := cells7 hqa
  obtain ⟨⟨r0, r1, r2, r3, r4, r5, r6⟩, _, _⟩ := cells7 hqb
  have hpos : 0 < q * q2 := Int.mul_pos hq hq2
  have hall : Hid (Below w.heap.size w W ∧ W.heap[w.heap.size + 1 + 1]? = some (.cells #[.int .i64 0, .bool false, .string ⟨#[]⟩, .bool false, .slice none 0 0, .bool false, .slice none 0 0] 42 (0, 0)) ∧ W.heap.size = w.heap.size + 1 + 1 + 1 ∧ 0 < q * q2 ∧ RatR W (.agg #[.bool m1, .slice b1 k1 d1, .bool n1, .slice a1 l1 c1]) p q m ∧ RatR W (.agg #[.bool m2, .slice b2 k2 d2, .bool n2, .slice a2 l2 c2]) p2 q2 m) := ⟨hbW, hqc, hsz, hpos, hR1.next hbW, hR2.next hbW⟩
  have kN1 : Hid (∀ X, Calls Tryz.prog 57 #[.agg #[.int .i64 3, .bool false, .string ⟨#[]⟩, .bool m1, .slice b1 k1 d1, .bool n1, .slice a1 l1 c1]] X fun e w' => e = .returned (.bool true) ∧ Below X.heap.size X w') := fun X => Num57_any X 3 false ⟨#[]⟩ _ _ _ _ _ _ _ _ true rfl
  have kN2 : Hid (∀ X, Calls Tryz.prog 57 #[.agg #[.int .i64 4, .bool false, .string ⟨#[]⟩, .bool m2, .slice b2 k2 d2, .bool n2, .slice a2 l2 c2]] X fun e w' => e = .returned (.bool true) ∧ Below X.heap.size X w') := fun X => Num57_any X 4 false ⟨#[]⟩ _ _ _ _ _ _ _ _ true rfl
  clear hqa hqb hqc hbW hsz hR1 hR2 hpos hq hq2 
  go_enter Tryz.func56, Tryz.ntmps56
  go_upto_region 1 with fail
  rw [← hW]
  clear hW
  go_wp2_with fail
  refine Calls.mono (kN1.out _) ?_
  clear kN1
  rintro e w1 ⟨rfl, hb1⟩
  replace p0 := keep_cell hb1 p0
  replace p1 := keep_cell hb1 p1
  replace p2' := keep_cell hb1 p2'
  replace p3 := keep_cell hb1 p3
  replace p4 := keep_cell hb1 p4
  replace p5 := keep_cell hb1 p5
  replace p6 := keep_cell hb1 p6
  replace r0 := keep_cell hb1 r0
  replace r1 := keep_cell hb1 r1
  replace r2 := keep_cell hb1 r2
  replace r3 := keep_cell hb1 r3
  replace r4 := keep_cell hb1 r4
  replace r5 := keep_cell hb1 r5
  replace r6 := keep_cell hb1 r6
  have zk : Hid (Below W.heap.size W w1) := hb1
  clear hb1
  go_wp2_with fail
  refine Calls.mono (kN2.out _) ?_
  clear kN2
  rintro e w2 ⟨rfl, hb2⟩
  replace p0 := keep_cell hb2 p0
  replace p1 := keep_cell hb2 p1
  replace p2' := keep_cell hb2 p2'
  replace p3 := keep_cell hb2 p3
  replace p4 := keep_cell hb2 p4
  replace p5 := keep_cell hb2 p5
  replace p6 := keep_cell hb2 p6
  replace r0 := keep_cell hb2 r0
  replace r1 := keep_cell hb2 r1
  replace r2 := keep_cell hb2 r2
  replace r3 := keep_cell hb2 r3
  replace r4 := keep_cell hb2 r4
  replace r5 := keep_cell hb2 r5
  replace r6 := keep_cell hb2 r6
  replace zk : Hid (Below W.heap.size W w2) := bthen zk.out hb2
  clear hb2
  obtain ⟨W3, hW3⟩ : ∃ W3, W3 = w2.alloc (.cells #[.int .i64 4, .bool false, .string ⟨#[]⟩, .bool false, .slice none 0 0, .bool false, .slice none 0 0] 42) := ⟨_, rfl⟩
  go_upto_region 13 with fail
  rw [← hW3]
  have hb3 : Below w2.heap.size w2 W3 := by rw [hW3]; exact (Below.refl _ _).alloc (Nat.le_refl _) _
  have hq3h : Hid (W3.heap[w2.heap.size]? = some (.cells #[.int .i64 4, .bool false, .string ⟨#[]⟩, .bool false, .slice none 0 0, .bool false, .slice none 0 0] 42 (0, 0))) := by show _ = _; rw [hW3]; exact newAt _ _
  replace p0 := keep_cell hb3 p0
  replace p1 := keep_cell hb3 p1
  replace p2' := keep_cell hb3 p2'
  replace p3 := keep_cell hb3 p3
  replace p4 := keep_cell hb3 p4
  replace p5 := keep_cell hb3 p5
  replace p6 := keep_cell hb3 p6
  replace r0 := keep_cell hb3 r0
  replace r1 := keep_cell hb3 r1
  replace r2 := keep_cell hb3 r2
  replace r3 := keep_cell hb3 r3
  replace r4 := keep_cell hb3 r4
  replace r5 := keep_cell hb3 r5
  replace r6 := keep_cell hb3 r6
  replace zk : Hid (Below W.heap.size W W3 ∧ W.heap.size ≤ w2.heap.size) := ⟨bthen zk.out hb3, zk.out.size⟩
  clear hb3 hW3
  generalize w2.heap.size = pC at *
  have kO : Hid (Calls Tryz.prog 103 #[.agg #[.bool m1, .slice b1 k1 d1, .bool n1, .slice a1 l1 c1], .agg #[.bool m2, .slice b2 k2 d2, .bool n2, .slice a2 l2 c2]] W3 fun e w' => ∃ t, e = .returned t ∧ LowRF W3.heap.size w' t (pN (p * q2 + p2 * q) (q * q2)) (pD (q * q2)) (2 * m + 4) ∧ Below W3.heap.size W3 w') := AddRat_numF (hall.out.2.2.2.2.1.next zk.out.1) (hall.out.2.2.2.2.2.next zk.out.1) (by omega) (by have := hall.out.2.2.2.1; omega) hy0.out
  go_wp2_with fail
  refine Calls.mono kO.out ?_
  clear kO
  rintro e w4 ⟨t, rfl, ⟨⟨P, Q, hR, hlow⟩, hfar⟩, hb4⟩
  obtain ⟨m3, b3, k3, d3, n3, a3, l3, c3, rfl⟩ := hR.form
  have hF : Hid ((∀ x, b3 = some x → w.heap.size ≤ x.block) ∧ (∀ x, a3 = some x → w.heap.size ≤ x.block)) := ⟨fun x hx => Nat.le_trans (bthen hall.out.1 zk.out.1).size ((hfar _ _ _ _ _ _ _ _ rfl).1 x hx), fun x hx => Nat.le_trans (bthen hall.out.1 zk.out.1).size ((hfar _ _ _ _ _ _ _ _ rfl).2 x hx)⟩
  clear hfar
  have q4 := keep_heap hb4 hq3h.out
  obtain ⟨⟨s0, s1, s2, s3, s4, s5, s6⟩, sf, _⟩ := cells7 q4
  have sf3 := sf 3
  have sf4 := sf 4
  have sf5 := sf 5
  have sf6 := sf 6
  obtain ⟨W5, hW5⟩ : ∃ W5, W5 = (((w4.setCell ⟨pC, 3, none⟩ (.bool m3)).setCell ⟨pC, 4, none⟩ (.slice b3 k3 d3)).setCell ⟨pC, 5, none⟩ (.bool n3)).setCell ⟨pC, 6, none⟩ (.slice a3 l3 c3) := ⟨_, rfl⟩
  have q5 : W5.heap[pC]? = some (.cells #[.int .i64 4, .bool false, .string ⟨#[]⟩, .bool m3, .slice b3 k3 d3, .bool n3, .slice a3 l3 c3] 42 (0, 0)) := by rw [hW5]; exact put5_at q4
  have hR5 : RatR W5 (.agg #[.bool m3, .slice b3 k3 d3, .bool n3, .slice a3 l3 c3]) P Q (2 * m + 4) := by rw [hW5]; exact hR.set4 q4 _ _ _ _
  have hb5 : Below W.heap.size W W5 := by rw [hW5]; exact ((((bthen zk.out.1 hb4).setCell (by exact zk.out.2) _).setCell (by exact zk.out.2) _).setCell (by exact zk.out.2) _).setCell (by exact zk.out.2) _
  have q6 : W5.heap[w.heap.size + 1 + 1]? = some (.cells #[.int .i64 0, .bool false, .string ⟨#[]⟩, .bool false, .slice none 0 0, .bool false, .slice none 0 0] 42 (0, 0)) := (hb5.block _ (by have := hall.out.2.2.1; omega)).trans hall.out.2.1
  obtain ⟨⟨y0, y1, y2, y3, y4, y5, y6⟩, rf, _⟩ := cells7 q6
  obtain ⟨⟨z0, z1, z2, z3, z4, z5, z6⟩, _, _⟩ := cells7 q5
  have rf0 := rf 0
  have rf1 := rf 1
  have rf2 := rf 2
  have rf3 := rf 3
  have rf4 := rf 4
  have rf5 := rf 5
  have rf6 := rf 6
  obtain ⟨W8, hW8⟩ : ∃ W8, W8 = put7 W5 (w.heap.size + 1 + 1) (.int .i64 4) (.bool false) (.string ⟨#[]⟩) (.bool m3) (.slice b3 k3 d3) (.bool n3) (.slice a3 l3 c3) := ⟨_, rfl⟩
  have hqW8 : Hid (W8.heap[w.heap.size + 1 + 1]? = some (.cells #[.int .i64 4, .bool false, .string ⟨#[]⟩, .bool m3, .slice b3 k3 d3, .bool n3, .slice a3 l3 c3] 42 (0, 0))) := by show _ = _; rw [hW8]; exact put7_at q6
  have hBW8 : Hid (Below w.heap.size w W8 ∧ CRn W8 (.agg #[.int .i64 4, .bool false, .string ⟨#[]⟩, .bool m3, .slice b3 k3 d3, .bool n3, .slice a3 l3 c3]) 4 P Q (2 * m + 4) ∧ Low (p * q2 + p2 * q) (q * q2) P Q) := by
    show _ ∧ _ ∧ _
    rw [hW8]
    exact ⟨put7_below (bthen hall.out.1 hb5) (by omega), CRn.put7 ⟨_, _, _, _, _, _, _, _, rfl, hR5⟩ ⟨_, _, _, _, _, _, _, _, _, _, _, q6⟩, low_simple hall.out.2.2.2.1 hlow⟩
  clear q4 q5 q6 hR5 hb5 hR hlow hb4 sf rf zk hall hq3h
  go_upto_region 17 with fail
  rw [← hW5]
  clear hW5 s0 s1 s2 s3 s4 s5 s6 sf3 sf4 sf5 sf6 p0 p1 p2' p3 p4 p5 p6 r0 r1 r2 r3 r4 r5 r6
  go_wp2
  unfold put7 at hW8
  rw [← hW8]
  obtain ⟨⟨j0, j1, j2, j3, j4, j5, j6⟩, _, _⟩ := cells7 hqW8.out
  exact bodyPost_ret (v := .tuple #[.agg #[.int .i64 4, .bool false, .string ⟨#[]⟩, .bool m3, .slice b3 k3 d3, .bool n3, .slice a3 l3 c3], .bool true]) (by simp [results, Tryz.results56, go_sem, j0, j1, j2, j3, j4, j5, j6]) rfl ⟨_, P, Q, rfl, hBW8.out.2.1, ⟨hBW8.out.2.2, farC_mk hF.out.1 hF.out.2⟩, hBW8.out.1⟩
set_option maxRecDepth 20000 in
set_option maxHeartbeats 2000000 in
theorem Binary19_ofF {w : World} {u v : Value} {K1 K2 kr p q p2 q2 : Int} {m M : Nat} (s : ByteArray) (L : Value → Int → Int → Prop) (hM : M ≤ 400) (hu : CRn w u K1 p q m) (hv : CRn w v K2 p2 q2 m)
    (hB : ∀ X, Below w.heap.size w X → Calls Tryz.prog 56 #[.string s, u, v] X fun e w' => ∃ t P Q, e = .returned (.tuple #[t, .bool true]) ∧ CRn w' t kr P Q M ∧ L t P Q ∧ Below X.heap.size X w') :
    Calls Tryz.prog 19 #[.string s, u, v] w fun e w' => ∃ t P Q, e = .returned (.tuple #[t, .bool true]) ∧ CRn w' t kr P Q M ∧ L t P Q ∧ Below w.heap.size w w' := by
  obtain ⟨m1, b1, k1, d1, n1, a1, l1, c1, rfl, hR1⟩ := hu
  obtain ⟨m2, b2, k2, d2, n2, a2, l2, c2, rfl, hR2⟩ := hv
  obtain ⟨W, hW, hqa, hqb, hqc, hbW, hsz⟩ := three_new (w := w) (A := .cells #[.int .i64 K1, .bool false, .string ⟨#[]⟩, .bool m1, .slice b1 k1 d1, .bool n1, .slice a1 l1 c1] 42) (B := .cells #[.int .i64 K2, .bool false, .string ⟨#[]⟩, .bool m2, .slice b2 k2 d2, .bool n2, .slice a2 l2 c2] 42) (C := .cells #[.int .i64 0, .bool false, .string ⟨#[]⟩, .bool false, .slice none 0 0, .bool false, .slice none 0 0] 42)
  obtain ⟨⟨p0, p1, p2', p3, p4, p5, p6⟩, _, _⟩ := cells7 hqa
  obtain ⟨⟨r0, r1, r2, r3, r4, r5, r6⟩, _, _⟩ := cells7 hqb
  have kB : Hid (Calls Tryz.prog 56 _ W _) := hB W hbW
  have hall : Hid (Below w.heap.size w W ∧ W.heap[w.heap.size + 1 + 1]? = some (.cells #[.int .i64 0, .bool false, .string ⟨#[]⟩, .bool false, .slice none 0 0, .bool false, .slice none 0 0] 42 (0, 0))) := ⟨hbW, hqc⟩
  clear hqa hqb hqc hbW hsz hR1 hR2 hB
  go_enter Tryz.func19, Tryz.ntmps19
  go_upto_region 1 with fail
  rw [← hW]
  clear hW
  go_wp2_with fail
  refine Calls.mono kB.out ?_
  clear kB
  rintro e w1 ⟨t, P, Q, rfl, ⟨m3, b3, k3, d3, n3, a3, l3, c3, rfl, hR⟩, hL, hb1⟩
  obtain ⟨W2, hW2⟩ : ∃ W2, W2 = w1.alloc (.cells #[.int .i64 kr, .bool false, .string ⟨#[]⟩, .bool m3, .slice b3 k3 d3, .bool n3, .slice a3 l3 c3] 42) := ⟨_, rfl⟩
  have hb2 : Below w1.heap.size w1 W2 := by rw [hW2]; exact (Below.refl _ _).alloc (Nat.le_refl _) _
  have q2' : W2.heap[w1.heap.size]? = some (.cells #[.int .i64 kr, .bool false, .string ⟨#[]⟩, .bool m3, .slice b3 k3 d3, .bool n3, .slice a3 l3 c3] 42 (0, 0)) := by rw [hW2]; exact newAt _ _
  have zk : Hid (Below W.heap.size W W2) := bthen hb1 hb2
  have hRh : Hid (RatR W2 (.agg #[.bool m3, .slice b3 k3 d3, .bool n3, .slice a3 l3 c3]) P Q M ∧ L (.agg #[.int .i64 kr, .bool false, .string ⟨#[]⟩, .bool m3, .slice b3 k3 d3, .bool n3, .slice a3 l3 c3]) P Q) := ⟨hR.next hb2, hL⟩
  obtain ⟨⟨g0, g1, g2, g3, g4, g5, g6⟩, _, _⟩ := cells7 q2'
  have kS : Hid (Calls Tryz.prog 37 #[.agg #[.int .i64 kr, .bool false, .string ⟨#[]⟩, .bool m3, .slice b3 k3 d3, .bool n3, .slice a3 l3 c3]] W2 fun e w' => e = .returned (.bool true) ∧ Below W2.heap.size W2 w') := small37_any hRh.out.1 (by omega) (by decide)
  clear hR hL hb1 hb2 q2' p0 p1 p2' p3 p4 p5 p6 r0 r1 r2 r3 r4 r5 r6
  go_upto_region 2 with fail
  rw [← hW2]
  clear hW2
  generalize w1.heap.size = pC at *
  go_wp2_with fail
  refine Calls.mono kS.out ?_
  clear kS
  rintro e w3 ⟨rfl, hb3⟩
  replace g0 := keep_cell hb3 g0
  replace g1 := keep_cell hb3 g1
  replace g2 := keep_cell hb3 g2
  replace g3 := keep_cell hb3 g3
  replace g4 := keep_cell hb3 g4
  replace g5 := keep_cell hb3 g5
  replace g6 := keep_cell hb3 g6
  replace zk : Hid (Below W.heap.size W w3) := bthen zk.out hb3
  replace hRh : Hid (RatR w3 (.agg #[.bool m3, .slice b3 k3 d3, .bool n3, .slice a3 l3 c3]) P Q M ∧ L (.agg #[.int .i64 kr, .bool false, .string ⟨#[]⟩, .bool m3, .slice b3 k3 d3, .bool n3, .slice a3 l3 c3]) P Q) := ⟨RatR.next hRh.out.1 hb3, hRh.out.2⟩
  have q6 := keep_heap zk.out hall.out.2
  obtain ⟨⟨y0, y1, y2, y3, y4, y5, y6⟩, rf, _⟩ := cells7 q6
  have rf0 := rf 0
  have rf1 := rf 1
  have rf2 := rf 2
  have rf3 := rf 3
  have rf4 := rf 4
  have rf5 := rf 5
  have rf6 := rf 6
  obtain ⟨W8, hW8⟩ : ∃ W8, W8 = put7 w3 (w.heap.size + 1 + 1) (.int .i64 kr) (.bool false) (.string ⟨#[]⟩) (.bool m3) (.slice b3 k3 d3) (.bool n3) (.slice a3 l3 c3) := ⟨_, rfl⟩
  have hqW8 : Hid (W8.heap[w.heap.size + 1 + 1]? = some (.cells #[.int .i64 kr, .bool false, .string ⟨#[]⟩, .bool m3, .slice b3 k3 d3, .bool n3, .slice a3 l3 c3] 42 (0, 0))) := by show _ = _; rw [hW8]; exact put7_at q6
  have hBW8 : Hid (Below w.heap.size w W8 ∧ CRn W8 (.agg #[.int .i64 kr, .bool false, .string ⟨#[]⟩, .bool m3, .slice b3 k3 d3, .bool n3, .slice a3 l3 c3]) kr P Q M ∧ L (.agg #[.int .i64 kr, .bool false, .string ⟨#[]⟩, .bool m3, .slice b3 k3 d3, .bool n3, .slice a3 l3 c3]) P Q) := by
    show _ ∧ _ ∧ _
    rw [hW8]
    exact ⟨put7_below (bthen hall.out.1 zk.out) (by omega), CRn.put7 ⟨_, _, _, _, _, _, _, _, rfl, hRh.out.1⟩ ⟨_, _, _, _, _, _, _, _, _, _, _, q6⟩, hRh.out.2⟩
  clear q6 rf zk hall hRh hb3
  go_wp2
  unfold put7 at hW8
  rw [← hW8]
  obtain ⟨⟨j0, j1, j2, j3, j4, j5, j6⟩, _, _⟩ := cells7 hqW8.out
  exact bodyPost_ret (v := .tuple #[.agg #[.int .i64 kr, .bool false, .string ⟨#[]⟩, .bool m3, .slice b3 k3 d3, .bool n3, .slice a3 l3 c3], .bool true]) (by simp [results, Tryz.results19, go_sem, j0, j1, j2, j3, j4, j5, j6]) rfl ⟨_, P, Q, rfl, hBW8.out.2.1, hBW8.out.2.2, hBW8.out.1⟩
end Go.Proofs.YtclokcoimdjaeaaGreatDoor
