/- constants: products and texts put together, by the second road. -/
import Derived.Test.YtclokcoimdjaeaaGreatDoorCfm
import Derived.Test.YtclokcoimdjaeaaGreatDoorZfm
import Derived.Test.YtclokcoimdjaeaaGreatDoorZhm
import Derived.Test.YtclokcoimdjaeaaGreatDoorQlm
namespace Go.Proofs.YtclokcoimdjaeaaGreatDoor
set_option linter.unusedVariables false
open Go.RowKit
attribute [local go_sem ↓] Go.wp_at_zero Go.wp_at_succ
theorem Rint.tight {w : World} {v : Value} {z : Int} {n m : Nat} (h : Rint w v z n) (hz : (z.natAbs : Int) < 65536 ^ m) : Rint w v z m := by
  obtain ⟨neg, a, cap, ds, hv, hr, hn, he, hl⟩ := h
  have h0 := val_nonneg (B := 65536) (by decide) hr.words
  refine ⟨neg, a, cap, ds, hv, hr, hn, he, nrm_len (B := 65536) (by decide) hr.words hn.1 ?_⟩
  have : (z.natAbs : Int) = Go.Proofs.YtclokcoimdjaeaaGreatDoor.val 65536 ds := by
    cases neg <;> simp [Go.Proofs.YtclokcoimdjaeaaGreatDoor.num] at he <;> omega
  rw [← this]; exact hz
theorem CRn.tight {w : World} {v : Value} {k z : Int} {n m : Nat} (h : CRn w v k z 1 n) (hz : (z.natAbs : Int) < 65536 ^ m) (hm : 1 ≤ m) : CRn w v k z 1 m := by
  obtain ⟨m1, b1, k1, d1, m2, b2, k2, d2, e, n1, a1, l1, c1, n2, a2, l2, c2, e', h1, h2⟩ := h
  refine ⟨m1, b1, k1, d1, m2, b2, k2, d2, e, n1, a1, l1, c1, n2, a2, l2, c2, e', h1.tight hz, h2.tight ?_⟩
  exact Int.lt_of_lt_of_le (by decide : ((1 : Int).natAbs : Int) < 65536 ^ 1) (pow_mono (by decide) hm)
set_option maxRecDepth 20000 in
set_option maxHeartbeats 2000000 in
theorem bin_33_mul {w : World} {u v : Value} {p q p2 q2 : Int} {m : Nat} (hu : CRn w u 3 p q m) (hv : CRn w v 3 p2 q2 m) (hm : m ≤ 440) (hq : 0 < q) (hq2 : 0 < q2)  :
    Calls Tryz.prog 56 #[.string ⟨#[42]⟩, u, v] w fun e w' => ∃ t P Q, e = .returned (.tuple #[t, .bool true]) ∧ CRn w' t 3 P Q (2 * m + 4) ∧ Low (p * p2) (q * q2) P Q ∧ Below w.heap.size w w' := by
  obtain ⟨m1, b1, k1, d1, n1, a1, l1, c1, rfl, hR1⟩ := hu
  obtain ⟨m2, b2, k2, d2, n2, a2, l2, c2, rfl, hR2⟩ := hv
  obtain ⟨W, hW, hqa, hqb, hqc, hbW, hsz⟩ := three_new (w := w) (A := .cells #[.int .i64 3, .bool false, .string ⟨#[]⟩, .bool m1, .slice b1 k1 d1, .bool n1, .slice a1 l1 c1] 42) (B := .cells #[.int .i64 3, .bool false, .string ⟨#[]⟩, .bool m2, .slice b2 k2 d2, .bool n2, .slice a2 l2 c2] 42) (C := .cells #[.int .i64 0, .bool false, .string ⟨#[]⟩, .bool false, .slice none 0 0, .bool false, .slice none 0 0] 42)
  obtain ⟨⟨p0, p1, p2', p3, p4, p5, p6⟩, _, _⟩ := cells7 hqa
  obtain ⟨⟨r0, r1, r2, r3, r4, r5, r6⟩, _, _⟩ := cells7 hqb
  have hpos : 0 < q * q2 := Int.mul_pos hq hq2
  have hall : Hid (Below w.heap.size w W ∧ W.heap[w.heap.size + 1 + 1]? = some (.cells #[.int .i64 0, .bool false, .string ⟨#[]⟩, .bool false, .slice none 0 0, .bool false, .slice none 0 0] 42 (0, 0)) ∧ W.heap.size = w.heap.size + 1 + 1 + 1 ∧ 0 < q * q2 ∧ RatR W (.agg #[.bool m1, .slice b1 k1 d1, .bool n1, .slice a1 l1 c1]) p q m ∧ RatR W (.agg #[.bool m2, .slice b2 k2 d2, .bool n2, .slice a2 l2 c2]) p2 q2 m) := ⟨hbW, hqc, hsz, hpos, hR1.next hbW, hR2.next hbW⟩
  have kN1 : Hid (∀ X, Calls Tryz.prog 57 #[.agg #[.int .i64 3, .bool false, .string ⟨#[]⟩, .bool m1, .slice b1 k1 d1, .bool n1, .slice a1 l1 c1]] X fun e w' => e = .returned (.bool true) ∧ Below X.heap.size X w') := fun X => Num57_any X 3 false ⟨#[]⟩ _ _ _ _ _ _ _ _ true rfl
  have kN2 : Hid (∀ X, Calls Tryz.prog 57 #[.agg #[.int .i64 3, .bool false, .string ⟨#[]⟩, .bool m2, .slice b2 k2 d2, .bool n2, .slice a2 l2 c2]] X fun e w' => e = .returned (.bool true) ∧ Below X.heap.size X w') := fun X => Num57_any X 3 false ⟨#[]⟩ _ _ _ _ _ _ _ _ true rfl
  clear hqa hqb hqc hbW hsz hR1 hR2 hpos hq hq2 
  go_enter Tryz.func56, Tryz.ntmps56
  go_upto_region 1 with fail
  rw [← hW]
  clear hW
  go_wp2_with fail
  refine Calls.mono (kN1.out _) ?_
  clear kN1
  rintro e w1 ⟨rfl, hb1⟩
  replace p0 := keep_cell hb1 p0
  replace p1 := keep_cell hb1 p1
  replace p2' := keep_cell hb1 p2'
  replace p3 := keep_cell hb1 p3
  replace p4 := keep_cell hb1 p4
  replace p5 := keep_cell hb1 p5
  replace p6 := keep_cell hb1 p6
  replace r0 := keep_cell hb1 r0
  replace r1 := keep_cell hb1 r1
  replace r2 := keep_cell hb1 r2
  replace r3 := keep_cell hb1 r3
  replace r4 := keep_cell hb1 r4
  replace r5 := keep_cell hb1 r5
  replace r6 := keep_cell hb1 r6
  have zk : Hid (Below W.heap.size W w1) := hb1
  clear hb1
  go_wp2_with fail
  refine Calls.mono (kN2.out _) ?_
  clear kN2
  rintro e w2 ⟨rfl, hb2⟩
  replace p0 := keep_cell hb2 p0
  replace p1 := keep_cell hb2 p1
  replace p2' := keep_cell hb2 p2'
  replace p3 := keep_cell hb2 p3
  replace p4 := keep_cell hb2 p4
  replace p5 := keep_cell hb2 p5
  replace p6 := keep_cell hb2 p6
  replace r0 := keep_cell hb2 r0
  replace r1 := keep_cell hb2 r1
  replace r2 := keep_cell hb2 r2
  replace r3 := keep_cell hb2 r3
  replace r4 := keep_cell hb2 r4
  replace r5 := keep_cell hb2 r5
  replace r6 := keep_cell hb2 r6
  replace zk : Hid (Below W.heap.size W w2) := bthen zk.out hb2
  clear hb2
  obtain ⟨W3, hW3⟩ : ∃ W3, W3 = w2.alloc (.cells #[.int .i64 3, .bool false, .string ⟨#[]⟩, .bool false, .slice none 0 0, .bool false, .slice none 0 0] 42) := ⟨_, rfl⟩
  go_upto_region 13 with fail
  rw [← hW3]
  have hb3 : Below w2.heap.size w2 W3 := by rw [hW3]; exact (Below.refl _ _).alloc (Nat.le_refl _) _
  have hq3h : Hid (W3.heap[w2.heap.size]? = some (.cells #[.int .i64 3, .bool false, .string ⟨#[]⟩, .bool false, .slice none 0 0, .bool false, .slice none 0 0] 42 (0, 0))) := by show _ = _; rw [hW3]; exact newAt _ _
  replace p0 := keep_cell hb3 p0
  replace p1 := keep_cell hb3 p1
  replace p2' := keep_cell hb3 p2'
  replace p3 := keep_cell hb3 p3
  replace p4 := keep_cell hb3 p4
  replace p5 := keep_cell hb3 p5
  replace p6 := keep_cell hb3 p6
  replace r0 := keep_cell hb3 r0
  replace r1 := keep_cell hb3 r1
  replace r2 := keep_cell hb3 r2
  replace r3 := keep_cell hb3 r3
  replace r4 := keep_cell hb3 r4
  replace r5 := keep_cell hb3 r5
  replace r6 := keep_cell hb3 r6
  replace zk : Hid (Below W.heap.size W W3 ∧ W.heap.size ≤ w2.heap.size) := ⟨bthen zk.out hb3, zk.out.size⟩
  clear hb3 hW3
  generalize w2.heap.size = pC at *
  have kO : Hid (Calls Tryz.prog 104 #[.agg #[.bool m1, .slice b1 k1 d1, .bool n1, .slice a1 l1 c1], .agg #[.bool m2, .slice b2 k2 d2, .bool n2, .slice a2 l2 c2]] W3 fun e w' => ∃ t, e = .returned t ∧ LowR w' t (pN (p * p2) (q * q2)) (pD (q * q2)) (2 * m + 4) ∧ Below W3.heap.size W3 w') := MulRat_num (hall.out.2.2.2.2.1.next zk.out.1) (hall.out.2.2.2.2.2.next zk.out.1) (by omega) (by have := hall.out.2.2.2.1; omega)
  go_wp2_with fail
  refine Calls.mono kO.out ?_
  clear kO
  rintro e w4 ⟨t, rfl, ⟨P, Q, hR, hlow⟩, hb4⟩
  obtain ⟨m3, b3, k3, d3, n3, a3, l3, c3, rfl⟩ := hR.form
  have q4 := keep_heap hb4 hq3h.out
  obtain ⟨⟨s0, s1, s2, s3, s4, s5, s6⟩, sf, _⟩ := cells7 q4
  have sf3 := sf 3
  have sf4 := sf 4
  have sf5 := sf 5
  have sf6 := sf 6
  obtain ⟨W5, hW5⟩ : ∃ W5, W5 = (((w4.setCell ⟨pC, 3, none⟩ (.bool m3)).setCell ⟨pC, 4, none⟩ (.slice b3 k3 d3)).setCell ⟨pC, 5, none⟩ (.bool n3)).setCell ⟨pC, 6, none⟩ (.slice a3 l3 c3) := ⟨_, rfl⟩
  have q5 : W5.heap[pC]? = some (.cells #[.int .i64 3, .bool false, .string ⟨#[]⟩, .bool m3, .slice b3 k3 d3, .bool n3, .slice a3 l3 c3] 42 (0, 0)) := by rw [hW5]; exact put5_at q4
  have hR5 : RatR W5 (.agg #[.bool m3, .slice b3 k3 d3, .bool n3, .slice a3 l3 c3]) P Q (2 * m + 4) := by rw [hW5]; exact hR.set4 q4 _ _ _ _
  have hb5 : Below W.heap.size W W5 := by rw [hW5]; exact ((((bthen zk.out.1 hb4).setCell (by exact zk.out.2) _).setCell (by exact zk.out.2) _).setCell (by exact zk.out.2) _).setCell (by exact zk.out.2) _
  have q6 : W5.heap[w.heap.size + 1 + 1]? = some (.cells #[.int .i64 0, .bool false, .string ⟨#[]⟩, .bool false, .slice none 0 0, .bool false, .slice none 0 0] 42 (0, 0)) := (hb5.block _ (by have := hall.out.2.2.1; omega)).trans hall.out.2.1
  obtain ⟨⟨y0, y1, y2, y3, y4, y5, y6⟩, rf, _⟩ := cells7 q6
  obtain ⟨⟨z0, z1, z2, z3, z4, z5, z6⟩, _, _⟩ := cells7 q5
  have rf0 := rf 0
  have rf1 := rf 1
  have rf2 := rf 2
  have rf3 := rf 3
  have rf4 := rf 4
  have rf5 := rf 5
  have rf6 := rf 6
  obtain ⟨W8, hW8⟩ : ∃ W8, W8 = put7 W5 (w.heap.size + 1 + 1) (.int .i64 3) (.bool false) (.string ⟨#[]⟩) (.bool m3) (.slice b3 k3 d3) (.bool n3) (.slice a3 l3 c3) := ⟨_, rfl⟩
  have hqW8 : Hid (W8.heap[w.heap.size + 1 + 1]? = some (.cells #[.int .i64 3, .bool false, .string ⟨#[]⟩, .bool m3, .slice b3 k3 d3, .bool n3, .slice a3 l3 c3] 42 (0, 0))) := by show _ = _; rw [hW8]; exact put7_at q6
  have hBW8 : Hid (Below w.heap.size w W8 ∧ CRn W8 (.agg #[.int .i64 3, .bool false, .string ⟨#[]⟩, .bool m3, .slice b3 k3 d3, .bool n3, .slice a3 l3 c3]) 3 P Q (2 * m + 4) ∧ Low (p * p2) (q * q2) P Q) := by
    show _ ∧ _ ∧ _
    rw [hW8]
    exact ⟨put7_below (bthen hall.out.1 hb5) (by omega), CRn.put7 ⟨_, _, _, _, _, _, _, _, rfl, hR5⟩ ⟨_, _, _, _, _, _, _, _, _, _, _, q6⟩, low_simple hall.out.2.2.2.1 hlow⟩
  clear q4 q5 q6 hR5 hb5 hR hlow hb4 sf rf zk hall hq3h
  go_upto_region 23 with fail
  rw [← hW5]
  clear hW5 s0 s1 s2 s3 s4 s5 s6 sf3 sf4 sf5 sf6 p0 p1 p2' p3 p4 p5 p6 r0 r1 r2 r3 r4 r5 r6
  go_wp2
  unfold put7 at hW8
  rw [← hW8]
  obtain ⟨⟨j0, j1, j2, j3, j4, j5, j6⟩, _, _⟩ := cells7 hqW8.out
  exact bodyPost_ret (v := .tuple #[.agg #[.int .i64 3, .bool false, .string ⟨#[]⟩, .bool m3, .slice b3 k3 d3, .bool n3, .slice a3 l3 c3], .bool true]) (by simp [results, Tryz.results56, go_sem, j0, j1, j2, j3, j4, j5, j6]) rfl ⟨_, P, Q, rfl, hBW8.out.2.1, hBW8.out.2.2, hBW8.out.1⟩
set_option maxRecDepth 20000 in
set_option maxHeartbeats 2000000 in
theorem bin_str (s : ByteArray) (w : World) (hs : s.size ≤ 65536) : Calls Tryz.prog 56 #[.string ⟨#[43]⟩, cStr s, cStr s] w fun e w' => e = .returned (.tuple #[cStr (s ++ s), .bool true]) ∧ Below w.heap.size w w' := by
  obtain ⟨W, hW, hqa, hqb, hqc, hbW, hsz⟩ := three_new (w := w) (A := .cells #[.int .i64 2, .bool false, .string s, .bool false, .slice none 0 0, .bool false, .slice none 0 0] 42) (B := .cells #[.int .i64 2, .bool false, .string s, .bool false, .slice none 0 0, .bool false, .slice none 0 0] 42) (C := .cells #[.int .i64 0, .bool false, .string ⟨#[]⟩, .bool false, .slice none 0 0, .bool false, .slice none 0 0] 42)
  obtain ⟨⟨p0, p1, p2, p3, p4, p5, p6⟩, _, _⟩ := cells7 hqa
  obtain ⟨⟨q0, q1, q2, q3, q4, q5, q6⟩, _, _⟩ := cells7 hqb
  obtain ⟨⟨z0, z1, z2, z3, z4, z5, z6⟩, fz, _⟩ := cells7 hqc
  have fz0 := fz 0
  have fz1 := fz 1
  have fz2 := fz 2
  have fz3 := fz 3
  have fz4 := fz 4
  have fz5 := fz 5
  have fz6 := fz 6
  clear fz
  have hml : ¬ (9223372036854775807 < s.size + s.size) := by omega
  obtain ⟨S2, hS2⟩ : ∃ S2, S2 = s ++ s := ⟨_, rfl⟩
  rw [← hS2]
  obtain ⟨W8, hW8⟩ : ∃ W8, W8 = put7 W (w.heap.size + 1 + 1) (.int .i64 2) (.bool false) (.string S2) (.bool false) (.slice none 0 0) (.bool false) (.slice none 0 0) := ⟨_, rfl⟩
  have hqW8 : Hid (W8.heap[w.heap.size + 1 + 1]? = some (.cells #[.int .i64 2, .bool false, .string S2, .bool false, .slice none 0 0, .bool false, .slice none 0 0] 42 (0, 0))) := by show _ = _; rw [hW8]; exact put7_at hqc
  have hBW8 : Hid (Below w.heap.size w W8) := by show Below _ _ _; rw [hW8]; exact put7_below hbW (by omega)
  clear hqa hqb hqc hbW hsz hs
  unfold cStr
  go_enter Tryz.func56, Tryz.ntmps56
  go_upto_region 1 with fail
  rw [← hW]
  clear hW
  go_wp2
  rw [← hS2]
  unfold put7 at hW8
  rw [← hW8]
  obtain ⟨⟨i0, i1, i2, i3, i4, i5, i6⟩, _, _⟩ := cells7 hqW8.out
  exact bodyPost_ret (v := .tuple #[.agg #[.int .i64 2, .bool false, .string S2, .bool false, .slice none 0 0, .bool false, .slice none 0 0], .bool true]) (by simp [results, Tryz.results56, go_sem, i0, i1, i2, i3, i4, i5, i6]) rfl ⟨rfl, hBW8.out⟩
set_option maxRecDepth 20000 in
set_option maxHeartbeats 2000000 in
theorem small_nsh {w : World} {v : Value} {k p q : Int} {m : Nat} (h : CRn w v k p q m) (hm : m ≤ 1000) (hn : NSh p) : Calls Tryz.prog 37 #[v] w fun e w' => e = .returned (.bool false) ∧ Below w.heap.size w w' := by
  obtain ⟨m1, b1, k1, d1, m2, b2, k2, d2, rfl, hR⟩ := h
  obtain ⟨W, hW⟩ : ∃ W, W = w.alloc (.cells #[.int .i64 k, .bool false, .string ⟨#[]⟩, .bool m1, .slice b1 k1 d1, .bool m2, .slice b2 k2 d2] 42) := ⟨_, rfl⟩
  have hb : Below w.heap.size w W := by rw [hW]; exact (Below.refl _ _).alloc (Nat.le_refl _) _
  have hq : W.heap[w.heap.size]? = some (.cells #[.int .i64 k, .bool false, .string ⟨#[]⟩, .bool m1, .slice b1 k1 d1, .bool m2, .slice b2 k2 d2] 42 (0, 0)) := by rw [hW]; exact newAt _ _
  have kB : Hid (Calls Tryz.prog 82 #[.agg #[.bool m1, .slice b1 k1 d1]] W _) := rBits_num (hR.parts.1.next hb) hm
  obtain ⟨⟨p0, p1, p2, p3, p4, p5, p6⟩, _, _⟩ := cells7 hq
  have hbh : Hid (Below w.heap.size w W) := hb
  have hnh : Hid (NSh p) := hn
  have d0 : decide (((⟨#[]⟩ : ByteArray).size : Int) ≤ 65536) = true := by decide
  clear hq hb hR hn
  go_enter Tryz.func37, Tryz.ntmps37
  go_upto_region 1 with fail
  rw [← hW]
  clear hW
  go_wp2_with fail
  refine Calls.mono kB.out ?_
  clear kB
  rintro e w1 ⟨L, rfl, hL, hb1⟩
  have d1 : decide ((L : Int) ≤ 8192) = false := decide_eq_false (by have := hnh.out L hL; omega)
  replace hbh : Hid (Below w.heap.size w w1) := bthen hbh.out hb1
  clear hL hb1
  go_wp2
  exact bodyPost_ret (v := .bool false) (by simp [results, Tryz.results37, go_sem]) rfl ⟨rfl, hbh.out⟩
theorem From14_str (s : ByteArray) (w : World) (hs : s.size ≤ 65536) : Calls Tryz.prog 14 #[cStr s] w fun e w' => e = .returned (.tuple #[cStr s, .bool true]) ∧ Below w.heap.size w w' :=
  (From14_yes 2 false s false none 0 0 false none 0 0 (fun _ t => t = cStr s) (fun _ _ _ _ h => h) (fun _ _ _ _ _ _ _ _ _ _ _ h => h)
    (fun X _ => (from_str X s false none 0 0 false none 0 0 true rfl).mono fun e w' h => ⟨_, _, _, _, _, _, _, _, _, _, _, h.1, rfl, h.2⟩)
    (fun X k b s' m x l c n y j d h => h ▸ small_str s X hs)).mono fun e w' ⟨t, h1, h2, h3⟩ => ⟨h2 ▸ h1, h3⟩
theorem Binary19_str (s : ByteArray) (w : World) (hs : s.size ≤ 65536) (h2 : (s ++ s).size ≤ 65536) : Calls Tryz.prog 19 #[.string ⟨#[43]⟩, cStr s, cStr s] w fun e w' => e = .returned (.tuple #[cStr (s ++ s), .bool true]) ∧ Below w.heap.size w w' :=
  (Binary19_yes ⟨#[43]⟩ 2 false s false none 0 0 false none 0 0 2 false s false none 0 0 false none 0 0 (fun _ t => t = cStr (s ++ s)) (fun _ _ _ _ h => h) (fun _ _ _ _ _ _ _ _ _ _ _ h => h)
    (fun X _ => (bin_str s X hs).mono fun e w' h => ⟨_, _, _, _, _, _, _, _, _, _, _, h.1, rfl, h.2⟩)
    (fun X k b s' m x l c n y j d h => h ▸ small_str (s ++ s) X h2)).mono fun e w' ⟨t, h1, h2, h3⟩ => ⟨h2 ▸ h1, h3⟩
theorem Binary19_long (s : ByteArray) (w : World) (hs : s.size ≤ 65536) (h2 : 65536 < (s ++ s).size) : Calls Tryz.prog 19 #[.string ⟨#[43]⟩, cStr s, cStr s] w fun e w' => e = .returned (.tuple #[cNone, .bool false]) ∧ Below w.heap.size w w' :=
  Binary19_no ⟨#[43]⟩ 2 false s false none 0 0 false none 0 0 2 false s false none 0 0 false none 0 0 (fun _ t => t = cStr (s ++ s)) (fun _ _ _ _ h => h) (fun _ _ _ _ _ _ _ _ _ _ _ h => h)
    (fun X _ => (bin_str s X hs).mono fun e w' h => ⟨_, _, _, _, _, _, _, _, _, _, _, h.1, rfl, h.2⟩)
    (fun X k b s' m x l c n y j d h => h ▸ small_long (s ++ s) X h2)
theorem mul33_yes {w : World} {u v : Value} {y z : Int} {m : Nat} (hu : CRn w u 3 y 1 m) (hv : CRn w v 3 z 1 m) (hm : m ≤ 440) (hz : ((y * z).natAbs : Int) < 65536 ^ 500) :
    Calls Tryz.prog 19 #[.string ⟨#[42]⟩, u, v] w fun e w' => ∃ t, e = .returned (.tuple #[t, .bool true]) ∧ CRn w' t 3 (y * z) 1 (2 * m + 4) ∧ Below w.heap.size w w' := by
  have hu' := hu
  have hv' := hv
  obtain ⟨m1, b1, k1, d1, m2, b2, k2, d2, rfl, _⟩ := hu'
  obtain ⟨n1, a1, l1, c1, n2, a2, l2, c2, rfl, _⟩ := hv'
  refine Binary19_yes ⟨#[42]⟩ 3 false ⟨#[]⟩ _ _ _ _ _ _ _ _ 3 false ⟨#[]⟩ _ _ _ _ _ _ _ _ (fun w t => CRn w t 3 (y * z) 1 (2 * m + 4)) (fun _ _ _ hb h => h.next hb) (fun _ _ _ _ _ _ _ _ _ _ hz h => h.put7 hz) (fun X hX => (bin_33_mul (hu.next hX) (hv.next hX) hm (by decide) (by decide)).mono ?_) (fun X k b s' m' x l c n y' j d h => by obtain ⟨_, _, _, _, _, _, _, _, e, hR⟩ := h.tight hz (by decide); cases e; exact small37_any hR (by decide) (by decide))
  rintro e w' ⟨t, P, Q, h1, h2, h3, h4⟩
  have h5 : Low (y * z) 1 P Q := by simpa using h3
  obtain ⟨rfl, rfl⟩ := low_whole h5
  have h2' := h2
  obtain ⟨_, _, _, _, _, _, _, _, rfl, _⟩ := h2'
  exact ⟨_, _, _, _, _, _, _, _, _, _, _, h1, h2, h4⟩
theorem mul33_no {w : World} {u v : Value} {y z : Int} {m : Nat} (hu : CRn w u 3 y 1 m) (hv : CRn w v 3 z 1 m) (hm : m ≤ 440) (hz : NSh (y * z)) :
    Calls Tryz.prog 19 #[.string ⟨#[42]⟩, u, v] w fun e w' => e = .returned (.tuple #[cNone, .bool false]) ∧ Below w.heap.size w w' := by
  have hu' := hu
  have hv' := hv
  obtain ⟨m1, b1, k1, d1, m2, b2, k2, d2, rfl, _⟩ := hu'
  obtain ⟨n1, a1, l1, c1, n2, a2, l2, c2, rfl, _⟩ := hv'
  refine Binary19_no ⟨#[42]⟩ 3 false ⟨#[]⟩ _ _ _ _ _ _ _ _ 3 false ⟨#[]⟩ _ _ _ _ _ _ _ _ (fun w t => CRn w t 3 (y * z) 1 (2 * m + 4)) (fun _ _ _ hb h => h.next hb) (fun _ _ _ _ _ _ _ _ _ _ hz h => h.put7 hz) (fun X hX => (bin_33_mul (hu.next hX) (hv.next hX) hm (by decide) (by decide)).mono ?_) (fun X k b s' m' x l c n y' j d h => small_nsh h (by omega) hz)
  rintro e w' ⟨t, P, Q, h1, h2, h3, h4⟩
  have h5 : Low (y * z) 1 P Q := by simpa using h3
  obtain ⟨rfl, rfl⟩ := low_whole h5
  have h2' := h2
  obtain ⟨_, _, _, _, _, _, _, _, rfl, _⟩ := h2'
  exact ⟨_, _, _, _, _, _, _, _, _, _, _, h1, h2, h4⟩
/-- A whole constant, as the second road takes it over. -/
theorem From14_int {w : World} {u : Value} {z : Int} {m : Nat} (hu : CI w u z m) (hm : m ≤ 210) : Calls Tryz.prog 14 #[u] w fun e w' => ∃ t, e = .returned (.tuple #[t, .bool true]) ∧ CRn w' t 3 z 1 (2 * m + 3) ∧ Below w.heap.size w w' := by
  obtain ⟨n, d, ⟨n1, a1, l1, c1, n2, a2, l2, c2, rfl, hF⟩, hz⟩ := hu
  refine From14_yes 3 false ⟨#[]⟩ _ _ _ _ _ _ _ _ (fun w t => CRn w t 3 z 1 (2 * m + 3)) (fun _ _ _ hb h => h.next hb) (fun _ _ _ _ _ _ _ _ _ _ hz h => h.put7 hz) (fun X hX => (from_num3 false ⟨#[]⟩ (hF.next hX) hm).mono ?_) (fun X k b s' m' x l c n y' j d h => by obtain ⟨_, _, _, _, _, _, _, _, e, hR⟩ := h; cases e; exact small37_any hR (by omega) (by decide))
  rintro e w' ⟨m1, b1, k1, d1, m2, b2, k2, d2, p, q, B, h1, h2, h3, h4, h5⟩
  have hD := pD_pos d
  have h6 : Low z 1 p q := by
    refine ⟨h3.1, h3.2.1, ?_⟩
    have h7 := h3.2.2
    rw [hz] at h7
    have h8 : pD d * (p * 1) = pD d * (z * q) := by rw [Int.mul_one, Int.mul_comm (pD d) p, h7, Int.mul_assoc, Int.mul_comm z (pD d * q), Int.mul_assoc, Int.mul_comm q z]
    exact Int.eq_of_mul_eq_mul_left (by omega) h8
  obtain ⟨rfl, rfl⟩ := low_whole h6
  have hB : B = true := by rw [h4]; decide
  subst hB
  exact ⟨_, _, _, _, _, _, _, _, _, _, _, h1, ⟨_, _, _, _, _, _, _, _, rfl, h2⟩, h5⟩
end Go.Proofs.YtclokcoimdjaeaaGreatDoor
namespace Go.Proofs.YtclokcoimdjaeaaGreatDoor
set_option linter.unusedVariables false
open Go.RowKit
attribute [local go_sem ↓] Go.wp_at_zero Go.wp_at_succ
set_option maxRecDepth 20000 in
set_option maxHeartbeats 2000000 in
theorem ofNumber_idv {w : World} {n1 : Bool} {a1 : Option Addr} {l1 c1 : Nat} {n2 : Bool} {a2 : Option Addr} {l2 c2 : Nat} {k n d : Int} {m : Nat} (hv : Frac w (.agg #[.bool n1, .slice a1 l1 c1, .bool n2, .slice a2 l2 c2]) n d m) (hm : m ≤ 900) (hs1 : Sh n) (hs2 : Sh d) :
    Calls Tryz.prog 48 #[.int .i64 k, .agg #[.bool n1, .slice a1 l1 c1, .bool n2, .slice a2 l2 c2], .bool true] w fun e w' => e = .returned (.tuple #[.agg #[.int .i64 k, .bool false, .string ⟨#[]⟩, .bool n1, .slice a1 l1 c1, .bool n2, .slice a2 l2 c2], .bool true]) ∧ Below w.heap.size w w' := by
  obtain ⟨W0, hW0, hbW0, hlt0, ⟨p0, p1, p2, p3⟩, _, _⟩ := box4 w n1 a1 l1 c1 n2 a2 l2 c2
  obtain ⟨W, hW⟩ : ∃ W, W = W0.alloc (.cells #[.int .i64 0, .bool false, .string ⟨#[]⟩, .bool false, .slice none 0 0, .bool false, .slice none 0 0] 32) := ⟨_, rfl⟩
  have hs0 : W0.heap.size = w.heap.size + 1 := by rw [hW0]; simp
  have hbW : Below W0.heap.size W0 W := by rw [hW]; exact (Below.refl _ _).alloc (Nat.le_refl _) _
  have hq : W.heap[w.heap.size + 1]? = some (.cells #[.int .i64 0, .bool false, .string ⟨#[]⟩, .bool false, .slice none 0 0, .bool false, .slice none 0 0] 32 (0, 0)) := by rw [hW, ← hs0]; exact newAt _ _
  replace p0 := keep_cell hbW p0
  replace p1 := keep_cell hbW p1
  replace p2 := keep_cell hbW p2
  replace p3 := keep_cell hbW p3
  have kS : Hid (Calls Tryz.prog 96 #[.agg #[.bool n1, .slice a1 l1 c1, .bool n2, .slice a2 l2 c2]] W _) := isShort_val ((hv.next hbW0).next hbW) hm hs1 hs2
  have hvh : Hid (Frac w (.agg #[.bool n1, .slice a1 l1 c1, .bool n2, .slice a2 l2 c2]) n d m) := hv
  have hB : Hid (Below w.heap.size w W) := hbW0.trans (hbW.mono (by omega))
  have hqh : Hid (W.heap[w.heap.size + 1]? = _) := hq
  have hsW : Hid (w.heap.size + 1 < W.heap.size) := (Array.getElem?_eq_some_iff.1 hq).1
  clear hs1 hs2 hv hq hbW hbW0 hs0 hlt0
  go_enter Tryz.func48, Tryz.ntmps48
  go_upto_region 1 with fail
  rw [← hW0, ← hW]
  clear hW hW0
  go_wp2_with fail
  refine Calls.mono kS.out ?_
  rintro e w1 ⟨rfl, hb1⟩
  replace p0 := keep_cell hb1 p0
  replace p1 := keep_cell hb1 p1
  replace p2 := keep_cell hb1 p2
  replace p3 := keep_cell hb1 p3
  have hq1 := (hb1.block _ hsW.out).trans hqh.out
  obtain ⟨⟨r0, r1, r2, r3, r4, r5, r6⟩, rf, rl⟩ := cells7 hq1
  have rf0 := rf 0
  have rf1 := rf 1
  have rf2 := rf 2
  have rf3 := rf 3
  have rf4 := rf 4
  have rf5 := rf 5
  have rf6 := rf 6
  obtain ⟨W8, hW8⟩ : ∃ W8, W8 = put7 w1 (w.heap.size + 1) (.int .i64 k) (.bool false) (.string ⟨#[]⟩) (.bool n1) (.slice a1 l1 c1) (.bool n2) (.slice a2 l2 c2) := ⟨_, rfl⟩
  have hq8 : Hid (W8.heap[w.heap.size + 1]? = some (.cells #[.int .i64 k, .bool false, .string ⟨#[]⟩, .bool n1, .slice a1 l1 c1, .bool n2, .slice a2 l2 c2] 32 (0, 0))) := by show _ = _; rw [hW8]; exact put7_at hq1
  have hB8 : Hid (Below w.heap.size w W8) := by
    show Below _ _ _
    rw [hW8]
    exact put7_below (hB.out.trans (hb1.mono (by have := hsW.out; omega))) (by omega)
  clear kS hb1 hq1 rf hqh
  go_wp2
  unfold put7 at hW8
  rw [← hW8]
  obtain ⟨⟨j0, j1, j2, j3, j4, j5, j6⟩, _, _⟩ := cells7 hq8.out
  exact bodyPost_ret (v := .tuple #[.agg #[.int .i64 k, .bool false, .string ⟨#[]⟩, .bool n1, .slice a1 l1 c1, .bool n2, .slice a2 l2 c2], .bool true]) (by simp [results, Tryz.results48, go_sem, j0, j1, j2, j3, j4, j5, j6]) rfl ⟨rfl, hB8.out⟩
set_option maxRecDepth 20000 in
set_option maxHeartbeats 2000000 in
theorem ofNumber_big {w : World} {v : Value} {k n d : Int} {m : Nat} (hv : Frac w v n d m) (hm : m ≤ 900) (hs1 : NSh n) :
    Calls Tryz.prog 48 #[.int .i64 k, v, .bool true] w fun e w' => e = .returned (.tuple #[cNone, .bool false]) ∧ Below w.heap.size w w' := by
  have hv' := hv
  obtain ⟨n1, a1, l1, c1, n2, a2, l2, c2, rfl, _, _⟩ := hv'
  obtain ⟨W0, hW0, hbW0, hlt0, ⟨p0, p1, p2, p3⟩, _, _⟩ := box4 w n1 a1 l1 c1 n2 a2 l2 c2
  obtain ⟨W, hW⟩ : ∃ W, W = W0.alloc (.cells #[.int .i64 0, .bool false, .string ⟨#[]⟩, .bool false, .slice none 0 0, .bool false, .slice none 0 0] 32) := ⟨_, rfl⟩
  have hs0 : W0.heap.size = w.heap.size + 1 := by rw [hW0]; simp
  have hbW : Below W0.heap.size W0 W := by rw [hW]; exact (Below.refl _ _).alloc (Nat.le_refl _) _
  have hq : W.heap[w.heap.size + 1]? = some (.cells #[.int .i64 0, .bool false, .string ⟨#[]⟩, .bool false, .slice none 0 0, .bool false, .slice none 0 0] 32 (0, 0)) := by rw [hW, ← hs0]; exact newAt _ _
  replace p0 := keep_cell hbW p0
  replace p1 := keep_cell hbW p1
  replace p2 := keep_cell hbW p2
  replace p3 := keep_cell hbW p3
  have kS : Hid (Calls Tryz.prog 96 #[.agg #[.bool n1, .slice a1 l1 c1, .bool n2, .slice a2 l2 c2]] W _) := isShort_big ((hv.next hbW0).next hbW) hm hs1
  have hvh : Hid (Frac w (.agg #[.bool n1, .slice a1 l1 c1, .bool n2, .slice a2 l2 c2]) n d m) := hv
  have hB : Hid (Below w.heap.size w W) := hbW0.trans (hbW.mono (by omega))
  have hqh : Hid (W.heap[w.heap.size + 1]? = _) := hq
  have hsW : Hid (w.heap.size + 1 < W.heap.size) := (Array.getElem?_eq_some_iff.1 hq).1
  clear hs1 hv hq hbW hbW0 hs0 hlt0
  go_enter Tryz.func48, Tryz.ntmps48
  go_upto_region 1 with fail
  rw [← hW0, ← hW]
  clear hW hW0
  go_wp2_with fail
  refine Calls.mono kS.out ?_
  rintro e w1 ⟨rfl, hb1⟩
  replace p0 := keep_cell hb1 p0
  replace p1 := keep_cell hb1 p1
  replace p2 := keep_cell hb1 p2
  replace p3 := keep_cell hb1 p3
  have hq1 := (hb1.block _ hsW.out).trans hqh.out
  obtain ⟨⟨r0, r1, r2, r3, r4, r5, r6⟩, rf, rl⟩ := cells7 hq1
  have rf0 := rf 0
  have rf1 := rf 1
  have rf2 := rf 2
  have rf3 := rf 3
  have rf4 := rf 4
  have rf5 := rf 5
  have rf6 := rf 6
  obtain ⟨W8, hW8⟩ : ∃ W8, W8 = put7 w1 (w.heap.size + 1) (.int .i64 0) (.bool false) (.string ⟨#[]⟩) (.bool false) (.slice none 0 0) (.bool false) (.slice none 0 0) := ⟨_, rfl⟩
  have hq8 : Hid (W8.heap[w.heap.size + 1]? = some (.cells #[.int .i64 0, .bool false, .string ⟨#[]⟩, .bool false, .slice none 0 0, .bool false, .slice none 0 0] 32 (0, 0))) := by show _ = _; rw [hW8]; exact put7_at hq1
  have hB8 : Hid (Below w.heap.size w W8) := by
    show Below _ _ _
    rw [hW8]
    exact put7_below (hB.out.trans (hb1.mono (by have := hsW.out; omega))) (by omega)
  clear kS hb1 hq1 rf hqh hvh
  go_wp2
  unfold put7 at hW8
  rw [← hW8]
  obtain ⟨⟨j0, j1, j2, j3, j4, j5, j6⟩, _, _⟩ := cells7 hq8.out
  exact bodyPost_ret (v := .tuple #[.agg #[.int .i64 0, .bool false, .string ⟨#[]⟩, .bool false, .slice none 0 0, .bool false, .slice none 0 0], .bool false]) (by simp [results, Tryz.results48, go_sem, j0, j1, j2, j3, j4, j5, j6]) rfl ⟨rfl, hB8.out⟩
theorem Sh_one : Sh 1 := fun L hL => by
  have := bits_short (y := 1) (m := 1) hL (by decide)
  omega
theorem binaryInt_ok {w : World} {u v : Value} {y z : Int} {m n : Nat} (s : ByteArray) (Z : Int) (K : Nat) (hK : K ≤ 430) (hsh : Sh Z) (hu : Num w u y m) (hv : Num w v z n)
    (hc : ∀ X, Below w.heap.size w X → Calls Tryz.prog 89 #[.string s, u, v] X fun e w' => ∃ t, e = .returned (.tuple #[t, .bool true]) ∧ OutE w' t Z K ∧ Below X.heap.size X w') :
    Calls Tryz.prog 43 #[.string s, u, v] w fun e w' => ∃ t B, e = .returned (.tuple #[t, .bool B]) ∧ FitP (some Z) (K + 4) w' t B ∧ Below w.heap.size w w' := by
  replace hsh : Hid (Sh Z) := hsh
  obtain ⟨nu, xu, lu, cu, rfl⟩ := hu.form
  obtain ⟨nv, xv, lv, cv, rfl⟩ := hv.form
  obtain ⟨W0, hW0⟩ : ∃ W0, W0 = w.alloc (.cells #[.bool nu, .slice xu lu cu] 28) := ⟨_, rfl⟩
  obtain ⟨W1, hW1⟩ : ∃ W1, W1 = W0.alloc (.cells #[.bool nv, .slice xv lv cv] 28) := ⟨_, rfl⟩
  obtain ⟨W, hW⟩ : ∃ W, W = W1.alloc (.cells #[.int .i64 0, .bool false, .string ⟨#[]⟩, .bool false, .slice none 0 0, .bool false, .slice none 0 0] 32) := ⟨_, rfl⟩
  have hs0 : W0.heap.size = w.heap.size + 1 := by rw [hW0]; simp
  have hs1 : W1.heap.size = w.heap.size + 1 + 1 := by rw [hW1]; simp [hs0]
  have hb0 : Below w.heap.size w W0 := by rw [hW0]; exact (Below.refl _ _).alloc (Nat.le_refl _) _
  have hb1 : Below W0.heap.size W0 W1 := by rw [hW1]; exact (Below.refl _ _).alloc (Nat.le_refl _) _
  have hb2 : Below W1.heap.size W1 W := by rw [hW]; exact (Below.refl _ _).alloc (Nat.le_refl _) _
  have hq0 : W.heap[w.heap.size]? = some (.cells #[.bool nu, .slice xu lu cu] 28 (0, 0)) := by rw [hb2.block _ (by omega), hb1.block _ (by omega), hW0]; exact newAt _ _
  have hq1 : W.heap[w.heap.size + 1]? = some (.cells #[.bool nv, .slice xv lv cv] 28 (0, 0)) := by rw [hb2.block _ (by omega), hW1, ← hs0]; exact newAt _ _
  have hq2 : W.heap[w.heap.size + 1 + 1]? = some (.cells #[.int .i64 0, .bool false, .string ⟨#[]⟩, .bool false, .slice none 0 0, .bool false, .slice none 0 0] 32 (0, 0)) := by rw [hW, ← hs1]; exact newAt _ _
  have hB : Hid (Below w.heap.size w W) := hb0.trans ((hb1.mono (by omega)).trans (hb2.mono (by omega)))
  obtain ⟨⟨p0, p1⟩, _, _⟩ := cells2 hq0
  obtain ⟨⟨q0, q1⟩, _, _⟩ := cells2 hq1
  have hsW : Hid (w.heap.size + 1 + 1 < W.heap.size) := (Array.getElem?_eq_some_iff.1 hq2).1
  have hqh : Hid (W.heap[w.heap.size + 1 + 1]? = some (.cells #[.int .i64 0, .bool false, .string ⟨#[]⟩, .bool false, .slice none 0 0, .bool false, .slice none 0 0] 32 (0, 0))) := hq2
  have huW := hu.next hB.out
  have hvW := hv.next hB.out
  have kA : Hid (Calls Tryz.prog 89 #[.string s, .agg #[.bool nu, .slice xu lu cu], .agg #[.bool nv, .slice xv lv cv]] W _) := hc W hB.out
  clear hu hv huW hvW hq0 hq1 hq2 hb0 hb1 hb2 hs0 hs1 hc
  go_enter Tryz.func43, Tryz.ntmps43
  go_upto_region 1 with fail
  rw [← hW0, ← hW1, ← hW]
  clear hW hW1 hW0
  go_wp2_with fail
  refine Calls.mono kA.out ?_
  clear kA
  rintro e w1 ⟨t, rfl, hO, hX1⟩
  obtain ⟨ng, a, l, c, rfl⟩ := hO.num.form
  obtain ⟨X, hXe⟩ : ∃ X, X = w1.alloc (.cells #[.bool ng, .slice a l c] 28) := ⟨_, rfl⟩
  have hbX : Below w1.heap.size w1 X := by rw [hXe]; exact (Below.refl _ _).alloc (Nat.le_refl _) _
  have hqX : X.heap[w1.heap.size]? = some (.cells #[.bool ng, .slice a l c] 28 (0, 0)) := by rw [hXe]; exact newAt _ _
  obtain ⟨⟨x0, x1⟩, _, xl⟩ := cells2 hqX
  have hbWX : Hid (Below W.heap.size W X) := hX1.trans (hbX.mono hX1.size)
  have kB : Hid (Calls Tryz.prog 70 #[.agg #[.bool ng, .slice a l c]] X _) := Whole_num (hO.num.next hbX) (by omega)
  clear hO hX1 hbX hqX p0 p1 q0 q1
  go_upto_region 2 with fail
  rw [← hXe]
  clear hXe
  obtain ⟨bx, hbx⟩ : ∃ bx, bx = w1.heap.size := ⟨_, rfl⟩
  rw [← hbx] at x0 x1 xl ⊢
  clear hbx
  go_wp2_with fail
  refine Calls.mono kB.out ?_
  clear kB
  rintro e w2 ⟨t, rfl, hL, hb2⟩
  obtain ⟨pp, qq, hF, hlow⟩ := hL
  have hF' := hF
  obtain ⟨n1, a1, l1, c1, n2, a2, l2, c2, rfl, _, _⟩ := hF'
  obtain ⟨rfl, rfl⟩ := low_whole hlow
  have kC : Hid (Calls Tryz.prog 48 #[.int .i64 3, .agg #[.bool n1, .slice a1 l1 c1, .bool n2, .slice a2 l2 c2], .bool true] w2 _) := ofNumber_idv (k := 3) hF.frac (by omega) hsh.out Sh_one
  have hFh : Hid (FracE w2 (.agg #[.bool n1, .slice a1 l1 c1, .bool n2, .slice a2 l2 c2]) pp 1 (K + 4)) := hF
  have hb2h : Hid (Below X.heap.size X w2) := hb2
  clear hF hlow hb2 x0 x1
  go_wp2_with fail
  refine Calls.mono kC.out ?_
  clear kC
  rintro e w3 ⟨rfl, hb3⟩
  have hFr : FracE w3 (.agg #[.bool n1, .slice a1 l1 c1, .bool n2, .slice a2 l2 c2]) pp 1 (K + 4) := hFh.out.next hb3
  have hX : Below W.heap.size W w3 := hbWX.out.trans ((hb2h.out.mono hbWX.out.size).trans (hb3.mono (by have := hbWX.out.size; have := hb2h.out.size; omega)))
  have hq1 := (hX.block _ hsW.out).trans hqh.out
  have hB1 : Hid (Below w.heap.size w w3) := hB.out.trans (hX.mono (by have := hsW.out; omega))
  obtain ⟨⟨r0, r1, r2, r3, r4, r5, r6⟩, rf, rl⟩ := cells7 hq1
  have rf0 := rf 0
  have rf1 := rf 1
  have rf2 := rf 2
  have rf3 := rf 3
  have rf4 := rf 4
  have rf5 := rf 5
  have rf6 := rf 6
  obtain ⟨W8, hW8⟩ : ∃ W8, W8 = put7 w3 (w.heap.size + 1 + 1) (.int .i64 3) (.bool false) (.string ⟨#[]⟩) (.bool n1) (.slice a1 l1 c1) (.bool n2) (.slice a2 l2 c2) := ⟨_, rfl⟩
  have hqW8 : Hid (W8.heap[w.heap.size + 1 + 1]? = some (.cells #[.int .i64 3, .bool false, .string ⟨#[]⟩, .bool n1, .slice a1 l1 c1, .bool n2, .slice a2 l2 c2] 32 (0, 0))) := by show _ = _; rw [hW8]; exact put7_at hq1
  have hBW8 : Hid (Below w.heap.size w W8) := by
    show Below _ _ _
    rw [hW8]
    exact put7_below hB1.out (by omega)
  have hC8 : Hid (CIE W8 (.agg #[.int .i64 3, .bool false, .string ⟨#[]⟩, .bool n1, .slice a1 l1 c1, .bool n2, .slice a2 l2 c2]) pp (K + 4)) := by
    refine ⟨_, _, _, _, _, _, _, _, rfl, ?_⟩
    rw [hW8]
    exact fracE_put7 hFr hq1
  clear hFh hq1 rf hb3 hX hFr hqh hB hB1 hb2h hbWX
  go_wp2
  unfold put7 at hW8
  rw [← hW8]
  obtain ⟨⟨j0, j1, j2, j3, j4, j5, j6⟩, _, _⟩ := cells7 hqW8.out
  exact bodyPost_ret (v := .tuple #[.agg #[.int .i64 3, .bool false, .string ⟨#[]⟩, .bool n1, .slice a1 l1 c1, .bool n2, .slice a2 l2 c2], .bool true]) (by simp [results, Tryz.results43, go_sem, j0, j1, j2, j3, j4, j5, j6]) rfl ⟨_, _, rfl, ⟨rfl, hC8.out⟩, hBW8.out⟩
theorem binaryInt_big {w : World} {u v : Value} {y z : Int} {m n : Nat} (s : ByteArray) (Z : Int) (K : Nat) (hK : K ≤ 430) (hsh : NSh Z) (hu : Num w u y m) (hv : Num w v z n)
    (hc : ∀ X, Below w.heap.size w X → Calls Tryz.prog 89 #[.string s, u, v] X fun e w' => ∃ t, e = .returned (.tuple #[t, .bool true]) ∧ OutE w' t Z K ∧ Below X.heap.size X w') :
    Calls Tryz.prog 43 #[.string s, u, v] w fun e w' => ∃ t B, e = .returned (.tuple #[t, .bool B]) ∧ FitP none (K + 4) w' t B ∧ Below w.heap.size w w' := by
  replace hsh : Hid (NSh Z) := hsh
  obtain ⟨nu, xu, lu, cu, rfl⟩ := hu.form
  obtain ⟨nv, xv, lv, cv, rfl⟩ := hv.form
  obtain ⟨W0, hW0⟩ : ∃ W0, W0 = w.alloc (.cells #[.bool nu, .slice xu lu cu] 28) := ⟨_, rfl⟩
  obtain ⟨W1, hW1⟩ : ∃ W1, W1 = W0.alloc (.cells #[.bool nv, .slice xv lv cv] 28) := ⟨_, rfl⟩
  obtain ⟨W, hW⟩ : ∃ W, W = W1.alloc (.cells #[.int .i64 0, .bool false, .string ⟨#[]⟩, .bool false, .slice none 0 0, .bool false, .slice none 0 0] 32) := ⟨_, rfl⟩
  have hs0 : W0.heap.size = w.heap.size + 1 := by rw [hW0]; simp
  have hs1 : W1.heap.size = w.heap.size + 1 + 1 := by rw [hW1]; simp [hs0]
  have hb0 : Below w.heap.size w W0 := by rw [hW0]; exact (Below.refl _ _).alloc (Nat.le_refl _) _
  have hb1 : Below W0.heap.size W0 W1 := by rw [hW1]; exact (Below.refl _ _).alloc (Nat.le_refl _) _
  have hb2 : Below W1.heap.size W1 W := by rw [hW]; exact (Below.refl _ _).alloc (Nat.le_refl _) _
  have hq0 : W.heap[w.heap.size]? = some (.cells #[.bool nu, .slice xu lu cu] 28 (0, 0)) := by rw [hb2.block _ (by omega), hb1.block _ (by omega), hW0]; exact newAt _ _
  have hq1 : W.heap[w.heap.size + 1]? = some (.cells #[.bool nv, .slice xv lv cv] 28 (0, 0)) := by rw [hb2.block _ (by omega), hW1, ← hs0]; exact newAt _ _
  have hq2 : W.heap[w.heap.size + 1 + 1]? = some (.cells #[.int .i64 0, .bool false, .string ⟨#[]⟩, .bool false, .slice none 0 0, .bool false, .slice none 0 0] 32 (0, 0)) := by rw [hW, ← hs1]; exact newAt _ _
  have hB : Hid (Below w.heap.size w W) := hb0.trans ((hb1.mono (by omega)).trans (hb2.mono (by omega)))
  obtain ⟨⟨p0, p1⟩, _, _⟩ := cells2 hq0
  obtain ⟨⟨q0, q1⟩, _, _⟩ := cells2 hq1
  have hsW : Hid (w.heap.size + 1 + 1 < W.heap.size) := (Array.getElem?_eq_some_iff.1 hq2).1
  have hqh : Hid (W.heap[w.heap.size + 1 + 1]? = some (.cells #[.int .i64 0, .bool false, .string ⟨#[]⟩, .bool false, .slice none 0 0, .bool false, .slice none 0 0] 32 (0, 0))) := hq2
  have huW := hu.next hB.out
  have hvW := hv.next hB.out
  have kA : Hid (Calls Tryz.prog 89 #[.string s, .agg #[.bool nu, .slice xu lu cu], .agg #[.bool nv, .slice xv lv cv]] W _) := hc W hB.out
  clear hu hv huW hvW hq0 hq1 hq2 hb0 hb1 hb2 hs0 hs1 hc
  go_enter Tryz.func43, Tryz.ntmps43
  go_upto_region 1 with fail
  rw [← hW0, ← hW1, ← hW]
  clear hW hW1 hW0
  go_wp2_with fail
  refine Calls.mono kA.out ?_
  clear kA
  rintro e w1 ⟨t, rfl, hO, hX1⟩
  obtain ⟨ng, a, l, c, rfl⟩ := hO.num.form
  obtain ⟨X, hXe⟩ : ∃ X, X = w1.alloc (.cells #[.bool ng, .slice a l c] 28) := ⟨_, rfl⟩
  have hbX : Below w1.heap.size w1 X := by rw [hXe]; exact (Below.refl _ _).alloc (Nat.le_refl _) _
  have hqX : X.heap[w1.heap.size]? = some (.cells #[.bool ng, .slice a l c] 28 (0, 0)) := by rw [hXe]; exact newAt _ _
  obtain ⟨⟨x0, x1⟩, _, xl⟩ := cells2 hqX
  have hbWX : Hid (Below W.heap.size W X) := hX1.trans (hbX.mono hX1.size)
  have kB : Hid (Calls Tryz.prog 70 #[.agg #[.bool ng, .slice a l c]] X _) := Whole_num (hO.num.next hbX) (by omega)
  clear hO hX1 hbX hqX p0 p1 q0 q1
  go_upto_region 2 with fail
  rw [← hXe]
  clear hXe
  obtain ⟨bx, hbx⟩ : ∃ bx, bx = w1.heap.size := ⟨_, rfl⟩
  rw [← hbx] at x0 x1 xl ⊢
  clear hbx
  go_wp2_with fail
  refine Calls.mono kB.out ?_
  clear kB
  rintro e w2 ⟨t, rfl, hL, hb2⟩
  obtain ⟨pp, qq, hF, hlow⟩ := hL
  have hF' := hF
  obtain ⟨n1, a1, l1, c1, n2, a2, l2, c2, rfl, _, _⟩ := hF'
  obtain ⟨rfl, rfl⟩ := low_whole hlow
  have kC : Hid (Calls Tryz.prog 48 #[.int .i64 3, .agg #[.bool n1, .slice a1 l1 c1, .bool n2, .slice a2 l2 c2], .bool true] w2 _) := ofNumber_big (k := 3) hF.frac (by omega) hsh.out
  have hb2h : Hid (Below X.heap.size X w2) := hb2
  clear hF hlow hb2 x0 x1
  go_wp2_with fail
  refine Calls.mono kC.out ?_
  clear kC
  rintro e w3 ⟨he, hb3⟩
  unfold cNone at he
  subst he
  have hX : Below W.heap.size W w3 := hbWX.out.trans ((hb2h.out.mono hbWX.out.size).trans (hb3.mono (by have := hbWX.out.size; have := hb2h.out.size; omega)))
  have hq1 := (hX.block _ hsW.out).trans hqh.out
  have hB1 : Hid (Below w.heap.size w w3) := hB.out.trans (hX.mono (by have := hsW.out; omega))
  obtain ⟨⟨r0, r1, r2, r3, r4, r5, r6⟩, rf, rl⟩ := cells7 hq1
  have rf0 := rf 0
  have rf1 := rf 1
  have rf2 := rf 2
  have rf3 := rf 3
  have rf4 := rf 4
  have rf5 := rf 5
  have rf6 := rf 6
  obtain ⟨W8, hW8⟩ : ∃ W8, W8 = put7 w3 (w.heap.size + 1 + 1) (.int .i64 0) (.bool false) (.string ⟨#[]⟩) (.bool false) (.slice none 0 0) (.bool false) (.slice none 0 0) := ⟨_, rfl⟩
  have hqW8 : Hid (W8.heap[w.heap.size + 1 + 1]? = some (.cells #[.int .i64 0, .bool false, .string ⟨#[]⟩, .bool false, .slice none 0 0, .bool false, .slice none 0 0] 32 (0, 0))) := by show _ = _; rw [hW8]; exact put7_at hq1
  have hBW8 : Hid (Below w.heap.size w W8) := by
    show Below _ _ _
    rw [hW8]
    exact put7_below hB1.out (by omega)
  clear hq1 rf hb3 hX hqh hB hB1 hb2h hbWX
  go_wp2
  unfold put7 at hW8
  rw [← hW8]
  obtain ⟨⟨j0, j1, j2, j3, j4, j5, j6⟩, _, _⟩ := cells7 hqW8.out
  exact bodyPost_ret (v := .tuple #[.agg #[.int .i64 0, .bool false, .string ⟨#[]⟩, .bool false, .slice none 0 0, .bool false, .slice none 0 0], .bool false]) (by simp [results, Tryz.results43, go_sem, j0, j1, j2, j3, j4, j5, j6]) rfl ⟨_, _, rfl, ⟨rfl, rfl⟩, hBW8.out⟩
set_option maxRecDepth 20000 in
set_option maxHeartbeats 2000000 in
theorem Binary_fit {w : World} {n1 : Bool} {a1 : Option Addr} {l1 c1 : Nat} {n2 : Bool} {a2 : Option Addr} {l2 c2 : Nat} {m1 : Bool} {b1 : Option Addr} {k1 d1 : Nat} {m2 : Bool} {b2 : Option Addr} {k2 d2 : Nat} {n d n' d' y z : Int} {m : Nat} (s : ByteArray) (zz : Option Int) (M : Nat) (hm : m ≤ 240)
    (hF : Frac w (.agg #[.bool n1, .slice a1 l1 c1, .bool n2, .slice a2 l2 c2]) n d m) (hG : Frac w (.agg #[.bool m1, .slice b1 k1 d1, .bool m2, .slice b2 k2 d2]) n' d' m) (hy : pN n d = y * pD d) (hz : pN n' d' = z * pD d')
    (hc : ∀ (X : World) (a b : Value), Num X a y (m + 3) → Num X b z (m + 3) → Calls Tryz.prog 43 #[.string s, a, b] X fun e w' => ∃ t B, e = .returned (.tuple #[t, .bool B]) ∧ FitP zz M w' t B ∧ Below X.heap.size X w') :
    Calls Tryz.prog 16 #[.string s, .agg #[.int .i64 3, .bool false, .string ⟨#[]⟩, .bool n1, .slice a1 l1 c1, .bool n2, .slice a2 l2 c2], .agg #[.int .i64 3, .bool false, .string ⟨#[]⟩, .bool m1, .slice b1 k1 d1, .bool m2, .slice b2 k2 d2]] w fun e w' => ∃ t B, e = .returned (.tuple #[t, .bool B]) ∧ FitP zz M w' t B ∧ Below w.heap.size w w' := by
  have hwA : (pN n d).tmod (pD d) = 0 := by rw [hy]; exact Int.mul_tmod_left _ _
  have hwB : (pN n' d').tmod (pD d') = 0 := by rw [hz]; exact Int.mul_tmod_left _ _
  have hyA : (pN n d).tdiv (pD d) = y := by rw [hy]; exact Int.mul_tdiv_cancel _ (by have := pD_pos d; omega)
  have hzB : (pN n' d').tdiv (pD d') = z := by rw [hz]; exact Int.mul_tdiv_cancel _ (by have := pD_pos d'; omega)
  obtain ⟨W, hW, hq4, hq5, hq6, hbW, hsz⟩ := three_new (w := w) (A := .cells #[.int .i64 3, .bool false, .string ⟨#[]⟩, .bool n1, .slice a1 l1 c1, .bool n2, .slice a2 l2 c2] 32) (B := .cells #[.int .i64 3, .bool false, .string ⟨#[]⟩, .bool m1, .slice b1 k1 d1, .bool m2, .slice b2 k2 d2] 32) (C := .cells #[.int .i64 0, .bool false, .string ⟨#[]⟩, .bool false, .slice none 0 0, .bool false, .slice none 0 0] 32)
  have hFW := hF.next hbW
  have hGW := hG.next hbW
  have kA : Hid (∀ X, Below W.heap.size W X → Calls Tryz.prog 41 #[.agg #[.int .i64 3, .bool false, .string ⟨#[]⟩, .bool n1, .slice a1 l1 c1, .bool n2, .slice a2 l2 c2]] X fun e w' => e = .returned (.agg #[.int .i64 3, .bool false, .string ⟨#[]⟩, .bool n1, .slice a1 l1 c1, .bool n2, .slice a2 l2 c2]) ∧ Below X.heap.size X w') := fun X hX => admit_int (hFW.next hX) (by omega) hwA
  have kB : Hid (∀ X, Below W.heap.size W X → Calls Tryz.prog 41 #[.agg #[.int .i64 3, .bool false, .string ⟨#[]⟩, .bool m1, .slice b1 k1 d1, .bool m2, .slice b2 k2 d2]] X fun e w' => e = .returned (.agg #[.int .i64 3, .bool false, .string ⟨#[]⟩, .bool m1, .slice b1 k1 d1, .bool m2, .slice b2 k2 d2]) ∧ Below X.heap.size X w') := fun X hX => admit_int (hGW.next hX) (by omega) hwB
  have hcuts : Hid (Frac W (.agg #[.bool n1, .slice a1 l1 c1, .bool n2, .slice a2 l2 c2]) n d m ∧ Frac W (.agg #[.bool m1, .slice b1 k1 d1, .bool m2, .slice b2 k2 d2]) n' d' m ∧ Below w.heap.size w W ∧ W.heap.size = w.heap.size + 1 + 1 + 1) := ⟨hFW, hGW, hbW, hsz⟩
  obtain ⟨⟨p0, p1, p2, p3, p4, p5, p6⟩, pf, _⟩ := cells7 hq4
  obtain ⟨⟨q0, q1, q2, q3, q4, q5, q6⟩, qf, _⟩ := cells7 hq5
  have hq4h : Hid (W.heap[w.heap.size]? = some (.cells #[.int .i64 3, .bool false, .string ⟨#[]⟩, .bool n1, .slice a1 l1 c1, .bool n2, .slice a2 l2 c2] 32 (0, 0))) := hq4
  have hq5h : Hid (W.heap[w.heap.size + 1]? = some (.cells #[.int .i64 3, .bool false, .string ⟨#[]⟩, .bool m1, .slice b1 k1 d1, .bool m2, .slice b2 k2 d2] 32 (0, 0))) := hq5
  have hq6h : Hid (W.heap[w.heap.size + 1 + 1]? = some (.cells #[.int .i64 0, .bool false, .string ⟨#[]⟩, .bool false, .slice none 0 0, .bool false, .slice none 0 0] 32 (0, 0))) := hq6
  have hch : Hid (∀ (X : World) (a b : Value), Num X a y (m + 3) → Num X b z (m + 3) → Calls Tryz.prog 43 #[.string s, a, b] X fun e w' => ∃ t B, e = .returned (.tuple #[t, .bool B]) ∧ FitP zz M w' t B ∧ Below X.heap.size X w') := hc
  have hwh : Hid ((pN n d).tmod (pD d) = 0 ∧ (pN n' d').tmod (pD d') = 0 ∧ (pN n d).tdiv (pD d) = y ∧ (pN n' d').tdiv (pD d') = z) := ⟨hwA, hwB, hyA, hzB⟩
  have hdh : Hid (Below W.heap.size W W.drew) := (Below.refl _ _).drew
  clear hF hG hy hz hc hwA hwB hyA hzB hq4 hq5 hq6 hbW hsz hFW hGW pf qf
  go_enter Tryz.func16, Tryz.ntmps16
  go_upto_region 1 with fail
  rw [← hW]
  clear hW
  obtain ⟨r, hr⟩ : ∃ r, r = w.heap.size := ⟨_, rfl⟩
  have hrh : Hid (r = w.heap.size) := hr
  rw [← hr] at p0 q0 p1 q1 p2 q2 p3 q3 p4 q4 p5 q5 p6 q6 hq4h hq5h hq6h ⊢
  clear hr
  go_cut [13] from 10 to 13 (fun _ wx => Hid (Two w r #[.int .i64 3, .bool false, .string ⟨#[]⟩, .bool n1, .slice a1 l1 c1, .bool n2, .slice a2 l2 c2] #[.int .i64 3, .bool false, .string ⟨#[]⟩, .bool m1, .slice b1 k1 d1, .bool m2, .slice b2 k2 d2] (.agg #[.bool n1, .slice a1 l1 c1, .bool n2, .slice a2 l2 c2]) (.agg #[.bool m1, .slice b1 k1 d1, .bool m2, .slice b2 k2 d2]) n d n' d' m wx))
  case first =>
    go_region_with (first
      | (go_at_call 41; refine Calls.mono (kA.out _ hdh.out) ?_; rintro e w5 ⟨rfl, hb5⟩; clear kA
         replace hb5 : Below W.heap.size W w5 := hdh.out.trans hb5
         replace q0 := keep_cell hb5 q0; replace q1 := keep_cell hb5 q1; replace q2 := keep_cell hb5 q2; replace q3 := keep_cell hb5 q3; replace q4 := keep_cell hb5 q4; replace q5 := keep_cell hb5 q5; replace q6 := keep_cell hb5 q6
         have hb5h : Hid (Below W.heap.size W w5) := hb5
         clear hb5)
      | (go_at_call 41; refine Calls.mono (kB.out _ hb5h.out) ?_; rintro e w6 ⟨rfl, hb6⟩; clear kB
         have hb6h : Hid (Below W.heap.size W w6) := hb5h.out.trans (hb6.mono hb5h.out.size)
         have hqA : w6.heap[r]? = _ := (hb6h.out.block r (by have := hcuts.out.2.2.2; have := hrh.out; omega)).trans hq4h.out
         have hqB : w6.heap[r + 1]? = _ := (hb6h.out.block (r + 1) (by have := hcuts.out.2.2.2; have := hrh.out; omega)).trans hq5h.out
         obtain ⟨⟨u0, u1, u2, u3, u4, u5, u6⟩, uf, _⟩ := cells7 hqA
         obtain ⟨⟨v0, v1, v2, v3, v4, v5, v6⟩, vf, _⟩ := cells7 hqB
         have uf0 := uf 0; have uf1 := uf 1; have uf2 := uf 2; have uf3 := uf 3; have uf4 := uf 4; have uf5 := uf 5; have uf6 := uf 6
         have vf0 := vf 0; have vf1 := vf 1; have vf2 := vf 2; have vf3 := vf 3; have vf4 := vf 4; have vf5 := vf 5; have vf6 := vf 6
         clear hb6 hqA hqB uf vf))
    all_goals
      go_wp2_with fail
      go_meet
      case rel =>
        have hs := hcuts.out.2.2.2
        have hr' := hrh.out
        have h6 := hb6h.out
        have s6 := h6.size
        have hqA : w6.heap[r]? = some (.cells #[.int .i64 3, .bool false, .string ⟨#[]⟩, .bool n1, .slice a1 l1 c1, .bool n2, .slice a2 l2 c2] 32 (0, 0)) := (h6.block r (by omega)).trans hq4h.out
        have hqB : w6.heap[r + 1]? = some (.cells #[.int .i64 3, .bool false, .string ⟨#[]⟩, .bool m1, .slice b1 k1 d1, .bool m2, .slice b2 k2 d2] 32 (0, 0)) := (h6.block (r + 1) (by omega)).trans hq5h.out
        have hqC : w6.heap[r + 1 + 1]? = some (.cells #[.int .i64 0, .bool false, .string ⟨#[]⟩, .bool false, .slice none 0 0, .bool false, .slice none 0 0] 32 (0, 0)) := (h6.block (r + 1 + 1) (by omega)).trans hq6h.out
        have hT : Two w r #[.int .i64 3, .bool false, .string ⟨#[]⟩, .bool n1, .slice a1 l1 c1, .bool n2, .slice a2 l2 c2] #[.int .i64 3, .bool false, .string ⟨#[]⟩, .bool m1, .slice b1 k1 d1, .bool m2, .slice b2 k2 d2] (.agg #[.bool n1, .slice a1 l1 c1, .bool n2, .slice a2 l2 c2]) (.agg #[.bool m1, .slice b1 k1 d1, .bool m2, .slice b2 k2 d2]) n d n' d' m (put7 (put7 w6 r (.int .i64 3) (.bool false) (.string ⟨#[]⟩) (.bool n1) (.slice a1 l1 c1) (.bool n2) (.slice a2 l2 c2)) (r + 1) (.int .i64 3) (.bool false) (.string ⟨#[]⟩) (.bool m1) (.slice b1 k1 d1) (.bool m2) (.slice b2 k2 d2)) := by
          have cA : CBox w6 r := ⟨_, _, _, _, _, _, _, _, _, _, _, hqA⟩
          have cB : ∀ {x0 x1 x2 x3 x4 x5 x6 : Value}, CBox (put7 w6 r x0 x1 x2 x3 x4 x5 x6) (r + 1) := ⟨_, _, _, _, _, _, _, _, _, _, _, (put7_same (by omega)).trans hqB⟩
          refine ⟨(put7_same (by omega)).trans (put7_at hqA), put7_at ((put7_same (by omega)).trans hqB), (put7_same (by omega)).trans ((put7_same (by omega)).trans hqC), frac_put7 cB (frac_put7 cA (hcuts.out.1.next h6)), frac_put7 cB (frac_put7 cA (hcuts.out.2.1.next h6)), ?_⟩
          have hb := hcuts.out.2.2.1
          rw [← hr'] at hb
          exact put7_below (put7_below (hb.trans (h6.mono (by omega))) (Nat.le_refl _)) (by omega)
        unfold put7 at hT
        exact hT
  case rest =>
    obtain ⟨hq4, hq5, hq6, hF, hG, hb⟩ := hcut.out
    clear hcut
    obtain ⟨⟨x0, x1, x2, x3, x4, x5, x6⟩, xf, _⟩ := cells7 hq4
    obtain ⟨⟨y0, y1, y2, y3, y4, y5, y6⟩, yf, _⟩ := cells7 hq5
    have kK : Hid (Calls Tryz.prog 49 #[.agg #[.int .i64 3, .bool false, .string ⟨#[]⟩, .bool n1, .slice a1 l1 c1, .bool n2, .slice a2 l2 c2], .agg #[.int .i64 3, .bool false, .string ⟨#[]⟩, .bool m1, .slice b1 k1 d1, .bool m2, .slice b2 k2 d2]] wc _) := commonKind_int
    have hl6 : r + 1 + 1 < wc.heap.size := (Array.getElem?_eq_some_iff.1 hq6).1
    have hall : Hid (wc.heap[r]? = some (.cells #[.int .i64 3, .bool false, .string ⟨#[]⟩, .bool n1, .slice a1 l1 c1, .bool n2, .slice a2 l2 c2] 32 (0, 0)) ∧ wc.heap[r + 1]? = some (.cells #[.int .i64 3, .bool false, .string ⟨#[]⟩, .bool m1, .slice b1 k1 d1, .bool m2, .slice b2 k2 d2] 32 (0, 0)) ∧ wc.heap[r + 1 + 1]? = some (.cells #[.int .i64 0, .bool false, .string ⟨#[]⟩, .bool false, .slice none 0 0, .bool false, .slice none 0 0] 32 (0, 0)) ∧ Frac wc (.agg #[.bool n1, .slice a1 l1 c1, .bool n2, .slice a2 l2 c2]) n d m ∧ Frac wc (.agg #[.bool m1, .slice b1 k1 d1, .bool m2, .slice b2 k2 d2]) n' d' m ∧ Below r w wc ∧ r + 1 + 1 < wc.heap.size) := ⟨hq4, hq5, hq6, hF, hG, hb, hl6⟩
    clear hq4 hq5 hq6 hF hG hb hl6 xf yf hcuts hq4h hq5h hq6h hdh kA kB p0 q0 p1 q1 p2 q2 p3 q3 p4 q4 p5 q5 p6 q6
    go_wp2_with fail
    refine Calls.mono kK.out ?_
    clear kK
    rintro e w1 ⟨rfl, hb1⟩
    have hb1h : Hid (Below wc.heap.size wc w1) := hb1
    replace x0 := keep_cell hb1 x0
    replace x1 := keep_cell hb1 x1
    replace x2 := keep_cell hb1 x2
    replace x3 := keep_cell hb1 x3
    replace x4 := keep_cell hb1 x4
    replace x5 := keep_cell hb1 x5
    replace x6 := keep_cell hb1 x6
    replace y0 := keep_cell hb1 y0
    replace y1 := keep_cell hb1 y1
    replace y2 := keep_cell hb1 y2
    replace y3 := keep_cell hb1 y3
    replace y4 := keep_cell hb1 y4
    replace y5 := keep_cell hb1 y5
    replace y6 := keep_cell hb1 y6
    have hdh : Hid (Below w1.heap.size w1 w1.drew) := (Below.refl _ _).drew
    have kA : Hid (∀ X, Below w1.heap.size w1 X → Calls Tryz.prog 45 #[.agg #[.int .i64 3, .bool false, .string ⟨#[]⟩, .bool n1, .slice a1 l1 c1, .bool n2, .slice a2 l2 c2]] X fun e w' => ∃ t, e = .returned t ∧ OutE w' t y (m + 3) ∧ Below X.heap.size X w') := fun X hX => by
      have h := wholeOf_int ((hall.out.2.2.2.1.next hb1).next hX) (by omega) hwh.out.1
      rw [hwh.out.2.2.1] at h
      exact h
    have kB : Hid (∀ X, Below w1.heap.size w1 X → Calls Tryz.prog 45 #[.agg #[.int .i64 3, .bool false, .string ⟨#[]⟩, .bool m1, .slice b1 k1 d1, .bool m2, .slice b2 k2 d2]] X fun e w' => ∃ t, e = .returned t ∧ OutE w' t z (m + 3) ∧ Below X.heap.size X w') := fun X hX => by
      have h := wholeOf_int ((hall.out.2.2.2.2.1.next hb1).next hX) (by omega) hwh.out.2.1
      rw [hwh.out.2.2.2] at h
      exact h
    clear hb1
    go_upto_region 8 with fail
    go_region_with (first
      | (go_at_call 45; refine Calls.mono (kA.out _ hdh.out) ?_; rintro e w5 ⟨t1, rfl, hO1, hb5⟩; clear kA
         replace hb5 : Below w1.heap.size w1 w5 := hdh.out.trans hb5
         obtain ⟨g1, f1, e1, h1, rfl⟩ := hO1.num.form
         replace y0 := keep_cell hb5 y0; replace y1 := keep_cell hb5 y1; replace y2 := keep_cell hb5 y2; replace y3 := keep_cell hb5 y3; replace y4 := keep_cell hb5 y4; replace y5 := keep_cell hb5 y5; replace y6 := keep_cell hb5 y6
         have hO1h : Hid (OutE w5 (.agg #[.bool g1, .slice f1 e1 h1]) y (m + 3)) := hO1
         have hb5h : Hid (Below w1.heap.size w1 w5) := hb5
         clear hb5 hO1)
      | (go_at_call 45; refine Calls.mono (kB.out _ hb5h.out) ?_; rintro e w6 ⟨t2, rfl, hO2, hb6⟩; clear kB
         obtain ⟨g2, f2, e2, h2, rfl⟩ := hO2.num.form
         have hb6h : Hid (Below w1.heap.size w1 w6) := hb5h.out.trans (hb6.mono hb5h.out.size)
         have kC : Hid (Calls Tryz.prog 43 #[.string s, .agg #[.bool g1, .slice f1 e1 h1], .agg #[.bool g2, .slice f2 e2 h2]] w6 fun e w' => ∃ t B, e = .returned (.tuple #[t, .bool B]) ∧ FitP zz M w' t B ∧ Below w6.heap.size w6 w') := hch.out w6 _ _ (hO1h.out.next hb6).num hO2.num
         clear hb6 hO2 hO1h)
      | (go_at_call 43; refine Calls.mono kC.out ?_; rintro e w7 ⟨t3, B7, rfl, hP7, hb7⟩; clear kC
         obtain ⟨i0, i5, i6, i1, i2, i3, i4, o1, o2, o3, o4, rfl⟩ := hP7.form
         have hb7h : Hid (Below w1.heap.size w1 w7) := hb6h.out.trans (hb7.mono hb6h.out.size)
         have hbc : Hid (Below wc.heap.size wc w7) := hb1h.out.trans (hb7h.out.mono hb1h.out.size)
         have hqC : w7.heap[r + 1 + 1]? = _ := (hbc.out.block _ hall.out.2.2.2.2.2.2).trans hall.out.2.2.1
         obtain ⟨⟨u0, u1, u2, u3, u4, u5, u6⟩, uf, _⟩ := cells7 hqC
         have uf0 := uf 0; have uf1 := uf 1; have uf2 := uf 2; have uf3 := uf 3; have uf4 := uf 4; have uf5 := uf 5; have uf6 := uf 6
         have hPh : Hid (FitP zz M w7 (.agg #[.int .i64 i0, .bool i5, .string i6, .bool i1, .slice i2 i3 i4, .bool o1, .slice o2 o3 o4]) B7) := hP7
         clear hb7 hqC uf hP7))
    all_goals
      have hqC : w7.heap[r + 1 + 1]? = some (.cells #[.int .i64 0, .bool false, .string ⟨#[]⟩, .bool false, .slice none 0 0, .bool false, .slice none 0 0] 32 (0, 0)) := (hbc.out.block _ hall.out.2.2.2.2.2.2).trans hall.out.2.2.1
      obtain ⟨W8, hW8⟩ : ∃ W8, W8 = put7 w7 (r + 1 + 1) (.int .i64 i0) (.bool i5) (.string i6) (.bool i1) (.slice i2 i3 i4) (.bool o1) (.slice o2 o3 o4) := ⟨_, rfl⟩
      have hq8 : Hid (W8.heap[r + 1 + 1]? = some (.cells #[.int .i64 i0, .bool i5, .string i6, .bool i1, .slice i2 i3 i4, .bool o1, .slice o2 o3 o4] 32 (0, 0))) := by show _ = _; rw [hW8]; exact put7_at hqC
      have hB8 : Hid (Below w.heap.size w W8) := by
        show Below _ _ _
        rw [hW8, ← hrh.out]
        exact put7_below (hall.out.2.2.2.2.2.1.trans (hbc.out.mono (by have := hall.out.2.2.2.2.2.2; omega))) (by omega)
      have hC8 : Hid (FitP zz M W8 (.agg #[.int .i64 i0, .bool i5, .string i6, .bool i1, .slice i2 i3 i4, .bool o1, .slice o2 o3 o4]) B7) := by
        show FitP _ _ _ _ _
        rw [hW8]
        exact fitP_put7 hPh.out hqC
      clear hqC hPh hall
      go_wp2
      unfold put7 at hW8
      rw [← hW8]
      obtain ⟨⟨j0, j1, j2, j3, j4, j5, j6⟩, _, _⟩ := cells7 hq8.out
      exact bodyPost_ret (v := .tuple #[.agg #[.int .i64 i0, .bool i5, .string i6, .bool i1, .slice i2 i3 i4, .bool o1, .slice o2 o3 o4], .bool B7]) (by simp [results, Tryz.results16, go_sem, j0, j1, j2, j3, j4, j5, j6]) rfl ⟨_, _, rfl, hC8.out, hB8.out⟩
end Go.Proofs.YtclokcoimdjaeaaGreatDoor
