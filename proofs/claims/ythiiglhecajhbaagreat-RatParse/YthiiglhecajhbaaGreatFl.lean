/- A fraction in lowest terms. -/
import Derived.Test.YthiiglhecajhbaaGreatFg
namespace Go.Proofs.YthiiglhecajhbaaGreat
set_option linter.unusedVariables false
open Go.RowKit
attribute [local go_sem ↓] Go.wp_at_zero Go.wp_at_succ
/-- p over q is n over d in lowest terms. -/
def Low (n d p q : Int) : Prop := 0 < q ∧ Nat.gcd p.natAbs q.natAbs = 1 ∧ p * d = n * q
theorem low_of {n d : Int} (hd : 0 < d) : Low n d (n.tdiv (Nat.gcd n.natAbs d.natAbs : Nat)) (d.tdiv (Nat.gcd n.natAbs d.natAbs : Nat)) ∧ (0 : Int) < (Nat.gcd n.natAbs d.natAbs : Nat) := by
  have hg : 0 < Nat.gcd n.natAbs d.natAbs := Nat.gcd_pos_of_pos_right _ (by omega)
  obtain ⟨a, ha⟩ : ((Nat.gcd n.natAbs d.natAbs : Nat) : Int) ∣ n := Int.ofNat_dvd_left.2 (Nat.gcd_dvd_left _ _)
  obtain ⟨b, hb⟩ : ((Nat.gcd n.natAbs d.natAbs : Nat) : Int) ∣ d := Int.ofNat_dvd_left.2 (Nat.gcd_dvd_right _ _)
  have hco := Nat.gcd_div (Nat.gcd_dvd_left n.natAbs d.natAbs) (Nat.gcd_dvd_right n.natAbs d.natAbs)
  rw [Nat.div_self hg] at hco
  generalize hG : Nat.gcd n.natAbs d.natAbs = G at *
  have e1 : n.tdiv (G : Int) = a := by rw [ha, Int.mul_comm, Int.mul_tdiv_cancel _ (by omega)]
  have e2 : d.tdiv (G : Int) = b := by rw [hb, Int.mul_comm, Int.mul_tdiv_cancel _ (by omega)]
  have e3 : n.natAbs / G = a.natAbs := by rw [ha, Int.natAbs_mul, Int.natAbs_natCast, Nat.mul_div_cancel_left _ hg]
  have e4 : d.natAbs / G = b.natAbs := by rw [hb, Int.natAbs_mul, Int.natAbs_natCast, Nat.mul_div_cancel_left _ hg]
  rw [e1, e2]
  refine ⟨⟨?_, by rw [← e3, ← e4]; exact hco, ?_⟩, by omega⟩
  · by_cases h : 0 < b
    · exact h
    · have := Int.mul_le_mul_of_nonneg_left (show b ≤ 0 by omega) (show (0 : Int) ≤ (G : Int) by omega)
      omega
  · rw [ha, hb]; grind
theorem tdiv_le (n : Int) (g : Nat) (hg : 0 < g) : (n.tdiv (g : Int)).natAbs ≤ n.natAbs := by
  rw [Int.natAbs_tdiv, Int.natAbs_natCast]
  exact Nat.div_le_self _ _
theorem Box4.new (w : World) (m1 : Bool) (a1 : Option Addr) (l1 c1 : Nat) (m2 : Bool) (a2 : Option Addr) (l2 c2 : Nat) (T : TypeId) (hT : T ≠ 74) : Box4 (w.alloc (.cells #[.bool m1, .slice a1 l1 c1, .bool m2, .slice a2 l2 c2] T)) w.heap.size :=
  ⟨m1, a1, l1, c1, m2, a2, l2, c2, T, by show (w.heap.push _)[w.heap.size]? = _; simp, hT⟩
theorem boxes_low (w : World) (m1 : Bool) (a1 : Option Addr) (l1 c1 : Nat) (m2 : Bool) (a2 : Option Addr) (l2 c2 : Nat) : ∃ W, W = (w.alloc (.cells #[.bool m1, .slice a1 l1 c1, .bool m2, .slice a2 l2 c2] 26)).alloc (.cells #[.bool false, .slice none 0 0, .bool false, .slice none 0 0] 26) ∧ Below w.heap.size w W ∧
    (W.cell? ⟨w.heap.size, 0, none⟩ = some (.bool m1) ∧ W.cell? ⟨w.heap.size, 1, none⟩ = some (.slice a1 l1 c1) ∧ W.cell? ⟨w.heap.size, 2, none⟩ = some (.bool m2) ∧ W.cell? ⟨w.heap.size, 3, none⟩ = some (.slice a2 l2 c2)) ∧ Box4 W (w.heap.size + 1) := by
  refine ⟨_, rfl, ((Below.refl _ _).alloc (Nat.le_refl _) _).alloc (by simp) _, ⟨?_, ?_, ?_, ?_⟩, ?n⟩
  case n =>
    have h := Box4.new (w.alloc (.cells #[.bool m1, .slice a1 l1 c1, .bool m2, .slice a2 l2 c2] 26)) false none 0 0 false none 0 0 26 (by decide)
    rw [show (w.alloc (.cells #[.bool m1, .slice a1 l1 c1, .bool m2, .slice a2 l2 c2] 26)).heap.size = w.heap.size + 1 from by simp] at h
    exact h
  all_goals simp [go_sem, World.cell?_alloc_past]
theorem boxes_two (w : World) (m1 : Bool) (a1 : Option Addr) (l1 c1 : Nat) (m2 : Bool) (a2 : Option Addr) (l2 c2 : Nat) : ∃ W, W = (w.alloc (.cells #[.bool m1, .slice a1 l1 c1] 24)).alloc (.cells #[.bool m2, .slice a2 l2 c2] 24) ∧ Below w.heap.size w W ∧
    (W.cell? ⟨w.heap.size, 0, none⟩ = some (.bool m1) ∧ W.cell? ⟨w.heap.size, 1, none⟩ = some (.slice a1 l1 c1) ∧ W.cell? ⟨w.heap.size + 1, 0, none⟩ = some (.bool m2) ∧ W.cell? ⟨w.heap.size + 1, 1, none⟩ = some (.slice a2 l2 c2)) ∧ Box2 W w.heap.size ∧ Box2 W (w.heap.size + 1) := by
  refine ⟨_, rfl, ((Below.refl _ _).alloc (Nat.le_refl _) _).alloc (by simp) _, ⟨?_, ?_, ?_, ?_⟩, ?n0, ?n1⟩
  case n0 => exact (Box2.new w m1 a1 l1 c1 24 (by decide)).next ((Below.refl _ _).alloc (Nat.le_refl _) _)
  case n1 =>
    have h := Box2.new (w.alloc (.cells #[.bool m1, .slice a1 l1 c1] 24)) m2 a2 l2 c2 24 (by decide)
    rw [show (w.alloc (.cells #[.bool m1, .slice a1 l1 c1] 24)).heap.size = w.heap.size + 1 from by simp] at h
    exact h
  all_goals simp [go_sem, World.cell?_alloc_past]
theorem box_one (w : World) (m1 : Bool) (a1 : Option Addr) (l1 c1 : Nat) : ∃ W, W = w.alloc (.cells #[.bool m1, .slice a1 l1 c1] 24) ∧ Below w.heap.size w W ∧ (W.cell? ⟨w.heap.size, 0, none⟩ = some (.bool m1) ∧ W.cell? ⟨w.heap.size, 1, none⟩ = some (.slice a1 l1 c1)) ∧ Box2 W w.heap.size :=
  ⟨_, rfl, (Below.refl _ _).alloc (Nat.le_refl _) _, ⟨by simp [go_sem], by simp [go_sem]⟩, Box2.new w m1 a1 l1 c1 24 (by decide)⟩
set_option maxRecDepth 20000 in
set_option maxHeartbeats 4000000 in
theorem lowest_num {w : World} {v : Value} {n d : Int} {m : Nat} (hv : Frac w v n d m) (hm : m ≤ 200) :
    Calls Tryz.prog 45 #[v] w fun e w' => ∃ t p q, e = .returned t ∧ FracE w' t p q (m + 2) ∧ Low (pN n d) (pD d) p q ∧ Below w.heap.size w w' := by
  obtain ⟨n1, a1, l1, c1, n2, a2, l2, c2, rfl, h1, h2⟩ := hv
  obtain ⟨W, hW, hbW, ⟨e0, e1, e2, e3⟩, x4⟩ := boxes_low w n1 a1 l1 c1 n2 a2 l2 c2
  have hF : Frac W (.agg #[.bool n1, .slice a1 l1 c1, .bool n2, .slice a2 l2 c2]) n d m := ⟨_, _, _, _, _, _, _, _, rfl, h1.next hbW, h2.next hbW⟩
  have k1 := parts_num hF (by omega)
  obtain ⟨hlow, hgp⟩ := low_of (n := pN n d) (pD_pos d)
  have hdp := pD_pos d
  generalize pN n d = N at *
  generalize pD d = D at *
  replace k1 : Hid _ := k1
  replace hlow : Hid _ := hlow
  go_enter Tryz.func45, Tryz.ntmps45
  go_wp2_with fail
  rw [← hW]
  clear hW
  refine Calls.mono k1.out ?_
  rintro e w1 ⟨s, t, rfl, hN, hD, hb1⟩
  clear k1
  obtain ⟨n3, a3, l3, c3, rfl⟩ := hN.form
  obtain ⟨n4, a4, l4, c4, rfl⟩ := hD.form
  obtain ⟨W1, hW1, hbW1, ⟨p0, p1, p2, p3⟩, y0, y1⟩ := boxes_two w1 n3 a3 l3 c3 n4 a4 l4 c4
  have hN1 := hN.next hbW1
  have hD1 := hD.next hbW1
  have k2 := gcd_num hN1 hD1 (by omega)
  generalize hG : Nat.gcd N.natAbs D.natAbs = G at *
  replace k2 : Hid _ := k2
  have x4' := (x4.next hb1).next hbW1
  have hB1 := bthen (bthen hbW hb1) hbW1
  go_wp2_with fail
  rw [← hW1]
  clear hW1
  refine Calls.mono k2.out ?_
  rintro e w2 ⟨t, rfl, hg, hb2⟩
  clear k2
  obtain ⟨n5, a5, l5, c5, rfl⟩ := hg.form
  obtain ⟨W2, hW2, hbW2, ⟨q0, q1⟩, z0⟩ := box_one w2 n5 a5 l5 c5
  have hbx := bthen hb2 hbW2
  have hN2 := hN1.next hbx
  have hD2 := hD1.next hbx
  have hg2 := hg.next hbW2
  have k3 := Quo_num hN2 hg2 (by omega) (by omega) (by omega)
  replace k3 : Hid _ := k3
  have i0 := keep_cell hb2 p0
  have i1 := keep_cell hb2 p1
  have i2 : w1.heap.size < w2.heap.size := cell_lt i0
  go_wp2_with fail
  rw [← hW2]
  clear hW2 i0 i1
  obtain ⟨bN, hbN⟩ : ∃ g, w1.heap.size = g := ⟨_, rfl⟩
  obtain ⟨bG, hbG⟩ : ∃ g, w2.heap.size = g := ⟨_, rfl⟩
  rw [hbN] at p0 p1 p2 p3 y0 y1 i2 ⊢
  rw [hbG] at q0 q1 z0 i2 ⊢
  have r0 := keep_cell hbx p0
  have r1 := keep_cell hbx p1
  have r2 := keep_cell hbx p2
  have r3 := keep_cell hbx p3
  have u0 := y0.next hbx
  have u1 := y1.next hbx
  have x5 := x4'.next hbx
  have hB2 := bthen hB1 hbx
  refine Calls.mono k3.out ?_
  rintro e w3 ⟨t, t', rfl, hO, hO', hb3⟩
  clear k3
  obtain ⟨n6, a6, l6, c6, rfl⟩ := hO.form
  obtain ⟨n7, a7, l7, c7, rfl⟩ := hO'.form
  obtain ⟨_, _, _, _, _, _, fN⟩ := u0.cells
  obtain ⟨_, _, _, _, _, _, fD⟩ := u1.cells
  have s0 := keep_cell hb3 r0
  have s1 := keep_cell hb3 r1
  have s2 := keep_cell hb3 r2
  have s3 := keep_cell hb3 r3
  have t0 := keep_cell hb3 q0
  have t1 := keep_cell hb3 q1
  have gN0 := keep_frozen hb3 r0 (fN 0)
  have gN1 := keep_frozen hb3 r1 (fN 1)
  have o6 : OutE w3 (.agg #[.bool n6, .slice a6 l6 c6]) (N.tdiv (G : Int)) (m + 2) := OutE.fit ⟨_, hO⟩ (by have h1 := tdiv_le N G (by omega); have h2 := hN.bound; omega)
  have hbp : Boxed w.heap.size w3 ((w3.setCell ⟨bN, 0, none⟩ (.bool n6)).setCell ⟨bN, 1, none⟩ (.slice a6 l6 c6)) := (Boxed.refl.set _ _ _ (u0.next hb3).noint (by have := hB1.size; have := hbW.size; have := hb1.size; omega) (notInt_bool _)).set _ _ _ (u0.next hb3).noint (by have := hB1.size; have := hbW.size; have := hb1.size; omega) (notInt_slice _ _ _)
  have neG : bN ≠ bG := by omega
  have neD : bN ≠ bN + 1 := by omega
  obtain ⟨W3, hW3⟩ : ∃ X, X = (w3.setCell ⟨bN, 0, none⟩ (.bool n6)).setCell ⟨bN, 1, none⟩ (.slice a6 l6 c6) := ⟨_, rfl⟩
  have v0 : W3.cell? ⟨bN, 0, none⟩ = some (.bool n6) := by rw [hW3]; simp [go_sem, s0]
  have v1 : W3.cell? ⟨bN, 1, none⟩ = some (.slice a6 l6 c6) := by rw [hW3]; simp [go_sem, s1]
  have v2 : W3.cell? ⟨bN + 1, 0, none⟩ = some (.bool n4) := by rw [hW3]; exact keep_set (keep_set s2 neD) neD
  have v3 : W3.cell? ⟨bN + 1, 1, none⟩ = some (.slice a4 l4 c4) := by rw [hW3]; exact keep_set (keep_set s3 neD) neD
  rw [← hW3] at hbp
  have hD3 := hbp.num (hD2.next hb3)
  have hg3 := hbp.num (hg2.next hb3)
  have o6' := hbp.out o6
  have k4 := Quo_num hD3 hg3 (by omega) (by omega) (by omega)
  replace k4 : Hid _ := k4
  have hB3 : Below w.heap.size w W3 := hbp.keep (bthen hB2 hb3) (Nat.le_refl _) (bthen hB2 hb3).size
  have neR : w.heap.size + 1 ≠ bN + 1 := by have := hbW.size; have := hb1.size; have := x4.noint.lt; omega
  have neR' : w.heap.size + 1 ≠ bN := by have := hbW.size; have := hb1.size; have := x4.noint.lt; omega
  have neD' : bN + 1 ≠ bN := by omega
  have x6 : Box4 W3 (w.heap.size + 1) := (x5.next hb3).same (by rw [hW3]; exact (Below.heap_setCell _ _ _ _ neR').trans (Below.heap_setCell _ _ _ _ neR'))
  have u1' : Box2 W3 (bN + 1) := (u1.next hb3).same (by rw [hW3]; exact (Below.heap_setCell _ _ _ _ neD').trans (Below.heap_setCell _ _ _ _ neD'))
  have hwN : w.heap.size ≤ bN := by have := hbW.size; have := hb1.size; omega
  have hbD : (D.natAbs : Int) < 4294967296 ^ (m + 2) := hD.bound
  clear hN hD hN1 hD1 hN2 hD2 hg hg2 hO hO' o6 hbp
  go_wp2_with fail
  rw [← hW3]
  clear hW3
  refine Calls.mono k4.out ?_
  rintro e w4 ⟨t, t', rfl, hO, hO', hb4⟩
  clear k4
  obtain ⟨n8, a8, l8, c8, rfl⟩ := hO.form
  obtain ⟨n9, a9, l9, c9, rfl⟩ := hO'.form
  have o8 : OutE w4 (.agg #[.bool n8, .slice a8 l8 c8]) (D.tdiv (G : Int)) (m + 2) := OutE.fit ⟨_, hO⟩ (by have h1 := tdiv_le D G (by omega); omega)
  have o6'' := o6'.next hb4
  have y2 := keep_cell hb4 v0
  have y3 := keep_cell hb4 v1
  have y4 := keep_cell hb4 v2
  have y5 := keep_cell hb4 v3
  obtain ⟨_, _, _, _, _, _, fD'⟩ := u1'.cells
  have gD0 := keep_frozen hb4 v2 (fD' 0)
  have gD1 := keep_frozen hb4 v3 (fD' 1)
  have x7 := x6.next hb4
  obtain ⟨_, _, _, _, _, _, _, _, j0, j1, j2, j3, fR⟩ := x7.cells
  have fR0 := fR 0
  have fR1 := fR 1
  have fR2 := fR 2
  have fR3 := fR 3
  have hB4 := bthen hB3 hb4
  have u2 := u1'.next hb4
  have neRs : bN + 1 ≠ w.heap.size + 1 := Ne.symm neR
  have hbx : Boxed w.heap.size w4 ((((((w4.setCell ⟨bN + 1, 0, none⟩ (.bool n8)).setCell ⟨bN + 1, 1, none⟩ (.slice a8 l8 c8)).setCell ⟨w.heap.size + 1, 0, none⟩ (.bool n6)).setCell ⟨w.heap.size + 1, 1, none⟩ (.slice a6 l6 c6)).setCell ⟨w.heap.size + 1, 2, none⟩ (.bool n8)).setCell ⟨w.heap.size + 1, 3, none⟩ (.slice a8 l8 c8)) :=
    (((((Boxed.refl.set _ _ _ u2.noint (by omega) (notInt_bool _)).set _ _ _ u2.noint (by omega) (notInt_slice _ _ _)).set _ _ _ x7.noint (by omega) (notInt_bool _)).set _ _ _ x7.noint (by omega) (notInt_slice _ _ _)).set _ _ _ x7.noint (by omega) (notInt_bool _)).set _ _ _ x7.noint (by omega) (notInt_slice _ _ _)
  replace hbx : Hid _ := hbx
  clear fR
  go_wp2
  exact bodyPost_ret (v := .agg #[.bool n6, .slice a6 l6 c6, .bool n8, .slice a8 l8 c8]) (by simp [results, Tryz.results45, go_sem, j0, j1, j2, j3]) rfl ⟨_, _, _, rfl, ⟨_, _, _, _, _, _, _, _, rfl, hbx.out.out o6'', hbx.out.out o8⟩, hlow.out, hbx.out.keep hB4 (Nat.le_refl _) hB4.size⟩
end Go.Proofs.YthiiglhecajhbaaGreat
