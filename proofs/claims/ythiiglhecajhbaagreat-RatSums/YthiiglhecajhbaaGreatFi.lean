/- Whole fractions as numbers. -/
import Derived.Test.YthiiglhecajhbaaGreatFw
namespace Go.Proofs.YthiiglhecajhbaaGreat
open Go.RowKit
attribute [local go_sem ↓] Go.wp_at_zero Go.wp_at_succ
theorem boxes_int (w : World) (m1 : Bool) (a1 : Option Addr) (l1 c1 : Nat) (m2 : Bool) (a2 : Option Addr) (l2 c2 : Nat) : ∃ W, W = (w.alloc (.cells #[.bool m1, .slice a1 l1 c1, .bool m2, .slice a2 l2 c2] 26)).alloc (.cells #[.bool false, .slice none 0 0] 24) ∧ Below w.heap.size w W ∧
    (W.cell? ⟨w.heap.size, 0, none⟩ = some (.bool m1) ∧ W.cell? ⟨w.heap.size, 1, none⟩ = some (.slice a1 l1 c1) ∧ W.cell? ⟨w.heap.size, 2, none⟩ = some (.bool m2) ∧ W.cell? ⟨w.heap.size, 3, none⟩ = some (.slice a2 l2 c2)) ∧ Box2 W (w.heap.size + 1) := by
  refine ⟨_, rfl, ((Below.refl _ _).alloc (Nat.le_refl _) _).alloc (by simp) _, ⟨?_, ?_, ?_, ?_⟩, ?n⟩
  case n =>
    have h := Box2.new (w.alloc (.cells #[.bool m1, .slice a1 l1 c1, .bool m2, .slice a2 l2 c2] 26)) false none 0 0 24 (by decide)
    rw [show (w.alloc (.cells #[.bool m1, .slice a1 l1 c1, .bool m2, .slice a2 l2 c2] 26)).heap.size = w.heap.size + 1 from by simp] at h
    exact h
  all_goals simp [go_sem, World.cell?_alloc_past]
theorem put2_boxed {base : Nat} {w : World} {g : Nat} (hg : NoInt w g) (bg : base ≤ g) (m1 : Bool) (a1 : Option Addr) (l1 c1 : Nat) : Boxed base w ((w.setCell ⟨g, 0, none⟩ (.bool m1)).setCell ⟨g, 1, none⟩ (.slice a1 l1 c1)) :=
  (Boxed.refl.set _ _ _ hg bg (notInt_bool _)).set _ _ _ hg bg (notInt_slice _ _ _)
/-- What Int answers. -/
def IntAns (w : World) (v : Value) (n d : Int) (m : Nat) : Prop :=
  ∃ t, v = .tuple #[t, .bool (decide ((pN n d).tmod (pD d) = 0))] ∧ ((pN n d).tmod (pD d) = 0 → OutE w t ((pN n d).tdiv (pD d)) (m + 3)) ∧ ((pN n d).tmod (pD d) ≠ 0 → t = .agg #[.bool false, .slice none 0 0])
set_option maxRecDepth 20000 in
set_option maxHeartbeats 4000000 in
theorem Int_num {w : World} {v : Value} {n d : Int} {m : Nat} (hv : Frac w v n d m) (hm : m ≤ 200) :
    Calls Tryz.prog 13 #[v] w fun e w' => ∃ t, e = .returned t ∧ IntAns w' t n d m ∧ Below w.heap.size w w' := by
  obtain ⟨n1, a1, l1, c1, n2, a2, l2, c2, rfl, h1, h2⟩ := hv
  obtain ⟨W, hW, hbW, ⟨e0, e1, e2, e3⟩, x4⟩ := boxes_int w n1 a1 l1 c1 n2 a2 l2 c2
  have hF : Frac W (.agg #[.bool n1, .slice a1 l1 c1, .bool n2, .slice a2 l2 c2]) n d m := ⟨_, _, _, _, _, _, _, _, rfl, h1.next hbW, h2.next hbW⟩
  have k1 := parts_num hF (by omega)
  have hdp := pD_pos d
  unfold IntAns
  generalize pN n d = N at *
  generalize pD d = D at *
  replace k1 : Hid _ := k1
  go_enter Tryz.func13, Tryz.ntmps13
  go_wp2_with fail
  rw [← hW]
  clear hW
  refine Calls.mono k1.out ?_
  rintro e w1 ⟨s, t, rfl, hN, hD, hb1⟩
  clear k1
  obtain ⟨n3, a3, l3, c3, rfl⟩ := hN.form
  obtain ⟨n4, a4, l4, c4, rfl⟩ := hD.form
  obtain ⟨W1, hW1, hbW1, ⟨p0, p1, p2, p3⟩, y0, y1⟩ := boxes_two w1 n3 a3 l3 c3 n4 a4 l4 c4
  have hN1 := hN.next hbW1
  have hD1 := hD.next hbW1
  have k2 := Quo_num hN1 hD1 (by omega) (by omega) (by omega)
  replace k2 : Hid _ := k2
  have x5 := (x4.next hb1).next hbW1
  have hB1 := bthen (bthen hbW hb1) hbW1
  clear x4 y0 y1 e0 e1 e2 e3 h1 h2
  go_wp2_with fail
  rw [← hW1]
  clear hW1
  refine Calls.mono k2.out ?_
  rintro e w2 ⟨t, t', rfl, hO, hO', hb2⟩
  clear k2
  obtain ⟨n5, a5, l5, c5, rfl⟩ := hO.form
  obtain ⟨n6, a6, l6, c6, rfl⟩ := hO'.form
  obtain ⟨W2, hW2, hbW2, ⟨q0, q1, q2, q3⟩, z0, z1⟩ := boxes_two w2 n5 a5 l5 c5 n6 a6 l6 c6
  have hQ : OutE W2 (.agg #[.bool n5, .slice a5 l5 c5]) (N.tdiv D) (m + 3) := OutE.next ⟨_, hO⟩ hbW2
  have hR : OutE W2 (.agg #[.bool n6, .slice a6 l6 c6]) (N.tmod D) (m + 2 + (m + 2)) := OutE.next ⟨_, hO'⟩ hbW2
  have k3 := isZero_num hR.num (by omega)
  replace k3 : Hid _ := k3
  have x6 := (x5.next hb2).next hbW2
  have hB2 := bthen (bthen hB1 hb2) hbW2
  clear x5 z0 z1 hO hO' hN hD hN1 hD1 p0 p1 p2 p3
  go_wp2_with fail
  rw [← hW2]
  clear hW2
  refine Calls.mono k3.out ?_
  rintro e w3 ⟨rfl, hb3⟩
  clear k3
  have r0 := keep_cell hb3 q0
  have r1 := keep_cell hb3 q1
  have x7 := x6.next hb3
  have hQ3 := hQ.next hb3
  have hB3 := bthen hB2 hb3
  obtain ⟨_, _, _, _, j0, j1, f⟩ := x7.cells
  have f0 := f 0
  have f1 := f 1
  clear f q0 q1 q2 q3 x6 hQ hR
  by_cases hz : N.tmod D = 0
  · have hd : decide (N.tmod D = 0) = true := by simpa using hz
    have hbx : Hid _ := put2_boxed (base := w.heap.size) x7.noint (by omega) n5 a5 l5 c5
    have hz' : Hid _ := hz
    rw [hd]
    have hd' : Hid _ := hd
    clear hz hd
    go_wp2
    exact bodyPost_ret (v := .tuple #[.agg #[.bool n5, .slice a5 l5 c5], .bool true]) (by simp [results, Tryz.results13, go_sem, j0, j1]) rfl ⟨_, rfl, ⟨_, by rw [hd'.out], fun _ => hbx.out.out hQ3, fun h => absurd hz'.out h⟩, hbx.out.keep hB3 (Nat.le_refl _) hB3.size⟩
  · have hd : decide (N.tmod D = 0) = false := by simpa using hz
    have hbx : Hid _ := put2_boxed (base := w.heap.size) x7.noint (by omega) false none 0 0
    have hz' : Hid (N.tmod D ≠ 0) := hz
    rw [hd]
    have hd' : Hid _ := hd
    clear hz hd
    go_wp2
    exact bodyPost_ret (v := .tuple #[.agg #[.bool false, .slice none 0 0], .bool false]) (by simp [results, Tryz.results13, go_sem, j0, j1]) rfl ⟨_, rfl, ⟨_, by rw [hd'.out], fun h => absurd h hz'.out, fun _ => rfl⟩, hbx.out.keep hB3 (Nat.le_refl _) hB3.size⟩
end Go.Proofs.YthiiglhecajhbaaGreat
