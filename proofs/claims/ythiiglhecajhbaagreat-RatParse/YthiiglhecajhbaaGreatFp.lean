/- A fraction's parts. -/
import Derived.Test.YthiiglhecajhbaaGreatPn
namespace Go.Proofs.YthiiglhecajhbaaGreat
open Go.RowKit
attribute [local go_sem ↓] Go.wp_at_zero Go.wp_at_succ
/-- The numerator and the denominator of n over d, the latter above zero. -/
def pN (n d : Int) : Int := if d < 0 then -n else n
def pD (d : Int) : Int := if d = 0 then 1 else if d < 0 then -d else d
theorem pD_pos (d : Int) : 0 < pD d := by unfold pD; split <;> (try split) <;> omega
theorem boxes_parts (w : World) (m1 : Bool) (a1 : Option Addr) (l1 c1 : Nat) (m2 : Bool) (a2 : Option Addr) (l2 c2 : Nat) : ∃ W, W = ((w.alloc (.cells #[.bool m1, .slice a1 l1 c1, .bool m2, .slice a2 l2 c2] 26)).alloc (.cells #[.bool false, .slice none 0 0] 24)).alloc (.cells #[.bool false, .slice none 0 0] 24) ∧ Below w.heap.size w W ∧ w.heap.size + 1 + 1 < W.heap.size ∧
    (W.cell? ⟨w.heap.size, 0, none⟩ = some (.bool m1) ∧ W.cell? ⟨w.heap.size, 1, none⟩ = some (.slice a1 l1 c1) ∧ W.cell? ⟨w.heap.size, 2, none⟩ = some (.bool m2) ∧ W.cell? ⟨w.heap.size, 3, none⟩ = some (.slice a2 l2 c2)) ∧
    (W.cell? ⟨w.heap.size + 1, 0, none⟩ = some (.bool false) ∧ W.cell? ⟨w.heap.size + 1, 1, none⟩ = some (.slice none 0 0) ∧ W.cell? ⟨w.heap.size + 1 + 1, 0, none⟩ = some (.bool false) ∧ W.cell? ⟨w.heap.size + 1 + 1, 1, none⟩ = some (.slice none 0 0)) ∧
    (∀ o, W.frozen? ⟨w.heap.size + 1, o, none⟩ = false) ∧ (∀ o, W.frozen? ⟨w.heap.size + 1 + 1, o, none⟩ = false) ∧ NoInt W (w.heap.size + 1) ∧ NoInt W (w.heap.size + 1 + 1) := by
  refine ⟨_, rfl, (((Below.refl _ _).alloc (Nat.le_refl _) _).alloc (by simp) _).alloc (by simp; omega) _, by simp, ⟨?_, ?_, ?_, ?_⟩, ⟨?_, ?_, ?_, ?_⟩, ?_, ?_, ?n1, ?n2⟩
  case n1 =>
    have h := NoInt.new (w.alloc (.cells #[.bool m1, .slice a1 l1 c1, .bool m2, .slice a2 l2 c2] 26)) #[.bool false, .slice none 0 0] 24 (by decide) (two_notInt (notInt_bool _) (notInt_slice _ _ _))
    rw [show (w.alloc (.cells #[.bool m1, .slice a1 l1 c1, .bool m2, .slice a2 l2 c2] 26)).heap.size = w.heap.size + 1 from by simp] at h
    exact h.alloc _
  case n2 =>
    have h := NoInt.new ((w.alloc (.cells #[.bool m1, .slice a1 l1 c1, .bool m2, .slice a2 l2 c2] 26)).alloc (.cells #[.bool false, .slice none 0 0] 24)) #[.bool false, .slice none 0 0] 24 (by decide) (two_notInt (notInt_bool _) (notInt_slice _ _ _))
    rw [show ((w.alloc (.cells #[.bool m1, .slice a1 l1 c1, .bool m2, .slice a2 l2 c2] 26)).alloc (.cells #[.bool false, .slice none 0 0] 24)).heap.size = w.heap.size + 1 + 1 from by simp] at h
    exact h
  all_goals (try intro o) <;> simp [go_sem, World.cell?_alloc_past, World.frozen?_alloc_past]
theorem Num.more' {w : World} {v : Value} {z : Int} {n : Nat} (hn : Num w v z n) {m : Nat} (h : n ≤ m) : Num w v z m := Num.more h hn
theorem Num.sign {w : World} {m : Bool} {a : Option Addr} {l c : Nat} {z : Int} {n : Nat} (h : Num w (.agg #[.bool m, .slice a l c]) z n) (hz : z ≠ 0) : m = decide (z < 0) := by
  obtain ⟨neg, a', cap, ds, hv, hr, rfl, _⟩ := h
  simp at hv
  obtain ⟨rfl, rfl, rfl, rfl⟩ := hv
  have h0 := val_nonneg (B := 4294967296) (by decide) hr.words
  cases m with
  | false => simp [num] at hz ⊢; omega
  | true => simp [num] at hz ⊢; omega
theorem put22 {base : Nat} {w : World} {g h : Nat} (hg : NoInt w g) (hh : NoInt w h) (bg : base ≤ g) (bh : base ≤ h) (m1 : Bool) (a1 : Option Addr) (l1 c1 : Nat) (m2 : Bool) (a2 : Option Addr) (l2 c2 : Nat) : Boxed base w ((((w.setCell ⟨g, 0, none⟩ (.bool m1)).setCell ⟨g, 1, none⟩ (.slice a1 l1 c1)).setCell ⟨h, 0, none⟩ (.bool m2)).setCell ⟨h, 1, none⟩ (.slice a2 l2 c2)) :=
  (((Boxed.refl.set _ _ _ hg bg (notInt_bool _)).set _ _ _ hg bg (notInt_slice _ _ _)).set _ _ _ hh bh (notInt_bool _)).set _ _ _ hh bh (notInt_slice _ _ _)
set_option maxRecDepth 20000 in
set_option maxHeartbeats 4000000 in
theorem parts_num {w : World} {v : Value} {n d : Int} {m : Nat} (hv : Frac w v n d m) (hm : m ≤ 500) :
    Calls Tryz.prog 38 #[v] w fun e w' => ∃ s t, e = .returned (.tuple #[s, t]) ∧ Num w' s (pN n d) (m + 2) ∧ Num w' t (pD d) (m + 2) ∧ Below w.heap.size w w' := by
  obtain ⟨n1, a1, l1, c1, n2, a2, l2, c2, rfl, h1, h2⟩ := hv
  obtain ⟨W, hW, hbW, hlt, ⟨e0, e1, e2, e3⟩, ⟨b0, b1, b2, b3⟩, f1, f2, x1, x2⟩ := boxes_parts w n1 a1 l1 c1 n2 a2 l2 c2
  have k1 := isZero_num (h2.next hbW) (by omega)
  replace k1 : Hid _ := k1
  go_enter Tryz.func38, Tryz.ntmps38
  go_wp2_with fail
  rw [← hW]
  clear hW
  refine Calls.mono k1.out ?_
  rintro e w1 ⟨rfl, hb1⟩
  clear k1
  have p0 := keep_cell hb1 e0
  have p1 := keep_cell hb1 e1
  have p2 := keep_cell hb1 e2
  have p3 := keep_cell hb1 e3
  have q0 := keep_cell hb1 b0
  have q1 := keep_cell hb1 b1
  have q2 := keep_cell hb1 b2
  have q3 := keep_cell hb1 b3
  have g0 := keep_frozen hb1 b0 (f1 0)
  have g1 := keep_frozen hb1 b1 (f1 1)
  have g2 := keep_frozen hb1 b2 (f2 0)
  have g3 := keep_frozen hb1 b3 (f2 1)
  have y1 := x1.next hb1
  have y2 := x2.next hb1
  have hA := (h1.next hbW).next hb1
  have hB := (h2.next hbW).next hb1
  have hBB := bthen hbW hb1
  clear e0 e1 e2 e3 b0 b1 b2 b3 f1 f2 x1 x2 h1 h2 hbW hb1
  have hD0 : Below w1.heap.size w1 w1.drew := (Below.refl _ _).drew
  by_cases hz : d = 0
  · subst hz
    have hdz : decide ((0 : Int) = 0) = true := by decide
    rw [hdz]
    go_wp2
    go_region_with (go_at_call 35; refine (Of_any 1 _ (by decide) (by decide)).mono ?_; rintro e w2 ⟨t, rfl, hO, hb2⟩; obtain ⟨n3, a3, l3, c3, rfl⟩ := hO.form; have hB2 : Below w1.heap.size w1 w2 := bthen hD0 hb2; have p0' := keep_cell hB2 p0; have p1' := keep_cell hB2 p1; have q0' := keep_cell hB2 q0; have q1' := keep_cell hB2 q1; have q2' := keep_cell hB2 q2; have q3' := keep_cell hB2 q3; have g0' := keep_frozen hB2 q0 g0; have g1' := keep_frozen hB2 q1 g1; have g2' := keep_frozen hB2 q2 g2; have g3' := keep_frozen hB2 q3 g3)
    all_goals
      have hBf := bthen hBB hB2
      have hbx : Hid _ := put22 (base := w.heap.size) (y1.next hB2) (y2.next hB2) (by omega) (by omega) n1 a1 l1 c1 n3 a3 l3 c3
      have r1 := (hbx.out.num (hA.next hB2)).more' (m := m + 2) (by omega)
      have r2 := (hbx.out.num hO.num).more' (m := m + 2) (by omega)
      have hnn : pN n 0 = n := by simp [pN]
      have hdd : pD 0 = 1 := by simp [pD]
      replace r1 : Hid _ := r1
      replace r2 : Hid _ := r2
      replace hnn : Hid _ := hnn
      replace hdd : Hid _ := hdd
      clear hO hb2 hB2 hD0 hA hB
      go_wp2
      exact bodyPost_ret (v := .tuple #[.agg #[.bool n1, .slice a1 l1 c1], .agg #[.bool n3, .slice a3 l3 c3]]) (by simp [results, Tryz.results38, go_sem, q0', q1', q2', q3']) rfl ⟨_, _, rfl, by rw [hnn.out]; exact r1.out, by rw [hdd.out]; exact r2.out, hbx.out.keep hBf (Nat.le_refl _) hBf.size⟩
  · have hdz : decide (d = 0) = false := by simpa using hz
    have hsg : Hid _ := hB.sign hz
    rw [hdz]
    by_cases hneg : d < 0
    · have hm2 : n2 = true := by rw [hsg.out]; simpa using hneg
      subst hm2
      have hnn : Hid (pN n d = -n) := by show _ = _; simp [pN, hneg]
      have hdd : Hid (pD d = -d) := by show _ = _; simp [pD, hz, hneg]
      have hz' : Hid _ := hz
      clear hz hdz
      go_wp2
      go_region_with (first
        | (go_at_call_of 49 (Value.slice a1 l1 c1); refine (Neg_num (hA.next ?q1) (by omega)).mono ?_; (case q1 => first | exact hD0 | exact Below.refl _ _); rintro e w2 ⟨t, rfl, hO, hb2⟩; obtain ⟨n3, a3, l3, c3, rfl⟩ := hO.form; have hB2 : Below w1.heap.size w1 w2 := bthen hD0 hb2; have p2' := keep_cell hB2 p2; have p3' := keep_cell hB2 p3)
        | (go_at_call_of 49 (Value.slice a2 l2 c2); refine (Neg_num (hB.next hB2) (by omega)).mono ?_; rintro e w3 ⟨t, rfl, hO3, hb3⟩; obtain ⟨n4, a4, l4, c4, rfl⟩ := hO3.form; have hB3 : Below w1.heap.size w1 w3 := bthen hB2 hb3; have q0' := keep_cell hB3 q0; have q1' := keep_cell hB3 q1; have q2' := keep_cell hB3 q2; have q3' := keep_cell hB3 q3; have g0' := keep_frozen hB3 q0 g0; have g1' := keep_frozen hB3 q1 g1; have g2' := keep_frozen hB3 q2 g2; have g3' := keep_frozen hB3 q3 g3))
      all_goals
        have hBf := bthen hBB hB3
        have hbx : Hid _ := put22 (base := w.heap.size) (y1.next hB3) (y2.next hB3) (by omega) (by omega) n3 a3 l3 c3 n4 a4 l4 c4
        have r1 := (hbx.out.num (hO.num.next hb3)).more' (m := m + 2) (by omega)
        have r2 := (hbx.out.num hO3.num).more' (m := m + 2) (by omega)
        replace r1 : Hid _ := r1
        replace r2 : Hid _ := r2
        clear hO hO3 hb2 hb3 hB2 hB3 hD0 hA hB
        go_wp2
        exact bodyPost_ret (v := .tuple #[.agg #[.bool n3, .slice a3 l3 c3], .agg #[.bool n4, .slice a4 l4 c4]]) (by simp [results, Tryz.results38, go_sem, q0', q1', q2', q3']) rfl ⟨_, _, rfl, by rw [hnn.out]; exact r1.out, by rw [hdd.out]; exact r2.out, hbx.out.keep hBf (Nat.le_refl _) hBf.size⟩
    · have hm2 : n2 = false := by rw [hsg.out]; simpa using hneg
      subst hm2
      have hnn : Hid (pN n d = n) := by show _ = _; simp [pN, hneg]
      have hdd : Hid (pD d = d) := by show _ = _; simp [pD, hz, hneg]
      have hz' : Hid _ := hz
      clear hz hdz
      have hbx : Hid _ := (put22 (base := w.heap.size) (w := w1) y1 y2 (by omega) (by omega) n1 a1 l1 c1 false a2 l2 c2).drew
      have r1 := (hbx.out.num hA).more' (m := m + 2) (by omega)
      have r2 := (hbx.out.num hB).more' (m := m + 2) (by omega)
      replace r1 : Hid _ := r1
      replace r2 : Hid _ := r2
      clear hA hB
      go_wp2
      go_region
      go_wp2
      exact bodyPost_ret (v := .tuple #[.agg #[.bool n1, .slice a1 l1 c1], .agg #[.bool false, .slice a2 l2 c2]]) (by simp [results, Tryz.results38, go_sem, q0, q1, q2, q3]) rfl ⟨_, _, rfl, by rw [hnn.out]; exact r1.out, by rw [hdd.out]; exact r2.out, hbx.out.keep hBB (Nat.le_refl _) hBB.size⟩
end Go.Proofs.YthiiglhecajhbaaGreat
