/- Fractions as what they are worth: x over y. -/
import Derived.Test.YthiiglhecajhbaaGreatFtm
namespace Go.Proofs.YthiiglhecajhbaaGreat
open Go.RowKit
/-- v is worth x over y. -/
def Qv (w : World) (v : Value) (x y : Int) (m : Nat) : Prop := 0 < y ∧ ∃ n d, Frac w v n d m ∧ pN n d * y = x * pD d
section
variable {w w' : World} {u v : Value} {x y x' y' : Int} {m b : Nat}
theorem Qv.next (h : Qv w v x y m) (hb : Below w.heap.size w w') : Qv w' v x y m := by
  obtain ⟨h0, n, d, h1, h2⟩ := h
  exact ⟨h0, n, d, h1.next hb, h2⟩
theorem Qv.chg (h : Qv w v x y m) (hc : Chg b w w') (hb : NoInt w b) : Qv w' v x y m := by
  obtain ⟨h0, n, d, h1, h2⟩ := h
  exact ⟨h0, n, d, h1.chg hc hb, h2⟩
theorem Qv.form (h : Qv w v x y m) : ∃ n1 a1 l1 c1 n2 a2 l2 c2, v = .agg #[.bool n1, .slice a1 l1 c1, .bool n2, .slice a2 l2 c2] := by
  obtain ⟨_, n, d, h1, _⟩ := h
  exact h1.form
theorem Frac.more {n d : Int} {k : Nat} (h : Frac w v n d m) (hk : m ≤ k) : Frac w v n d k := by
  obtain ⟨n1, a1, l1, c1, n2, a2, l2, c2, hv, h1, h2⟩ := h
  exact ⟨n1, a1, l1, c1, n2, a2, l2, c2, hv, h1.more' hk, h2.more' hk⟩
theorem Qv.more {k : Nat} (h : Qv w v x y m) (hk : m ≤ k) : Qv w v x y k := by
  obtain ⟨h0, n, d, h1, h2⟩ := h
  exact ⟨h0, n, d, h1.more hk, h2⟩
theorem Frac.qv {n d : Int} (h : Frac w v n d m) : Qv w v (pN n d) (pD d) m := ⟨pD_pos d, n, d, h, rfl⟩
theorem LowE.qv {n d : Int} (h : LowE w v n d m) (hd : 0 < d) : Qv w v n d m := by
  obtain ⟨p, q, h1, h2, _, h3⟩ := h
  exact ⟨hd, p, q, h1.frac, by rw [pN_pos h2, pD_of h2]; exact h3⟩
theorem Qv.to {X Y : Int} (h : Qv w v x y m) (hY : 0 < Y) (e : x * Y = X * y) : Qv w v X Y m := by
  obtain ⟨h0, n, d, h1, h2⟩ := h
  refine ⟨hY, n, d, h1, ?_⟩
  refine Int.eq_of_mul_eq_mul_left (Int.ne_of_gt h0) ?_
  grind
theorem Add_qv (hu : Qv w u x y m) (hv : Qv w v x' y' m) (hm : m ≤ 80) :
    Calls Tryz.prog 16 #[u, v] w fun e w' => ∃ t, e = .returned t ∧ Qv w' t (x * y' + x' * y) (y * y') (2 * m + 7) ∧ Below w.heap.size w w' := by
  obtain ⟨h0, n, d, h1, h2⟩ := hu
  obtain ⟨h0', n', d', h1', h2'⟩ := hv
  refine (Add26_num h1 h1' hm).mono ?_
  rintro e w' ⟨t, rfl, h, hb⟩
  refine ⟨t, rfl, (h.qv (Int.mul_pos (pD_pos d) (pD_pos d'))).to (Int.mul_pos h0 h0') ?_, hb⟩
  grind
theorem Sub_qv (hu : Qv w u x y m) (hv : Qv w v x' y' m) (hm : m ≤ 80) :
    Calls Tryz.prog 18 #[u, v] w fun e w' => ∃ t, e = .returned t ∧ Qv w' t (x * y' - x' * y) (y * y') (2 * m + 7) ∧ Below w.heap.size w w' := by
  obtain ⟨h0, n, d, h1, h2⟩ := hu
  obtain ⟨h0', n', d', h1', h2'⟩ := hv
  refine (Sub26_num h1 h1' hm).mono ?_
  rintro e w' ⟨t, rfl, h, hb⟩
  refine ⟨t, rfl, (h.qv (Int.mul_pos (pD_pos d) (pD_pos d'))).to (Int.mul_pos h0 h0') ?_, hb⟩
  grind
theorem Mul_qv (hu : Qv w u x y m) (hv : Qv w v x' y' m) (hm : m ≤ 80) :
    Calls Tryz.prog 20 #[u, v] w fun e w' => ∃ t, e = .returned t ∧ Qv w' t (x * x') (y * y') (2 * m + 6) ∧ Below w.heap.size w w' := by
  obtain ⟨h0, n, d, h1, h2⟩ := hu
  obtain ⟨h0', n', d', h1', h2'⟩ := hv
  refine (Mul26_num h1 h1' hm).mono ?_
  rintro e w' ⟨t, rfl, h, hb⟩
  refine ⟨t, rfl, (h.qv (Int.mul_pos (pD_pos d) (pD_pos d'))).to (Int.mul_pos h0 h0') ?_, hb⟩
  grind
theorem Neg_qv (hu : Qv w u x y m) (hm : m ≤ 190) :
    Calls Tryz.prog 22 #[u] w fun e w' => ∃ t, e = .returned t ∧ Qv w' t (-x) y (m + 2) ∧ Below w.heap.size w w' := by
  obtain ⟨h0, n, d, h1, h2⟩ := hu
  refine (Neg26_num h1 hm).mono ?_
  rintro e w' ⟨t, rfl, h, hb⟩
  refine ⟨t, rfl, (h.qv (pD_pos d)).to h0 ?_, hb⟩
  have : pN (-n) d = -(pN n d) := by unfold pN; split <;> omega
  rw [this]
  grind
theorem cmpI_scale {A B C D k l : Int} (hk : 0 < k) (hl : 0 < l) (h1 : A * k = C * l) (h2 : B * k = D * l) : cmpI A B = cmpI C D := by
  have i1 : A < B ↔ C < D := by
    rw [← Int.mul_lt_mul_right hk, h1, h2, Int.mul_lt_mul_right hl]
  have i2 : B < A ↔ D < C := by
    rw [← Int.mul_lt_mul_right hk, h1, h2, Int.mul_lt_mul_right hl]
  unfold cmpI
  simp only [i1]
  repeat' split
  all_goals first | rfl | omega
theorem Cmp_qv (hu : Qv w u x y m) (hv : Qv w v x' y' m) (hm : m ≤ 80) :
    Calls Tryz.prog 24 #[u, v] w fun e w' => e = .returned (.int .i64 (cmpI (x * y') (x' * y))) ∧ Below w.heap.size w w' := by
  obtain ⟨h0, n, d, h1, h2⟩ := hu
  obtain ⟨h0', n', d', h1', h2'⟩ := hv
  refine (Cmp26_num h1 h1' hm).mono ?_
  rintro e w' ⟨rfl, hb⟩
  refine ⟨?_, hb⟩
  rw [cmpI_scale (k := y * y') (l := pD d * pD d') (C := x * y') (D := x' * y) (Int.mul_pos h0 h0') (Int.mul_pos (pD_pos d) (pD_pos d')) (by grind) (by grind)]
theorem pN_cross {n d : Int} (h : d ≠ 0) : pN n d * d = n * pD d := by
  unfold pN pD
  repeat' split
  all_goals first | omega | grind
/-- What Quo answers: its value where there is one. -/
def QuoV (w : World) (v : Value) (x y x' y' : Int) (m : Nat) : Prop := x' ≠ 0 → ∃ p q, Qv w v p q m ∧ p * (y * x') = x * y' * q
theorem QuoV.next (h : QuoV w v x y x' y' m) (hb : Below w.heap.size w w') : QuoV w' v x y x' y' m := fun e => by
  obtain ⟨p, q, h1, h2⟩ := h e
  exact ⟨p, q, h1.next hb, h2⟩
theorem QuoV.chg (h : QuoV w v x y x' y' m) (hc : Chg b w w') (hb : NoInt w b) : QuoV w' v x y x' y' m := fun e => by
  obtain ⟨p, q, h1, h2⟩ := h e
  exact ⟨p, q, h1.chg hc hb, h2⟩
theorem Quo_qv (hu : Qv w u x y m) (hv : Qv w v x' y' m) (hm : m ≤ 80) :
    Calls Tryz.prog 9 #[u, v] w fun e w' => ∃ t, e = .returned (.tuple #[t, .bool (decide (x' ≠ 0))]) ∧ (∃ n1 a1 l1 c1 n2 a2 l2 c2, t = .agg #[.bool n1, .slice a1 l1 c1, .bool n2, .slice a2 l2 c2]) ∧ QuoV w' t x y x' y' (2 * m + 6) ∧ Below w.heap.size w w' := by
  obtain ⟨h0, n, d, h1, h2⟩ := hu
  obtain ⟨h0', n', d', h1', h2'⟩ := hv
  refine (Quo26_num h1 h1' hm).mono ?_
  rintro e w' ⟨t, rfl, ⟨g1, g2⟩, hb⟩
  have e1 := pD_pos d
  have e2 := pD_pos d'
  have hz : pD d * pN n' d' ≠ 0 ↔ x' ≠ 0 := by
    constructor
    · intro h e
      subst e
      rw [Int.zero_mul] at h2'
      rcases Int.mul_eq_zero.1 h2' with h3 | h3
      · rw [h3] at h; simp at h
      · omega
    · intro h e
      rcases Int.mul_eq_zero.1 e with h3 | h3
      · omega
      · rw [h3, Int.zero_mul] at h2'
        rcases Int.mul_eq_zero.1 h2'.symm with h4 | h4
        · exact h h4
        · omega
  refine ⟨t, by rw [show decide (x' ≠ 0) = decide (pD d * pN n' d' ≠ 0) from decide_eq_decide.2 hz.symm], ?_, ?_, hb⟩
  · by_cases hd : pD d * pN n' d' = 0
    · exact (g1 hd).form
    · exact (g2 hd).form
  · intro hx
    have hd := hz.2 hx
    have h3 := (g2 hd).qv (pD_pos _)
    have h4 := pN_cross (n := pN n d * pD d') hd
    refine ⟨_, _, h3, ?_⟩
    refine Int.eq_of_mul_eq_mul_left (a := pD d * pD d') (Int.ne_of_gt (Int.mul_pos e1 e2)) ?_
    generalize pN (pN n d * pD d') (pD d * pN n' d') = P at *
    generalize pD (pD d * pN n' d') = Q at *
    generalize pN n d = N at *
    generalize pN n' d' = N' at *
    generalize pD d = E at *
    generalize pD d' = E' at *
    grind
end
end Go.Proofs.YthiiglhecajhbaaGreat
namespace Go.Proofs.YthiiglhecajhbaaGreat
open Go.RowKit
attribute [local go_sem ↓] Go.wp_at_zero Go.wp_at_succ
def BegunSaid : Prop := ∀ w : World, Calls Tryz.prog 6 #[] w fun e w' => e = .returned (.bool true) ∧ Below w.heap.size w w'
theorem boxes_field (w : World) (n1 : Bool) (a1 : Option Addr) (l1 c1 : Nat) (n2 : Bool) (a2 : Option Addr) (l2 c2 : Nat) (n3 : Bool) (a3 : Option Addr) (l3 c3 : Nat) (n4 : Bool) (a4 : Option Addr) (l4 c4 : Nat) (n5 : Bool) (a5 : Option Addr) (l5 c5 : Nat) (n6 : Bool) (a6 : Option Addr) (l6 c6 : Nat) : ∃ W, W = ((w.alloc (.cells #[.bool n1, .slice a1 l1 c1, .bool n2, .slice a2 l2 c2] 26)).alloc (.cells #[.bool n3, .slice a3 l3 c3, .bool n4, .slice a4 l4 c4] 26)).alloc (.cells #[.bool n5, .slice a5 l5 c5, .bool n6, .slice a6 l6 c6] 26) ∧ Below w.heap.size w W ∧ w.heap.size + 1 + 1 < W.heap.size ∧
    (W.cell? ⟨w.heap.size, 0, none⟩ = some (.bool n1) ∧ W.cell? ⟨w.heap.size, 1, none⟩ = some (.slice a1 l1 c1) ∧ W.cell? ⟨w.heap.size, 2, none⟩ = some (.bool n2) ∧ W.cell? ⟨w.heap.size, 3, none⟩ = some (.slice a2 l2 c2)) ∧
    (W.cell? ⟨w.heap.size + 1, 0, none⟩ = some (.bool n3) ∧ W.cell? ⟨w.heap.size + 1, 1, none⟩ = some (.slice a3 l3 c3) ∧ W.cell? ⟨w.heap.size + 1, 2, none⟩ = some (.bool n4) ∧ W.cell? ⟨w.heap.size + 1, 3, none⟩ = some (.slice a4 l4 c4)) ∧
    (W.cell? ⟨w.heap.size + 1 + 1, 0, none⟩ = some (.bool n5) ∧ W.cell? ⟨w.heap.size + 1 + 1, 1, none⟩ = some (.slice a5 l5 c5) ∧ W.cell? ⟨w.heap.size + 1 + 1, 2, none⟩ = some (.bool n6) ∧ W.cell? ⟨w.heap.size + 1 + 1, 3, none⟩ = some (.slice a6 l6 c6)) ∧ Box4 W w.heap.size ∧ Box4 W (w.heap.size + 1) ∧ Box4 W (w.heap.size + 1 + 1) := by
  refine ⟨_, rfl, (((Below.refl _ _).alloc (Nat.le_refl _) _).alloc (by simp) _).alloc (by simp; omega) _, by simp, ⟨?_, ?_, ?_, ?_⟩, ⟨?_, ?_, ?_, ?_⟩, ⟨?_, ?_, ?_, ?_⟩, ?x0, ?x1, ?x2⟩
  case x0 => exact (Box4.new w n1 a1 l1 c1 n2 a2 l2 c2 26 (by decide)).next (((Below.refl _ _).alloc (Nat.le_refl _) _).alloc (by simp) _)
  case x1 =>
    have h := Box4.new (w.alloc (.cells #[.bool n1, .slice a1 l1 c1, .bool n2, .slice a2 l2 c2] 26)) n3 a3 l3 c3 n4 a4 l4 c4 26 (by decide)
    rw [show (w.alloc (.cells #[.bool n1, .slice a1 l1 c1, .bool n2, .slice a2 l2 c2] 26)).heap.size = w.heap.size + 1 from by simp] at h
    exact h.next ((Below.refl _ _).alloc (Nat.le_refl _) _)
  case x2 =>
    have h := Box4.new ((w.alloc (.cells #[.bool n1, .slice a1 l1 c1, .bool n2, .slice a2 l2 c2] 26)).alloc (.cells #[.bool n3, .slice a3 l3 c3, .bool n4, .slice a4 l4 c4] 26)) n5 a5 l5 c5 n6 a6 l6 c6 26 (by decide)
    rw [show ((w.alloc (.cells #[.bool n1, .slice a1 l1 c1, .bool n2, .slice a2 l2 c2] 26)).alloc (.cells #[.bool n3, .slice a3 l3 c3, .bool n4, .slice a4 l4 c4] 26)).heap.size = w.heap.size + 1 + 1 from by simp] at h
    exact h
  all_goals simp [go_sem, World.cell?_alloc_past]
theorem cut_qv {w : World} (n1 : Bool) (x1 : Option Addr) (c1 : Nat) (xs : List Int) (n2 : Bool) (x2 : Option Addr) (c2 : Nat) (ys : List Int) (h1 : Row w .u32 4294967296 x1 c1 xs) (h2 : Row w .u32 4294967296 x2 c2 ys) :
    ∃ l1 l2 X Y, Hid (∀ w', Below w.heap.size w w' → Calls Tryz.prog 7 #[.agg #[.bool n1, .slice x1 xs.length c1, .bool n2, .slice x2 ys.length c2], .int .i64 3] w' fun e w'' => e = .returned (.agg #[.bool n1, .slice x1 l1 c1, .bool n2, .slice x2 l2 c2]) ∧ Below w.heap.size w w'') ∧ Qv w (.agg #[.bool n1, .slice x1 l1 c1, .bool n2, .slice x2 l2 c2]) X Y 3 := by
  refine ⟨(xs.take 3).length, (ys.take 3).length, _, _, ?_, (Frac.qv ⟨_, _, _, _, _, _, _, _, rfl, ⟨_, _, _, _, rfl, h1.take' 3, rfl, by simp; omega⟩, ⟨_, _, _, _, rfl, h2.take' 3, rfl, by simp; omega⟩⟩)⟩
  intro w' h
  refine (Cut26_any n1 x1 c1 xs n2 x2 c2 ys 3 (h1.next h) (h2.next h) (by decide)).mono ?_
  rintro e w'' ⟨rfl, h3⟩
  exact ⟨rfl, bthen h h3⟩
theorem put_one {w : World} {b : Nat} (h : Box4 w b) (m1 : Bool) (a1 : Option Addr) (l1 c1 : Nat) (m2 : Bool) (a2 : Option Addr) (l2 c2 : Nat) : ∃ W, W = (((w.setCell ⟨b, 0, none⟩ (.bool m1)).setCell ⟨b, 1, none⟩ (.slice a1 l1 c1)).setCell ⟨b, 2, none⟩ (.bool m2)).setCell ⟨b, 3, none⟩ (.slice a2 l2 c2) ∧ Chg b w W ∧ Boxed b w W ∧
    (W.cell? ⟨b, 0, none⟩ = some (.bool m1) ∧ W.cell? ⟨b, 1, none⟩ = some (.slice a1 l1 c1) ∧ W.cell? ⟨b, 2, none⟩ = some (.bool m2) ∧ W.cell? ⟨b, 3, none⟩ = some (.slice a2 l2 c2)) := by
  obtain ⟨_, _, _, _, _, _, _, _, j0, j1, j2, j3, _⟩ := h.cells
  refine ⟨_, rfl, (((Chg.set _ _ _ _).trans (Chg.set _ _ _ _)).trans (Chg.set _ _ _ _)).trans (Chg.set _ _ _ _), put4_boxed h.noint (Nat.le_refl _) _ _ _ _ _ _ _ _, ?_, ?_, ?_, ?_⟩
  all_goals simp [go_sem, j0, j1, j2, j3]
/-- What stands once the three are cut. -/
def FieldCut (w wc : World) (X1 Y1 X2 Y2 X3 Y3 : Int) : Prop :=
  Holds4 wc w.heap.size (fun v => Qv wc v X1 Y1 3) ∧ Holds4 wc (w.heap.size + 1) (fun v => Qv wc v X2 Y2 3) ∧ Holds4 wc (w.heap.size + 1 + 1) (fun v => Qv wc v X3 Y3 3) ∧ Below w.heap.size w wc ∧ w.heap.size + 1 + 1 < wc.heap.size
theorem put_three {w w4 : World} {X1 Y1 X2 Y2 X3 Y3 : Int} {n1 : Bool} {a1 : Option Addr} {l1 c1 : Nat} {n2 : Bool} {a2 : Option Addr} {l2 c2 : Nat} {n3 : Bool} {a3 : Option Addr} {l3 c3 : Nat} {n4 : Bool} {a4 : Option Addr} {l4 c4 : Nat} {n5 : Bool} {a5 : Option Addr} {l5 c5 : Nat} {n6 : Bool} {a6 : Option Addr} {l6 c6 : Nat}
    (hB : Below w.heap.size w w4) (y0 : Box4 w4 w.heap.size) (y1 : Box4 w4 (w.heap.size + 1)) (y2 : Box4 w4 (w.heap.size + 1 + 1)) (q1 : Qv w4 (.agg #[.bool n1, .slice a1 l1 c1, .bool n2, .slice a2 l2 c2]) X1 Y1 3) (q2 : Qv w4 (.agg #[.bool n3, .slice a3 l3 c3, .bool n4, .slice a4 l4 c4]) X2 Y2 3) (q3 : Qv w4 (.agg #[.bool n5, .slice a5 l5 c5, .bool n6, .slice a6 l6 c6]) X3 Y3 3) :
    ∃ W3, W3 = ((((((((((((w4.setCell ⟨w.heap.size, 0, none⟩ (.bool n1)).setCell ⟨w.heap.size, 1, none⟩ (.slice a1 l1 c1)).setCell ⟨w.heap.size, 2, none⟩ (.bool n2)).setCell ⟨w.heap.size, 3, none⟩ (.slice a2 l2 c2)).setCell ⟨w.heap.size + 1, 0, none⟩ (.bool n3)).setCell ⟨w.heap.size + 1, 1, none⟩ (.slice a3 l3 c3)).setCell ⟨w.heap.size + 1, 2, none⟩ (.bool n4)).setCell ⟨w.heap.size + 1, 3, none⟩ (.slice a4 l4 c4)).setCell ⟨w.heap.size + 1 + 1, 0, none⟩ (.bool n5)).setCell ⟨w.heap.size + 1 + 1, 1, none⟩ (.slice a5 l5 c5)).setCell ⟨w.heap.size + 1 + 1, 2, none⟩ (.bool n6)).setCell ⟨w.heap.size + 1 + 1, 3, none⟩ (.slice a6 l6 c6)) ∧ FieldCut w W3 X1 Y1 X2 Y2 X3 Y3 := by
  obtain ⟨W1, hW1, g1, b1, e0, e1, e2, e3⟩ := put_one y0 n1 a1 l1 c1 n2 a2 l2 c2
  have z1 : Box4 W1 (w.heap.size + 1) := y1.same (g1.block _ (by omega))
  have z2 : Box4 W1 (w.heap.size + 1 + 1) := y2.same (g1.block _ (by omega))
  obtain ⟨W2, hW2, g2, b2, e4, e5, e6, e7⟩ := put_one z1 n3 a3 l3 c3 n4 a4 l4 c4
  have z3 : Box4 W2 (w.heap.size + 1 + 1) := z2.same (g2.block _ (by omega))
  obtain ⟨W3, hW3, g3, b3, e8, e9, e10, e11⟩ := put_one z3 n5 a5 l5 c5 n6 a6 l6 c6
  refine ⟨W3, by rw [hW3, hW2, hW1], ?_, ?_, ⟨_, _, _, _, _, _, _, _, e8, e9, e10, e11, ((q3.chg g1 y0.noint).chg g2 z1.noint).chg g3 z3.noint⟩, ((hB.trans (g1.below _ (Nat.le_refl _))).trans (g2.below _ (by omega))).trans (g3.below _ (by omega)), ?_⟩
  · have h0 : Holds4 W1 w.heap.size (fun v => Qv W1 v X1 Y1 3) := ⟨_, _, _, _, _, _, _, _, e0, e1, e2, e3, q1.chg g1 y0.noint⟩
    exact (h0.chg g2 (by omega) (p' := fun v => Qv W2 v X1 Y1 3) fun v h => h.chg g2 z1.noint).chg g3 (by omega) fun v h => h.chg g3 z3.noint
  · have h0 : Holds4 W2 (w.heap.size + 1) (fun v => Qv W2 v X2 Y2 3) := ⟨_, _, _, _, _, _, _, _, e4, e5, e6, e7, (q2.chg g1 y0.noint).chg g2 z1.noint⟩
    exact h0.chg g3 (by omega) fun v h => h.chg g3 z3.noint
  · rw [g3.size, g2.size, g1.size]
    exact y2.noint.lt
section
variable {ops : Array Oper} {Q : Exit → Act → World → Prop} {V : Nat → Value → World → Prop} {S : List Nat} {N : Nat} {w : World}
theorem al26 {w : World} {o : Oper} {b : Act} {K : Act → World → Prop} (ho : o.op = .alloc 26) (h : K (b.put o.dst (.pointer (some ⟨w.heap.size, 0, none⟩))) (w.alloc (.cells #[.bool false, .slice none 0 0, .bool false, .slice none 0 0] 26))) : o.wp Tryz.prog b w K Q := by
  obtain ⟨dst, op, type, pos, after, guard⟩ := o
  dsimp only at ho
  subst ho
  unfold Oper.wp
  go_simp
  exact h
theorem ld26 {w : World} {p : Nat} {v0 v1 v2 v3 : Value} (h0 : w.cell? ⟨p, 0, none⟩ = some v0) (h1 : w.cell? ⟨p, 1, none⟩ = some v1) (h2 : w.cell? ⟨p, 2, none⟩ = some v2) (h3 : w.cell? ⟨p, 3, none⟩ = some v3) {o : Oper} {b : Act} {K : Act → World → Prop} (t : Nat) (ho : o.op = .load 26 (.tmp t)) (hb : b.tmps.getD t undef = .pointer (some ⟨p, 0, none⟩)) (h : K (b.put o.dst (.agg #[v0, v1, v2, v3])) w) : o.wp Tryz.prog b w K Q := by
  obtain ⟨dst, op, type, pos, after, guard⟩ := o
  dsimp only at ho
  subst ho
  unfold Oper.wp
  have e : b.eval (.tmp t) = .pointer (some ⟨p, 0, none⟩) := hb
  go_simp
  exact h
theorem step_new4 {o : Oper} (d : Nat) (ho : o.op = .alloc 26) (hd : o.dst = some d) (hg : o.guard = none) (hv : ∀ v w', Ptr4 w.heap.size S v w' → V d v w') : NewStep Tryz.prog ops Q V S N w o := by
  intro b w' hs hB hl K hK
  have hw : Region.wanted o (yielded ops b.tmps) = true := by simp [Region.wanted, hg]
  rw [if_pos hw]
  exact al26 ho (hK _ _ _ rfl (Nat.le_refl _) ((Below.refl _ _).alloc (Nat.le_refl _) _) (dst_eq hd (hv _ _ ⟨_, rfl, Box4.new _ _ _ _ _ _ _ _ _ _ (by decide), .inl hB.size⟩)))
end
end Go.Proofs.YthiiglhecajhbaaGreat
