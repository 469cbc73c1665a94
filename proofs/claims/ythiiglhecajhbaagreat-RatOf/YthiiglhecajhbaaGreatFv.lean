/- Fractions as what they are worth: x over y. -/
import Derived.Test.YthiiglhecajhbaaGreatFt
namespace Go.Proofs.YthiiglhecajhbaaGreat
open Go.RowKit
/-- v is worth x over y. -/
def Qv (w : World) (v : Value) (x y : Int) (m : Nat) : Prop := 0 < y ∧ ∃ n d, Frac w v n d m ∧ pN n d * y = x * pD d
section
variable {w w' : World} {u v : Value} {x y x' y' : Int} {m b : Nat}
theorem Qv.next (h : Qv w v x y m) (hb : Below w.heap.size w w') : Qv w' v x y m := by
  obtain ⟨h0, n, d, h1, h2⟩ := h
  exact ⟨h0, n, d, h1.next hb, h2⟩
theorem Qv.chg (h : Qv w v x y m) (hc : Chg b w w') (hb : NoInt w b) : Qv w' v x y m := by
  obtain ⟨h0, n, d, h1, h2⟩ := h
  exact ⟨h0, n, d, h1.chg hc hb, h2⟩
theorem Qv.form (h : Qv w v x y m) : ∃ n1 a1 l1 c1 n2 a2 l2 c2, v = .agg #[.bool n1, .slice a1 l1 c1, .bool n2, .slice a2 l2 c2] := by
  obtain ⟨_, n, d, h1, _⟩ := h
  exact h1.form
theorem Frac.more {n d : Int} {k : Nat} (h : Frac w v n d m) (hk : m ≤ k) : Frac w v n d k := by
  obtain ⟨n1, a1, l1, c1, n2, a2, l2, c2, hv, h1, h2⟩ := h
  exact ⟨n1, a1, l1, c1, n2, a2, l2, c2, hv, h1.more' hk, h2.more' hk⟩
theorem Qv.more {k : Nat} (h : Qv w v x y m) (hk : m ≤ k) : Qv w v x y k := by
  obtain ⟨h0, n, d, h1, h2⟩ := h
  exact ⟨h0, n, d, h1.more hk, h2⟩
theorem Frac.qv {n d : Int} (h : Frac w v n d m) : Qv w v (pN n d) (pD d) m := ⟨pD_pos d, n, d, h, rfl⟩
theorem LowE.qv {n d : Int} (h : LowE w v n d m) (hd : 0 < d) : Qv w v n d m := by
  obtain ⟨p, q, h1, h2, _, h3⟩ := h
  exact ⟨hd, p, q, h1.frac, by rw [pN_pos h2, pD_of h2]; exact h3⟩
theorem Qv.to {X Y : Int} (h : Qv w v x y m) (hY : 0 < Y) (e : x * Y = X * y) : Qv w v X Y m := by
  obtain ⟨h0, n, d, h1, h2⟩ := h
  refine ⟨hY, n, d, h1, ?_⟩
  refine Int.eq_of_mul_eq_mul_left (Int.ne_of_gt h0) ?_
  grind
theorem Add_qv (hu : Qv w u x y m) (hv : Qv w v x' y' m) (hm : m ≤ 80) :
    Calls Tryz.prog 16 #[u, v] w fun e w' => ∃ t, e = .returned t ∧ Qv w' t (x * y' + x' * y) (y * y') (2 * m + 7) ∧ Below w.heap.size w w' := by
  obtain ⟨h0, n, d, h1, h2⟩ := hu
  obtain ⟨h0', n', d', h1', h2'⟩ := hv
  refine (Add26_num h1 h1' hm).mono ?_
  rintro e w' ⟨t, rfl, h, hb⟩
  refine ⟨t, rfl, (h.qv (Int.mul_pos (pD_pos d) (pD_pos d'))).to (Int.mul_pos h0 h0') ?_, hb⟩
  grind
theorem Sub_qv (hu : Qv w u x y m) (hv : Qv w v x' y' m) (hm : m ≤ 80) :
    Calls Tryz.prog 18 #[u, v] w fun e w' => ∃ t, e = .returned t ∧ Qv w' t (x * y' - x' * y) (y * y') (2 * m + 7) ∧ Below w.heap.size w w' := by
  obtain ⟨h0, n, d, h1, h2⟩ := hu
  obtain ⟨h0', n', d', h1', h2'⟩ := hv
  refine (Sub26_num h1 h1' hm).mono ?_
  rintro e w' ⟨t, rfl, h, hb⟩
  refine ⟨t, rfl, (h.qv (Int.mul_pos (pD_pos d) (pD_pos d'))).to (Int.mul_pos h0 h0') ?_, hb⟩
  grind
theorem Mul_qv (hu : Qv w u x y m) (hv : Qv w v x' y' m) (hm : m ≤ 80) :
    Calls Tryz.prog 20 #[u, v] w fun e w' => ∃ t, e = .returned t ∧ Qv w' t (x * x') (y * y') (2 * m + 6) ∧ Below w.heap.size w w' := by
  obtain ⟨h0, n, d, h1, h2⟩ := hu
  obtain ⟨h0', n', d', h1', h2'⟩ := hv
  refine (Mul26_num h1 h1' hm).mono ?_
  rintro e w' ⟨t, rfl, h, hb⟩
  refine ⟨t, rfl, (h.qv (Int.mul_pos (pD_pos d) (pD_pos d'))).to (Int.mul_pos h0 h0') ?_, hb⟩
  grind
theorem Neg_qv (hu : Qv w u x y m) (hm : m ≤ 190) :
    Calls Tryz.prog 22 #[u] w fun e w' => ∃ t, e = .returned t ∧ Qv w' t (-x) y (m + 2) ∧ Below w.heap.size w w' := by
  obtain ⟨h0, n, d, h1, h2⟩ := hu
  refine (Neg26_num h1 hm).mono ?_
  rintro e w' ⟨t, rfl, h, hb⟩
  refine ⟨t, rfl, (h.qv (pD_pos d)).to h0 ?_, hb⟩
  have : pN (-n) d = -(pN n d) := by unfold pN; split <;> omega
  rw [this]
  grind
theorem cmpI_scale {A B C D k l : Int} (hk : 0 < k) (hl : 0 < l) (h1 : A * k = C * l) (h2 : B * k = D * l) : cmpI A B = cmpI C D := by
  have i1 : A < B ↔ C < D := by
    rw [← Int.mul_lt_mul_right hk, h1, h2, Int.mul_lt_mul_right hl]
  have i2 : B < A ↔ D < C := by
    rw [← Int.mul_lt_mul_right hk, h1, h2, Int.mul_lt_mul_right hl]
  unfold cmpI
  simp only [i1]
  repeat' split
  all_goals first | rfl | omega
theorem Cmp_qv (hu : Qv w u x y m) (hv : Qv w v x' y' m) (hm : m ≤ 80) :
    Calls Tryz.prog 24 #[u, v] w fun e w' => e = .returned (.int .i64 (cmpI (x * y') (x' * y))) ∧ Below w.heap.size w w' := by
  obtain ⟨h0, n, d, h1, h2⟩ := hu
  obtain ⟨h0', n', d', h1', h2'⟩ := hv
  refine (Cmp26_num h1 h1' hm).mono ?_
  rintro e w' ⟨rfl, hb⟩
  refine ⟨?_, hb⟩
  rw [cmpI_scale (k := y * y') (l := pD d * pD d') (C := x * y') (D := x' * y) (Int.mul_pos h0 h0') (Int.mul_pos (pD_pos d) (pD_pos d')) (by grind) (by grind)]
theorem pN_cross {n d : Int} (h : d ≠ 0) : pN n d * d = n * pD d := by
  unfold pN pD
  repeat' split
  all_goals first | omega | grind
/-- What Quo answers: its value where there is one. -/
def QuoV (w : World) (v : Value) (x y x' y' : Int) (m : Nat) : Prop := x' ≠ 0 → ∃ p q, Qv w v p q m ∧ p * (y * x') = x * y' * q
theorem QuoV.next (h : QuoV w v x y x' y' m) (hb : Below w.heap.size w w') : QuoV w' v x y x' y' m := fun e => by
  obtain ⟨p, q, h1, h2⟩ := h e
  exact ⟨p, q, h1.next hb, h2⟩
theorem QuoV.chg (h : QuoV w v x y x' y' m) (hc : Chg b w w') (hb : NoInt w b) : QuoV w' v x y x' y' m := fun e => by
  obtain ⟨p, q, h1, h2⟩ := h e
  exact ⟨p, q, h1.chg hc hb, h2⟩
theorem Quo_qv (hu : Qv w u x y m) (hv : Qv w v x' y' m) (hm : m ≤ 80) :
    Calls Tryz.prog 9 #[u, v] w fun e w' => ∃ t, e = .returned (.tuple #[t, .bool (decide (x' ≠ 0))]) ∧ (∃ n1 a1 l1 c1 n2 a2 l2 c2, t = .agg #[.bool n1, .slice a1 l1 c1, .bool n2, .slice a2 l2 c2]) ∧ QuoV w' t x y x' y' (2 * m + 6) ∧ Below w.heap.size w w' := by
  obtain ⟨h0, n, d, h1, h2⟩ := hu
  obtain ⟨h0', n', d', h1', h2'⟩ := hv
  refine (Quo26_num h1 h1' hm).mono ?_
  rintro e w' ⟨t, rfl, ⟨g1, g2⟩, hb⟩
  have e1 := pD_pos d
  have e2 := pD_pos d'
  have hz : pD d * pN n' d' ≠ 0 ↔ x' ≠ 0 := by
    constructor
    · intro h e
      subst e
      rw [Int.zero_mul] at h2'
      rcases Int.mul_eq_zero.1 h2' with h3 | h3
      · rw [h3] at h; simp at h
      · omega
    · intro h e
      rcases Int.mul_eq_zero.1 e with h3 | h3
      · omega
      · rw [h3, Int.zero_mul] at h2'
        rcases Int.mul_eq_zero.1 h2'.symm with h4 | h4
        · exact h h4
        · omega
  refine ⟨t, by rw [show decide (x' ≠ 0) = decide (pD d * pN n' d' ≠ 0) from decide_eq_decide.2 hz.symm], ?_, ?_, hb⟩
  · by_cases hd : pD d * pN n' d' = 0
    · exact (g1 hd).form
    · exact (g2 hd).form
  · intro hx
    have hd := hz.2 hx
    have h3 := (g2 hd).qv (pD_pos _)
    have h4 := pN_cross (n := pN n d * pD d') hd
    refine ⟨_, _, h3, ?_⟩
    refine Int.eq_of_mul_eq_mul_left (a := pD d * pD d') (Int.ne_of_gt (Int.mul_pos e1 e2)) ?_
    generalize pN (pN n d * pD d') (pD d * pN n' d') = P at *
    generalize pD (pD d * pN n' d') = Q at *
    generalize pN n d = N at *
    generalize pN n' d' = N' at *
    generalize pD d = E at *
    generalize pD d' = E' at *
    grind
end
end Go.Proofs.YthiiglhecajhbaaGreat
