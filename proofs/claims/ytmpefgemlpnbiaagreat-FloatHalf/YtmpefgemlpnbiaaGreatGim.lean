/- Fractions of the second road in drawn regions: how they are read and put; lowest terms. -/
import Derived.Test.YtmpefgemlpnbiaaGreatGdm
namespace Go.Proofs.YtmpefgemlpnbiaaGreat
set_option linter.unusedVariables false
open Go.RowKit
attribute [local go_sem ↓] Go.wp_at_zero Go.wp_at_succ
theorem low_cross {a b a' b' p q p' q' : Int} (h : Low a b p q) (h' : Low a' b' p' q') (hb : b ≠ 0) (hb' : b' ≠ 0) (e : a * b' = a' * b) : p = p' ∧ q = q' := by
  refine low_uniq h.1 h'.1 h.2.1 h'.2.1 ?_
  have e1 := h.2.2
  have e2 := h'.2.2
  have : p * q' * (b * b') = p' * q * (b * b') := by
    have a1 : p * q' * (b * b') = (p * b) * (q' * b') := by grind
    have a2 : p' * q * (b * b') = (p' * b') * (q * b) := by grind
    rw [a1, a2, e1, e2]
    have a3 : a * q * (q' * b') = (a * b') * (q * q') := by grind
    have a4 : a' * q' * (q * b) = (a' * b) * (q * q') := by grind
    rw [a3, a4, e]
  exact Int.eq_of_mul_eq_mul_right (Int.mul_ne_zero hb hb') this
theorem pD_same {d : Int} (h : 0 < d) : pD d = d := by unfold pD; rw [if_neg (by omega), if_neg (by omega)]
theorem low_add {N D N' D' p q p' q' P Q P' Q' : Int} (h : Low N D p q) (h' : Low N' D' p' q') (hD : 0 < D) (hD' : 0 < D') (k : Low (N * D' + N' * D) (D * D') P Q) (k' : Low (pN (p * q' + p' * q) (q * q')) (pD (q * q')) P' Q') : P = P' ∧ Q = Q' := by
  have hq : 0 < q * q' := Int.mul_pos h.1 h'.1
  rw [pN_pos hq, pD_same hq] at k'
  refine low_cross k k' (Int.mul_ne_zero (by omega) (by omega)) (by omega) ?_
  have e1 := h.2.2
  have e2 := h'.2.2
  have a1 : (N * D' + N' * D) * (q * q') = (N * q) * (D' * q') + (N' * q') * (D * q) := by grind
  have a2 : (p * q' + p' * q) * (D * D') = (p * D) * (D' * q') + (p' * D') * (D * q) := by grind
  rw [a1, a2, e1, e2]
theorem low_sub {N D N' D' p q p' q' P Q P' Q' : Int} (h : Low N D p q) (h' : Low N' D' p' q') (hD : 0 < D) (hD' : 0 < D') (k : Low (N * D' - N' * D) (D * D') P Q) (k' : Low (pN (p * q' + -p' * q) (q * q')) (pD (q * q')) P' Q') : P = P' ∧ Q = Q' := by
  have hq : 0 < q * q' := Int.mul_pos h.1 h'.1
  rw [pN_pos hq, pD_same hq] at k'
  refine low_cross k k' (Int.mul_ne_zero (by omega) (by omega)) (by omega) ?_
  have e1 := h.2.2
  have e2 := h'.2.2
  have a1 : (N * D' - N' * D) * (q * q') = (N * q) * (D' * q') - (N' * q') * (D * q) := by grind
  have a2 : (p * q' + -p' * q) * (D * D') = (p * D) * (D' * q') - (p' * D') * (D * q) := by grind
  rw [a1, a2, e1, e2]
theorem low_mul {N D N' D' p q p' q' P Q P' Q' : Int} (h : Low N D p q) (h' : Low N' D' p' q') (hD : 0 < D) (hD' : 0 < D') (k : Low (N * N') (D * D') P Q) (k' : Low (pN (p * p') (q * q')) (pD (q * q')) P' Q') : P = P' ∧ Q = Q' := by
  have hq : 0 < q * q' := Int.mul_pos h.1 h'.1
  rw [pN_pos hq, pD_same hq] at k'
  refine low_cross k k' (Int.mul_ne_zero (by omega) (by omega)) (by omega) ?_
  have e1 := h.2.2
  have e2 := h'.2.2
  have a1 : (N * N') * (q * q') = (N * q) * (N' * q') := by grind
  have a2 : (p * p') * (D * D') = (p * D) * (p' * D') := by grind
  rw [a1, a2, e1, e2]
theorem cross_sign {y z A B : Int} (hz : z ≠ 0) (hB : B ≠ 0) (e : y * B = A * z) : pN y z * pD B = pN A B * pD z := by
  unfold pN pD
  by_cases h1 : z < 0 <;> by_cases h2 : B < 0 <;> simp only [h1, h2, if_true, if_false, hz, hB] <;> grind
theorem low_quo {N D N' D' p q p' q' P Q P' Q' : Int} (h : Low N D p q) (h' : Low N' D' p' q') (hD : 0 < D) (hD' : 0 < D') (hp : p' ≠ 0) (hN : N' ≠ 0) (k : Low (pN (N * D') (D * N')) (pD (D * N')) P Q) (k' : Low (pN (p * q') (q * p')) (pD (q * p')) P' Q') : P = P' ∧ Q = Q' := by
  have hq := h.1
  have hq' := h'.1
  have d1 := pD_pos (D * N')
  have d2 := pD_pos (q * p')
  refine low_cross k k' (by omega) (by omega) ?_
  refine cross_sign (Int.mul_ne_zero (by omega) hN) (Int.mul_ne_zero (by omega) hp) ?_
  have e1 := h.2.2
  have e2 := h'.2.2
  have a1 : (N * D') * (q * p') = (N * q) * (p' * D') := by grind
  have a2 : (p * q') * (D * N') = (p * D) * (N' * q') := by grind
  rw [a1, a2, e1, e2]
theorem low_zero {N D p q : Int} (h : Low N D p q) (hD : 0 < D) : p = 0 ↔ N = 0 := by
  have e := h.2.2
  have hq := h.1
  constructor
  · intro hp
    subst hp
    rw [Int.zero_mul] at e
    rcases Int.mul_eq_zero.1 e.symm with h | h
    · exact h
    · omega
  · intro hn
    subst hn
    rw [Int.zero_mul] at e
    rcases Int.mul_eq_zero.1 e with h | h
    · exact h
    · omega
theorem low_neg {n d p q P Q : Int} (h : Low (pN n d) (pD d) p q) (k : Low (pN (-n) d) (pD d) P Q) : P = -p ∧ Q = q := by
  have hd := pD_pos d
  have h2 : Low (pN (-n) d) (pD d) (-p) q := by
    refine ⟨h.1, by rw [Int.natAbs_neg]; exact h.2.1, ?_⟩
    have e := h.2.2
    have : pN (-n) d = - pN n d := by unfold pN; split <;> rfl
    rw [this, Int.neg_mul, Int.neg_mul, e]
  exact low_cross k h2 (by omega) (by omega) rfl
theorem low_cmp {N D N' D' p q p' q' : Int} (h : Low N D p q) (h' : Low N' D' p' q') (hD : 0 < D) (hD' : 0 < D') : (N * D' < N' * D ↔ p * q' < p' * q) ∧ (N * D' = N' * D ↔ p * q' = p' * q) := by
  have e1 := h.2.2
  have e2 := h'.2.2
  have hq : 0 < q * q' := Int.mul_pos h.1 h'.1
  have hd : 0 < D * D' := Int.mul_pos hD hD'
  have a1 : (N * D') * (q * q') = (p * q') * (D * D') := by
    have : (N * D') * (q * q') = (N * q) * (D' * q') := by grind
    rw [this, ← e1]; grind
  have a2 : (N' * D) * (q * q') = (p' * q) * (D * D') := by
    have : (N' * D) * (q * q') = (N' * q') * (D * q) := by grind
    rw [this, ← e2]; grind
  constructor
  · constructor
    · intro hl
      have := Int.mul_lt_mul_of_pos_right hl hq
      rw [a1, a2] at this
      exact Int.lt_of_mul_lt_mul_right this (by omega)
    · intro hl
      have := Int.mul_lt_mul_of_pos_right hl hd
      rw [← a1, ← a2] at this
      exact Int.lt_of_mul_lt_mul_right this (by omega)
  · constructor
    · intro hl
      have : (N * D') * (q * q') = (N' * D) * (q * q') := by rw [hl]
      rw [a1, a2] at this
      exact Int.eq_of_mul_eq_mul_right (by omega) this
    · intro hl
      have : (p * q') * (D * D') = (p' * q) * (D * D') := by rw [hl]
      rw [← a1, ← a2] at this
      exact Int.eq_of_mul_eq_mul_right (by omega) this
theorem low_int {N D p q : Int} (h : Low N D p q) (hD : 0 < D) : (N.tmod D = 0 ↔ q = 1) ∧ (q = 1 → N.tdiv D = p) := by
  have e := h.2.2
  have hq := h.1
  have hk : q = 1 → N = p * D := fun h1 => by subst h1; omega
  refine ⟨⟨fun hm => ?_, fun h1 => ?_⟩, fun h1 => ?_⟩
  · obtain ⟨c, hc⟩ := Int.dvd_of_tmod_eq_zero hm
    have : p * D = c * q * D := by rw [e, hc]; grind
    have hp : p = c * q := Int.eq_of_mul_eq_mul_right (by omega) this
    have hg := h.2.1
    rw [hp, Int.natAbs_mul, Nat.gcd_comm, Nat.gcd_mul_left_right] at hg
    omega
  · rw [hk h1]; exact Int.mul_tmod_left _ _
  · rw [hk h1]; exact Int.mul_tdiv_cancel _ (by omega)
/-- A fraction of the second road, lowest terms of n over d. -/
def LowR (w : World) (v : Value) (n d : Int) (m : Nat) : Prop := ∃ p q, RatR w v p q m ∧ Low n d p q
section
variable {w w' : World} {b : Nat} {v : Value} {p q n d : Int} {m k : Nat}
theorem RatR.chg (h : RatR w v p q m) (hc : Chg b w w') (hb : NoInt w b) : RatR w' v p q m := by
  obtain ⟨n1, a1, l1, c1, n2, a2, l2, c2, hv, h1, h2⟩ := h
  exact ⟨n1, a1, l1, c1, n2, a2, l2, c2, hv, h1.chg hc hb, h2.chg hc hb⟩
theorem RatR.form (h : RatR w v p q m) : ∃ n1 a1 l1 c1 n2 a2 l2 c2, v = .agg #[.bool n1, .slice a1 l1 c1, .bool n2, .slice a2 l2 c2] := by
  obtain ⟨n1, a1, l1, c1, n2, a2, l2, c2, hv, _⟩ := h
  exact ⟨n1, a1, l1, c1, n2, a2, l2, c2, hv⟩
theorem RatR.more (h : RatR w v p q m) (hk : m ≤ k) : RatR w v p q k := by
  obtain ⟨n1, a1, l1, c1, n2, a2, l2, c2, hv, h1, h2⟩ := h
  exact ⟨n1, a1, l1, c1, n2, a2, l2, c2, hv, h1.mono hk, h2.mono hk⟩
theorem RatR.parts {n1 n2 : Bool} {a1 a2 : Option Addr} {l1 c1 l2 c2 : Nat} (h : RatR w (.agg #[.bool n1, .slice a1 l1 c1, .bool n2, .slice a2 l2 c2]) p q m) : Rint w (.agg #[.bool n1, .slice a1 l1 c1]) p m ∧ Rint w (.agg #[.bool n2, .slice a2 l2 c2]) q m := by
  obtain ⟨m1, x1, k1, d1, m2, x2, k2, d2, hv, h1, h2⟩ := h
  simp at hv
  obtain ⟨rfl, ⟨rfl, rfl, rfl⟩, rfl, rfl, rfl, rfl⟩ := hv
  exact ⟨h1, h2⟩
theorem LowR.next (h : LowR w v n d m) (hb : Below w.heap.size w w') : LowR w' v n d m := by
  obtain ⟨p, q, h1, h2⟩ := h
  exact ⟨p, q, h1.next hb, h2⟩
theorem LowR.chg (h : LowR w v n d m) (hc : Chg b w w') (hb : NoInt w b) : LowR w' v n d m := by
  obtain ⟨p, q, h1, h2⟩ := h
  exact ⟨p, q, h1.chg hc hb, h2⟩
theorem LowR.form (h : LowR w v n d m) : ∃ n1 a1 l1 c1 n2 a2 l2 c2, v = .agg #[.bool n1, .slice a1 l1 c1, .bool n2, .slice a2 l2 c2] := by
  obtain ⟨p, q, h1, h2⟩ := h
  exact h1.form
theorem LowR.more (h : LowR w v n d m) (hk : m ≤ k) : LowR w v n d k := by
  obtain ⟨p, q, h1, h2⟩ := h
  exact ⟨p, q, h1.more hk, h2⟩
theorem Rint.but {S : List Nat} (h : Rint w v p m) (hW : BelowBut S w w') (hS : ∀ k, k ∈ S → NoInt w k) : Rint w' v p m := by
  obtain ⟨neg, a, cap, ds, hv, hr, r⟩ := h
  refine ⟨neg, a, cap, ds, hv, ⟨hr.le, hr.max, hr.nil, fun x hx i hi => ?_, hr.words⟩, r⟩
  refine hW.cell (hr.cell x hx i hi) ?_
  rw [add_block]
  intro hs
  subst hx
  exact (hS _ hs).apart hr (by intro e; subst e; simp at hi) rfl
theorem RatR.but {S : List Nat} (h : RatR w v p q m) (hW : BelowBut S w w') (hS : ∀ k, k ∈ S → NoInt w k) : RatR w' v p q m := by
  obtain ⟨n1, a1, l1, c1, n2, a2, l2, c2, hv, h1, h2⟩ := h
  exact ⟨n1, a1, l1, c1, n2, a2, l2, c2, hv, h1.but hW hS, h2.but hW hS⟩
end
section
variable {ops : Array Oper} {Q : Exit → Act → World → Prop} {V : Nat → Value → World → Prop} {C : Nat → Nat → World → Prop} {S : List Nat} {N : Nat} {w : World}
theorem fa34_0 {p : Nat} {o : Oper} {b : Act} {K : Act → World → Prop} (t : Nat) (ho : o.op = .fieldAddr 34 (.tmp t) 0) (hb : b.tmps.getD t undef = .pointer (some ⟨p, 0, none⟩)) (h : K (b.put o.dst (.pointer (some ⟨p, 0, none⟩))) w) : o.wp Tryz.prog b w K Q := by
  obtain ⟨dst, op, type, pos, after, guard⟩ := o
  dsimp only at ho
  subst ho
  unfold Oper.wp
  have e : b.eval (.tmp t) = .pointer (some ⟨p, 0, none⟩) := hb
  go_simp
  exact h
theorem fa34_1 {p : Nat} {o : Oper} {b : Act} {K : Act → World → Prop} (t : Nat) (ho : o.op = .fieldAddr 34 (.tmp t) 1) (hb : b.tmps.getD t undef = .pointer (some ⟨p, 0, none⟩)) (h : K (b.put o.dst (.pointer (some ⟨p, 2, none⟩))) w) : o.wp Tryz.prog b w K Q := by
  obtain ⟨dst, op, type, pos, after, guard⟩ := o
  dsimp only at ho
  subst ho
  unfold Oper.wp
  have e : b.eval (.tmp t) = .pointer (some ⟨p, 0, none⟩) := hb
  go_simp
  exact h
theorem fa26_0 {p : Nat} {o : Oper} {b : Act} {K : Act → World → Prop} (t : Nat) (ho : o.op = .fieldAddr 26 (.tmp t) 0) (hb : b.tmps.getD t undef = .pointer (some ⟨p, 0, none⟩)) (h : K (b.put o.dst (.pointer (some ⟨p, 0, none⟩))) w) : o.wp Tryz.prog b w K Q := by
  obtain ⟨dst, op, type, pos, after, guard⟩ := o
  dsimp only at ho
  subst ho
  unfold Oper.wp
  have e : b.eval (.tmp t) = .pointer (some ⟨p, 0, none⟩) := hb
  go_simp
  exact h
theorem ld32b {p : Nat} {v0 v1 : Value} (h0 : w.cell? ⟨p, 2, none⟩ = some v0) (h1 : w.cell? ⟨p, 3, none⟩ = some v1) {o : Oper} {b : Act} {K : Act → World → Prop} {Q : Exit → Act → World → Prop} (t : Nat) (ho : o.op = .load 32 (.tmp t)) (hb : b.tmps.getD t undef = .pointer (some ⟨p, 2, none⟩)) (h : K (b.put o.dst (.agg #[v0, v1])) w) : o.wp Tryz.prog b w K Q := by
  obtain ⟨dst, op, type, pos, after, guard⟩ := o
  dsimp only at ho
  subst ho
  unfold Oper.wp
  have e : b.eval (.tmp t) = .pointer (some ⟨p, 2, none⟩) := hb
  go_simp
  exact h
theorem ld34 {p : Nat} {v0 v1 v2 v3 : Value} (h0 : w.cell? ⟨p, 0, none⟩ = some v0) (h1 : w.cell? ⟨p, 1, none⟩ = some v1) (h2 : w.cell? ⟨p, 2, none⟩ = some v2) (h3 : w.cell? ⟨p, 3, none⟩ = some v3) {o : Oper} {b : Act} {K : Act → World → Prop} (t : Nat) (ho : o.op = .load 34 (.tmp t)) (hb : b.tmps.getD t undef = .pointer (some ⟨p, 0, none⟩)) (h : K (b.put o.dst (.agg #[v0, v1, v2, v3])) w) : o.wp Tryz.prog b w K Q := by
  obtain ⟨dst, op, type, pos, after, guard⟩ := o
  dsimp only at ho
  subst ho
  unfold Oper.wp
  have e : b.eval (.tmp t) = .pointer (some ⟨p, 0, none⟩) := hb
  go_simp
  exact h
theorem st34 {g : Nat} {m1 m2 m3 m4 : Bool} {a1 a2 a3 a4 : Option Addr} {l1 l2 l3 l4 c1 c2 c3 c4 : Nat} (k0 : w.cell? ⟨g, 0, none⟩ = some (.bool m1)) (k1 : w.cell? ⟨g, 1, none⟩ = some (.slice a1 l1 c1)) (k2 : w.cell? ⟨g, 2, none⟩ = some (.bool m2)) (k3 : w.cell? ⟨g, 3, none⟩ = some (.slice a2 l2 c2)) (f : ∀ o, w.frozen? ⟨g, o, none⟩ = false) {o : Oper} {b : Act} {K : Act → World → Prop} (s t : Nat) (ho : o.op = .store 34 (.tmp s) (.tmp t)) (hd : o.dst = none) (hs : b.tmps.getD s undef = .pointer (some ⟨g, 0, none⟩)) (ht : b.tmps.getD t undef = .agg #[.bool m3, .slice a3 l3 c3, .bool m4, .slice a4 l4 c4])
    (h : K b ((((w.setCell ⟨g, 0, none⟩ (.bool m3)).setCell ⟨g, 1, none⟩ (.slice a3 l3 c3)).setCell ⟨g, 2, none⟩ (.bool m4)).setCell ⟨g, 3, none⟩ (.slice a4 l4 c4))) : o.wp Tryz.prog b w K Q := by
  obtain ⟨dst, op, type, pos, after, guard⟩ := o
  dsimp only at ho hd
  subst ho
  subst hd
  unfold Oper.wp
  have e : b.eval (.tmp s) = .pointer (some ⟨g, 0, none⟩) := hs
  have e' : b.eval (.tmp t) = .agg #[.bool m3, .slice a3 l3 c3, .bool m4, .slice a4 l4 c4] := ht
  have f0 := f 0
  have f1 := f 1
  have f2 := f 2
  have f3 := f 3
  go_simp
  exact h
theorem bd34 {m1 m2 : Bool} {a1 a2 : Option Addr} {l1 l2 c1 c2 : Nat} {o : Oper} {b : Act} {K : Act → World → Prop} (s t : Nat) (ho : o.op = .build 34 #[(0, .tmp s), (1, .tmp t)]) (hs : b.tmps.getD s undef = .agg #[.bool m1, .slice a1 l1 c1]) (ht : b.tmps.getD t undef = .agg #[.bool m2, .slice a2 l2 c2])
    (h : K (b.put o.dst (.agg #[.bool m1, .slice a1 l1 c1, .bool m2, .slice a2 l2 c2])) w) : o.wp Tryz.prog b w K Q := by
  obtain ⟨dst, op, type, pos, after, guard⟩ := o
  dsimp only at ho
  subst ho
  unfold Oper.wp
  have e : b.eval (.tmp s) = .agg #[.bool m1, .slice a1 l1 c1] := hs
  have e' : b.eval (.tmp t) = .agg #[.bool m2, .slice a2 l2 c2] := ht
  rw [Array.getD_eq_getD_getElem?] at hs ht
  go_simp
  exact h
theorem step_put34 {o : Oper} (j s t : Nat) (ho : o.op = .store 34 (.tmp s) (.tmp t)) (hd : o.dst = none) (hg : o.guard = none) (hl : (o.looksAt ops).contains t = true) (_hl' : (o.looksAt ops).contains s = true)
    (hf : (∀ v w, V t v w → ∃ m a l c m' a' l' c', v = .agg #[.bool m, .slice a l c, .bool m', .slice a' l' c']) ∧ ∀ g w' w'' m a l c m' a' l' c', V t (.agg #[.bool m, .slice a l c, .bool m', .slice a' l' c']) w' → Chg g w' w'' → Box4 w' g → w''.cell? ⟨g, 0, none⟩ = some (.bool m) → w''.cell? ⟨g, 1, none⟩ = some (.slice a l c) → w''.cell? ⟨g, 2, none⟩ = some (.bool m') → w''.cell? ⟨g, 3, none⟩ = some (.slice a' l' c') → C j g w'') : PutStep Tryz.prog ops Q V Box4 C S N w j s o := by
  intro b w' hs hB hlk g hgp hbx K hK
  have hw : Region.wanted o (yielded ops b.tmps) = true := by simp [Region.wanted, hg]
  rw [if_pos hw]
  have hvt := look hlk t hl
  obtain ⟨m, a, l, c, m', a', l', c', hv⟩ := hf.1 _ _ hvt
  rw [hv] at hvt
  obtain ⟨_, _, _, _, _, _, _, _, k0, k1, k2, k3, f⟩ := hbx.cells
  obtain ⟨X, hX⟩ : ∃ X, X = (((w'.setCell ⟨g, 0, none⟩ (.bool m)).setCell ⟨g, 1, none⟩ (.slice a l c)).setCell ⟨g, 2, none⟩ (.bool m')).setCell ⟨g, 3, none⟩ (.slice a' l' c') := ⟨_, rfl⟩
  have hch : Chg g w' X := by rw [hX]; exact (((Chg.set _ _ _ _).trans (Chg.set _ _ _ _)).trans (Chg.set _ _ _ _)).trans (Chg.set _ _ _ _)
  have r0 : X.cell? ⟨g, 0, none⟩ = some (.bool m) := by rw [hX]; simp [go_sem, k0]
  have r1 : X.cell? ⟨g, 1, none⟩ = some (.slice a l c) := by rw [hX]; simp [go_sem, k1]
  have r2 : X.cell? ⟨g, 2, none⟩ = some (.bool m') := by rw [hX]; simp [go_sem, k2]
  have r3 : X.cell? ⟨g, 3, none⟩ = some (.slice a' l' c') := by rw [hX]; simp [go_sem, k3]
  have hbp : Box4 X g := by rw [hX]; exact hbx.put m a l c m' a' l' c'
  have key := hK undef _ hch hbp (hf.2 g _ _ m a l c m' a' l' c' hvt hch hbx r0 r1 r2 r3)
  have e : b.put o.dst undef = b := by rw [hd]; rfl
  rw [e, hX] at key
  exact st34 k0 k1 k2 k3 f s t ho hd hgp hv key
end
theorem boxes_op34 (w : World) (n1 : Bool) (a1 : Option Addr) (l1 c1 : Nat) (n2 : Bool) (a2 : Option Addr) (l2 c2 : Nat) (n3 : Bool) (a3 : Option Addr) (l3 c3 : Nat) (n4 : Bool) (a4 : Option Addr) (l4 c4 : Nat) : ∃ W, W = ((w.alloc (.cells #[.bool n1, .slice a1 l1 c1, .bool n2, .slice a2 l2 c2] 34)).alloc (.cells #[.bool n3, .slice a3 l3 c3, .bool n4, .slice a4 l4 c4] 34)).alloc (.cells #[.bool false, .slice none 0 0, .bool false, .slice none 0 0] 34) ∧ Below w.heap.size w W ∧
    (W.cell? ⟨w.heap.size, 0, none⟩ = some (.bool n1) ∧ W.cell? ⟨w.heap.size, 1, none⟩ = some (.slice a1 l1 c1) ∧ W.cell? ⟨w.heap.size, 2, none⟩ = some (.bool n2) ∧ W.cell? ⟨w.heap.size, 3, none⟩ = some (.slice a2 l2 c2)) ∧
    (W.cell? ⟨w.heap.size + 1, 0, none⟩ = some (.bool n3) ∧ W.cell? ⟨w.heap.size + 1, 1, none⟩ = some (.slice a3 l3 c3) ∧ W.cell? ⟨w.heap.size + 1, 2, none⟩ = some (.bool n4) ∧ W.cell? ⟨w.heap.size + 1, 3, none⟩ = some (.slice a4 l4 c4)) ∧ Box4 W (w.heap.size + 1 + 1) := by
  refine ⟨_, rfl, (((Below.refl _ _).alloc (Nat.le_refl _) _).alloc (by simp) _).alloc (by simp; omega) _, ⟨?_, ?_, ?_, ?_⟩, ⟨?_, ?_, ?_, ?_⟩, ?n0⟩
  case n0 =>
    have h := Box4.new ((w.alloc (.cells #[.bool n1, .slice a1 l1 c1, .bool n2, .slice a2 l2 c2] 34)).alloc (.cells #[.bool n3, .slice a3 l3 c3, .bool n4, .slice a4 l4 c4] 34)) false none 0 0 false none 0 0 34 (by decide)
    rw [show ((w.alloc (.cells #[.bool n1, .slice a1 l1 c1, .bool n2, .slice a2 l2 c2] 34)).alloc (.cells #[.bool n3, .slice a3 l3 c3, .bool n4, .slice a4 l4 c4] 34)).heap.size = w.heap.size + 1 + 1 from by simp] at h
    exact h
  all_goals simp [go_sem, World.cell?_alloc_past]
theorem boxes_one34 (w : World) (n1 : Bool) (a1 : Option Addr) (l1 c1 : Nat) (n2 : Bool) (a2 : Option Addr) (l2 c2 : Nat) (T : TypeId) : ∃ W, W = (w.alloc (.cells #[.bool n1, .slice a1 l1 c1, .bool n2, .slice a2 l2 c2] T)).alloc (.cells #[.bool false, .slice none 0 0, .bool false, .slice none 0 0] 34) ∧ Below w.heap.size w W ∧
    (W.cell? ⟨w.heap.size, 0, none⟩ = some (.bool n1) ∧ W.cell? ⟨w.heap.size, 1, none⟩ = some (.slice a1 l1 c1) ∧ W.cell? ⟨w.heap.size, 2, none⟩ = some (.bool n2) ∧ W.cell? ⟨w.heap.size, 3, none⟩ = some (.slice a2 l2 c2)) ∧ Box4 W (w.heap.size + 1) := by
  refine ⟨_, rfl, ((Below.refl _ _).alloc (Nat.le_refl _) _).alloc (by simp) _, ⟨?_, ?_, ?_, ?_⟩, ?n0⟩
  case n0 =>
    have h := Box4.new (w.alloc (.cells #[.bool n1, .slice a1 l1 c1, .bool n2, .slice a2 l2 c2] T)) false none 0 0 false none 0 0 34 (by decide)
    rw [show (w.alloc (.cells #[.bool n1, .slice a1 l1 c1, .bool n2, .slice a2 l2 c2] T)).heap.size = w.heap.size + 1 from by simp] at h
    exact h
  all_goals simp [go_sem, World.cell?_alloc_past]
end Go.Proofs.YtmpefgemlpnbiaaGreat
namespace Go.Proofs.YtmpefgemlpnbiaaGreat
set_option linter.unusedVariables false
open Go.RowKit
attribute [local go_sem ↓] Go.wp_at_zero Go.wp_at_succ
def addRV (b0 K : Nat) (AN AD BN BD : Value) (p q p2 q2 : Int) (t : Nat) (v : Value) (w : World) : Prop := match t with
  | 2 => v = .pointer (some ⟨b0, 0, none⟩)
  | 3 => v = .pointer (some ⟨b0 + 1, 0, none⟩)
  | 4 => v = .pointer (some ⟨b0 + 1 + 1, 0, none⟩) ∧ Box4 w (b0 + 1 + 1)
  | 5 => v = .pointer (some ⟨b0, 0, none⟩)
  | 6 => v = AN
  | 7 => v = .pointer (some ⟨b0 + 1, 2, none⟩)
  | 8 => v = BD
  | 9 => Rint w v (p * q2) K
  | 10 => v = .pointer (some ⟨b0 + 1, 0, none⟩)
  | 11 => v = BN
  | 12 => v = .pointer (some ⟨b0, 2, none⟩)
  | 13 => v = AD
  | 14 => Rint w v (p2 * q) K
  | 15 => Rint w v ((p * q2) + (p2 * q)) (K + 1)
  | 16 => v = .pointer (some ⟨b0, 2, none⟩)
  | 17 => v = AD
  | 18 => v = .pointer (some ⟨b0 + 1, 2, none⟩)
  | 19 => v = BD
  | 20 => Rint w v (q * q2) K
  | 21 => LowR w v (pN ((p * q2) + (p2 * q)) (q * q2)) (pD (q * q2)) (K + 3)
  | _ => True
theorem addRV_next {b0 K : Nat} {AN AD BN BD : Value} {p q p2 q2 : Int} (t : Nat) (v : Value) (w w' : World) (hb : Below w.heap.size w w') (h : addRV b0 K AN AD BN BD p q p2 q2 t v w) : addRV b0 K AN AD BN BD p q p2 q2 t v w' := by
  unfold addRV at h ⊢
  split at h <;> first | exact h | exact Rint.next h hb | exact LowR.next h hb | exact ⟨h.1, h.2.next hb⟩
theorem addRV_chg {b0 K : Nat} {AN AD BN BD : Value} {p q p2 q2 : Int} (t : Nat) (v : Value) (w w' : World) (b : Nat) (hc : Chg b w w') (hb : Box4 w b) (hb' : Box4 w' b) (h : addRV b0 K AN AD BN BD p q p2 q2 t v w) : addRV b0 K AN AD BN BD p q p2 q2 t v w' := by
  unfold addRV at h ⊢
  split at h <;> first | exact h | exact Rint.chg h hc hb.noint | exact LowR.chg h hc hb.noint | exact ⟨h.1, h.2.chg hc hb'⟩
def addRC (b0 K : Nat) (AN AD BN BD : Value) (p q p2 q2 : Int) (j b : Nat) (w : World) : Prop := match j with
  | 17 => Holds4 w b (fun v => LowR w v (pN ((p * q2) + (p2 * q)) (q * q2)) (pD (q * q2)) (K + 3))
  | _ => True
theorem addRC_next {b0 K : Nat} {AN AD BN BD : Value} {p q p2 q2 : Int} (j b : Nat) (w w' : World) (hb : Below w.heap.size w w') (_ : b < w.heap.size) (h : addRC b0 K AN AD BN BD p q p2 q2 j b w) : addRC b0 K AN AD BN BD p q p2 q2 j b w' := by
  unfold addRC at h ⊢
  split at h <;> first | exact h | exact Holds4.next h hb (fun v k => k.next hb)
theorem addRC_chg {b0 K : Nat} {AN AD BN BD : Value} {p q p2 q2 : Int} (j b b' : Nat) (w w' : World) (hc : Chg b' w w') (hb : Box4 w b') (_ : Box4 w' b') (hne : b ≠ b') (h : addRC b0 K AN AD BN BD p q p2 q2 j b w) : addRC b0 K AN AD BN BD p q p2 q2 j b w' := by
  unfold addRC at h ⊢
  split at h <;> first | exact h | exact Holds4.chg h hc hne (fun v k => k.chg hc hb.noint)
set_option maxRecDepth 20000 in
set_option maxHeartbeats 4000000 in
theorem AddRat_num {w : World} {u v : Value} {p q p2 q2 : Int} {m : Nat} (hu : RatR w u p q m) (hv : RatR w v p2 q2 m) (hm : m ≤ 400) (hz : (q * q2) ≠ 0) :
    Calls Tryz.prog 26 #[u, v] w fun e w' => ∃ t, e = .returned t ∧ LowR w' t (pN ((p * q2) + (p2 * q)) (q * q2)) (pD (q * q2)) (2 * m + 4) ∧ Below w.heap.size w w' := by
  obtain ⟨n1, a1, l1, c1, n2, a2, l2, c2, rfl⟩ := hu.form
  obtain ⟨n3, a3, l3, c3, n4, a4, l4, c4, rfl⟩ := hv.form
  obtain ⟨W, hW, hbW, ⟨e0, e1, e2, e3⟩, ⟨g0, g1, g2, g3⟩, x0⟩ := boxes_op34 w n1 a1 l1 c1 n2 a2 l2 c2 n3 a3 l3 c3 n4 a4 l4 c4
  obtain ⟨hAN, hAD⟩ := (hu.next hbW).parts
  obtain ⟨hBN, hBD⟩ := (hv.next hbW).parts
  have hx0 := x0.noint.lt
  go_enter Tryz.func26, Tryz.ntmps26
  go_upto_region 1 with fail
  rw [← hW]
  clear hW
  have hS : ∀ k, k ∈ [w.heap.size + 1 + 1] → NoInt W k := by
    intro k hk
    simp only [List.mem_cons, List.not_mem_nil, or_false] at hk
    subst hk
    exact x0.noint
  have hB_int : ∀ {w' : World} {v : Value} {z : Int} {n : Nat}, BelowBut [w.heap.size + 1 + 1] W w' → Rint W v z n → Rint w' v z n := fun hW h => h.but hW hS
  refine wp_region_boxes (addRV w.heap.size (2 * m + 1) (.agg #[.bool n1, .slice a1 l1 c1]) (.agg #[.bool n2, .slice a2 l2 c2]) (.agg #[.bool n3, .slice a3 l3 c3]) (.agg #[.bool n4, .slice a4 l4 c4]) p q p2 q2) Box4 (addRC w.heap.size (2 * m + 1) (.agg #[.bool n1, .slice a1 l1 c1]) (.agg #[.bool n2, .slice a2 l2 c2]) (.agg #[.bool n3, .slice a3 l3 c3]) (.agg #[.bool n4, .slice a4 l4 c4]) p q p2 q2) [2, 3, 4] [4] [w.heap.size + 1 + 1] [(17, 4)] 22 (by kernel_rfl) (by kernel_rfl) rfl addRV_next addRV_chg ?hA addRC_next addRC_chg ?hstart ?hdis (StepsFrom.all ?hstep) ?hend
  case hA =>
    intro s v w' hs hv
    have hs' : s = 4 := by simpa using hs
    subst hs'
    exact ⟨_, hv.1, hv.2, .inr (by simp), hv.2.noint.lt⟩
  case hstart =>
    intro t ht
    have hD0 : Below W.heap.size W W.drew := (Below.refl _ _).drew
    simp only [List.mem_cons, List.not_mem_nil, or_false] at ht
    rcases ht with rfl | rfl | rfl
    · rfl
    · rfl
    · exact ⟨rfl, x0.next hD0⟩
  case hdis =>
    intro s t hs ht hne _ _
    have hs' : s = 4 := by simpa using hs
    have ht' : t = 4 := by simpa using ht
    exact absurd (hs'.trans ht'.symm) hne
  case hstep =>
    refine ⟨?s0, ?s1, ?s2, ?s3, ?s4, ?s5, ?s6, ?s7, ?s8, ?s9, ?s10, ?s11, ?s12, ?s13, ?s14, ?s15, ?s16, ?s17, trivial⟩
    case s0 => exact plain_at (plain_of (guard_none rfl) fun b w' _ hW hl K hK => fa34_0 2 rfl (look hl 2 (by kernel_rfl)) (hK _ _ (Below.refl _ _) (dst_eq rfl rfl))) (dst_eq rfl rfl) rfl
    case s1 => exact plain_at (plain_of (guard_none rfl) fun b w' _ hW hl K hK => ld32 (hW.cell e0 (by simp; try omega)) (hW.cell e1 (by simp; try omega)) 5 rfl (look hl 5 (by kernel_rfl)) (hK _ _ (Below.refl _ _) (dst_eq rfl rfl))) (dst_eq rfl rfl) rfl
    case s2 => exact plain_at (plain_of (guard_none rfl) fun b w' _ hW hl K hK => fa34_1 3 rfl (look hl 3 (by kernel_rfl)) (hK _ _ (Below.refl _ _) (dst_eq rfl rfl))) (dst_eq rfl rfl) rfl
    case s3 => exact plain_at (plain_of (guard_none rfl) fun b w' _ hW hl K hK => ld32b (hW.cell g2 (by simp; try omega)) (hW.cell g3 (by simp; try omega)) 7 rfl (look hl 7 (by kernel_rfl)) (hK _ _ (Below.refl _ _) (dst_eq rfl rfl))) (dst_eq rfl rfl) rfl
    case s4 => exact plain_at (pl_call2 51 6 8 9 _ (by kernel_rfl) rfl rfl (guard_none rfl) (by kernel_rfl) (by kernel_rfl) (fun u v w' hW hu hv => by subst hu; subst hv; exact (rMul_num (hB_int hW hAN) (hB_int hW hBD) (by omega) (by omega)).mono fun e w'' h => by obtain ⟨t, h1, h2, h3⟩ := h; exact ⟨t, h1, h2.mono (by omega), h3⟩)) (dst_eq rfl rfl) rfl
    case s5 => exact plain_at (plain_of (guard_none rfl) fun b w' _ hW hl K hK => fa34_0 3 rfl (look hl 3 (by kernel_rfl)) (hK _ _ (Below.refl _ _) (dst_eq rfl rfl))) (dst_eq rfl rfl) rfl
    case s6 => exact plain_at (plain_of (guard_none rfl) fun b w' _ hW hl K hK => ld32 (hW.cell g0 (by simp; try omega)) (hW.cell g1 (by simp; try omega)) 10 rfl (look hl 10 (by kernel_rfl)) (hK _ _ (Below.refl _ _) (dst_eq rfl rfl))) (dst_eq rfl rfl) rfl
    case s7 => exact plain_at (plain_of (guard_none rfl) fun b w' _ hW hl K hK => fa34_1 2 rfl (look hl 2 (by kernel_rfl)) (hK _ _ (Below.refl _ _) (dst_eq rfl rfl))) (dst_eq rfl rfl) rfl
    case s8 => exact plain_at (plain_of (guard_none rfl) fun b w' _ hW hl K hK => ld32b (hW.cell e2 (by simp; try omega)) (hW.cell e3 (by simp; try omega)) 12 rfl (look hl 12 (by kernel_rfl)) (hK _ _ (Below.refl _ _) (dst_eq rfl rfl))) (dst_eq rfl rfl) rfl
    case s9 => exact plain_at (pl_call2 51 11 13 14 _ (by kernel_rfl) rfl rfl (guard_none rfl) (by kernel_rfl) (by kernel_rfl) (fun u v w' hW hu hv => by subst hu; subst hv; exact (rMul_num (hB_int hW hBN) (hB_int hW hAD) (by omega) (by omega)).mono fun e w'' h => by obtain ⟨t, h1, h2, h3⟩ := h; exact ⟨t, h1, h2.mono (by omega), h3⟩)) (dst_eq rfl rfl) rfl
    case s10 => exact plain_at (pl_call2 62 9 14 15 _ (by kernel_rfl) rfl rfl (guard_none rfl) (by kernel_rfl) (by kernel_rfl) (fun u v w' hW hu hv => by exact (rAdd_num hu hv (by omega) (by omega)).mono fun e w'' h => by obtain ⟨t, h1, h2, h3⟩ := h; exact ⟨t, h1, h2.mono (by omega), h3⟩)) (dst_eq rfl rfl) rfl
    case s11 => exact plain_at (plain_of (guard_none rfl) fun b w' _ hW hl K hK => fa34_1 2 rfl (look hl 2 (by kernel_rfl)) (hK _ _ (Below.refl _ _) (dst_eq rfl rfl))) (dst_eq rfl rfl) rfl
    case s12 => exact plain_at (plain_of (guard_none rfl) fun b w' _ hW hl K hK => ld32b (hW.cell e2 (by simp; try omega)) (hW.cell e3 (by simp; try omega)) 16 rfl (look hl 16 (by kernel_rfl)) (hK _ _ (Below.refl _ _) (dst_eq rfl rfl))) (dst_eq rfl rfl) rfl
    case s13 => exact plain_at (plain_of (guard_none rfl) fun b w' _ hW hl K hK => fa34_1 3 rfl (look hl 3 (by kernel_rfl)) (hK _ _ (Below.refl _ _) (dst_eq rfl rfl))) (dst_eq rfl rfl) rfl
    case s14 => exact plain_at (plain_of (guard_none rfl) fun b w' _ hW hl K hK => ld32b (hW.cell g2 (by simp; try omega)) (hW.cell g3 (by simp; try omega)) 18 rfl (look hl 18 (by kernel_rfl)) (hK _ _ (Below.refl _ _) (dst_eq rfl rfl))) (dst_eq rfl rfl) rfl
    case s15 => exact plain_at (pl_call2 51 17 19 20 _ (by kernel_rfl) rfl rfl (guard_none rfl) (by kernel_rfl) (by kernel_rfl) (fun u v w' hW hu hv => by subst hu; subst hv; exact (rMul_num (hB_int hW hAD) (hB_int hW hBD) (by omega) (by omega)).mono fun e w'' h => by obtain ⟨t, h1, h2, h3⟩ := h; exact ⟨t, h1, h2.mono (by omega), h3⟩)) (dst_eq rfl rfl) rfl
    case s16 => exact plain_at (pl_call2 50 15 20 21 _ (by kernel_rfl) rfl rfl (guard_none rfl) (by kernel_rfl) (by kernel_rfl) (fun u v w' hW hu hv => by exact (rRatio_num (Rint.mono (m := 2 * m + 2) hu (by omega)) (Rint.mono (m := 2 * m + 2) hv (by omega)) hz (by omega)).mono fun e w'' h => by obtain ⟨t, x, y, h1, h2, h3, h4⟩ := h; exact ⟨t, h1, ⟨x, y, h2, h3⟩, h4⟩)) (dst_eq rfl rfl) rfl
    case s17 => exact put_at (step_put34 17 4 21 rfl rfl rfl (by kernel_rfl) (by kernel_rfl) ⟨fun v w h => LowR.form h, fun g w' w'' m a l c m' a' l' c' hv hc hb r0 r1 r2 r3 => ⟨m, a, l, c, m', a', l', c', r0, r1, r2, r3, LowR.chg hv hc hb.noint⟩⟩) rfl rfl (by kernel_rfl)
  case hend =>
    intro b w' hs hd hW hv hdis hC hfr
    obtain ⟨h4, _⟩ := hv 4 (.inl rfl)
    obtain ⟨q1, b1, i1, o1, q2, b2, i2, o2, m0, m1, m2, m3, hR'⟩ := hC 17 4 (by simp) (by decide) _ h4
    have hBf : Below w.heap.size w w' := hbW.trans (hW.below hbW.size (by intro k hk; simp only [List.mem_cons, List.not_mem_nil, or_false] at hk; omega))
    rw [Array.getD_eq_getD_getElem?] at h4
    clear hv hdis hC hfr hW
    go_wp2
    exact bodyPost_ret (v := .agg #[.bool q1, .slice b1 i1 o1, .bool q2, .slice b2 i2 o2]) (by simp [results, Tryz.results26, go_sem, h4, m0, m1, m2, m3]) hd ⟨_, rfl, hR', hBf⟩
def mulRV (b0 K : Nat) (AN AD BN BD : Value) (p q p2 q2 : Int) (t : Nat) (v : Value) (w : World) : Prop := match t with
  | 2 => v = .pointer (some ⟨b0, 0, none⟩)
  | 3 => v = .pointer (some ⟨b0 + 1, 0, none⟩)
  | 4 => v = .pointer (some ⟨b0 + 1 + 1, 0, none⟩) ∧ Box4 w (b0 + 1 + 1)
  | 5 => v = .pointer (some ⟨b0, 0, none⟩)
  | 6 => v = AN
  | 7 => v = .pointer (some ⟨b0 + 1, 0, none⟩)
  | 8 => v = BN
  | 9 => Rint w v (p * p2) K
  | 10 => v = .pointer (some ⟨b0, 2, none⟩)
  | 11 => v = AD
  | 12 => v = .pointer (some ⟨b0 + 1, 2, none⟩)
  | 13 => v = BD
  | 14 => Rint w v (q * q2) K
  | 15 => LowR w v (pN (p * p2) (q * q2)) (pD (q * q2)) (K + 3)
  | _ => True
theorem mulRV_next {b0 K : Nat} {AN AD BN BD : Value} {p q p2 q2 : Int} (t : Nat) (v : Value) (w w' : World) (hb : Below w.heap.size w w') (h : mulRV b0 K AN AD BN BD p q p2 q2 t v w) : mulRV b0 K AN AD BN BD p q p2 q2 t v w' := by
  unfold mulRV at h ⊢
  split at h <;> first | exact h | exact Rint.next h hb | exact LowR.next h hb | exact ⟨h.1, h.2.next hb⟩
theorem mulRV_chg {b0 K : Nat} {AN AD BN BD : Value} {p q p2 q2 : Int} (t : Nat) (v : Value) (w w' : World) (b : Nat) (hc : Chg b w w') (hb : Box4 w b) (hb' : Box4 w' b) (h : mulRV b0 K AN AD BN BD p q p2 q2 t v w) : mulRV b0 K AN AD BN BD p q p2 q2 t v w' := by
  unfold mulRV at h ⊢
  split at h <;> first | exact h | exact Rint.chg h hc hb.noint | exact LowR.chg h hc hb.noint | exact ⟨h.1, h.2.chg hc hb'⟩
def mulRC (b0 K : Nat) (AN AD BN BD : Value) (p q p2 q2 : Int) (j b : Nat) (w : World) : Prop := match j with
  | 11 => Holds4 w b (fun v => LowR w v (pN (p * p2) (q * q2)) (pD (q * q2)) (K + 3))
  | _ => True
theorem mulRC_next {b0 K : Nat} {AN AD BN BD : Value} {p q p2 q2 : Int} (j b : Nat) (w w' : World) (hb : Below w.heap.size w w') (_ : b < w.heap.size) (h : mulRC b0 K AN AD BN BD p q p2 q2 j b w) : mulRC b0 K AN AD BN BD p q p2 q2 j b w' := by
  unfold mulRC at h ⊢
  split at h <;> first | exact h | exact Holds4.next h hb (fun v k => k.next hb)
theorem mulRC_chg {b0 K : Nat} {AN AD BN BD : Value} {p q p2 q2 : Int} (j b b' : Nat) (w w' : World) (hc : Chg b' w w') (hb : Box4 w b') (_ : Box4 w' b') (hne : b ≠ b') (h : mulRC b0 K AN AD BN BD p q p2 q2 j b w) : mulRC b0 K AN AD BN BD p q p2 q2 j b w' := by
  unfold mulRC at h ⊢
  split at h <;> first | exact h | exact Holds4.chg h hc hne (fun v k => k.chg hc hb.noint)
set_option maxRecDepth 20000 in
set_option maxHeartbeats 4000000 in
theorem MulRat_num {w : World} {u v : Value} {p q p2 q2 : Int} {m : Nat} (hu : RatR w u p q m) (hv : RatR w v p2 q2 m) (hm : m ≤ 400) (hz : (q * q2) ≠ 0) :
    Calls Tryz.prog 11 #[u, v] w fun e w' => ∃ t, e = .returned t ∧ LowR w' t (pN (p * p2) (q * q2)) (pD (q * q2)) (2 * m + 4) ∧ Below w.heap.size w w' := by
  obtain ⟨n1, a1, l1, c1, n2, a2, l2, c2, rfl⟩ := hu.form
  obtain ⟨n3, a3, l3, c3, n4, a4, l4, c4, rfl⟩ := hv.form
  obtain ⟨W, hW, hbW, ⟨e0, e1, e2, e3⟩, ⟨g0, g1, g2, g3⟩, x0⟩ := boxes_op34 w n1 a1 l1 c1 n2 a2 l2 c2 n3 a3 l3 c3 n4 a4 l4 c4
  obtain ⟨hAN, hAD⟩ := (hu.next hbW).parts
  obtain ⟨hBN, hBD⟩ := (hv.next hbW).parts
  have hx0 := x0.noint.lt
  go_enter Tryz.func11, Tryz.ntmps11
  go_upto_region 1 with fail
  rw [← hW]
  clear hW
  have hS : ∀ k, k ∈ [w.heap.size + 1 + 1] → NoInt W k := by
    intro k hk
    simp only [List.mem_cons, List.not_mem_nil, or_false] at hk
    subst hk
    exact x0.noint
  have hB_int : ∀ {w' : World} {v : Value} {z : Int} {n : Nat}, BelowBut [w.heap.size + 1 + 1] W w' → Rint W v z n → Rint w' v z n := fun hW h => h.but hW hS
  refine wp_region_boxes (mulRV w.heap.size (2 * m + 1) (.agg #[.bool n1, .slice a1 l1 c1]) (.agg #[.bool n2, .slice a2 l2 c2]) (.agg #[.bool n3, .slice a3 l3 c3]) (.agg #[.bool n4, .slice a4 l4 c4]) p q p2 q2) Box4 (mulRC w.heap.size (2 * m + 1) (.agg #[.bool n1, .slice a1 l1 c1]) (.agg #[.bool n2, .slice a2 l2 c2]) (.agg #[.bool n3, .slice a3 l3 c3]) (.agg #[.bool n4, .slice a4 l4 c4]) p q p2 q2) [2, 3, 4] [4] [w.heap.size + 1 + 1] [(11, 4)] 16 (by kernel_rfl) (by kernel_rfl) rfl mulRV_next mulRV_chg ?hA mulRC_next mulRC_chg ?hstart ?hdis (StepsFrom.all ?hstep) ?hend
  case hA =>
    intro s v w' hs hv
    have hs' : s = 4 := by simpa using hs
    subst hs'
    exact ⟨_, hv.1, hv.2, .inr (by simp), hv.2.noint.lt⟩
  case hstart =>
    intro t ht
    have hD0 : Below W.heap.size W W.drew := (Below.refl _ _).drew
    simp only [List.mem_cons, List.not_mem_nil, or_false] at ht
    rcases ht with rfl | rfl | rfl
    · rfl
    · rfl
    · exact ⟨rfl, x0.next hD0⟩
  case hdis =>
    intro s t hs ht hne _ _
    have hs' : s = 4 := by simpa using hs
    have ht' : t = 4 := by simpa using ht
    exact absurd (hs'.trans ht'.symm) hne
  case hstep =>
    refine ⟨?s0, ?s1, ?s2, ?s3, ?s4, ?s5, ?s6, ?s7, ?s8, ?s9, ?s10, ?s11, trivial⟩
    case s0 => exact plain_at (plain_of (guard_none rfl) fun b w' _ hW hl K hK => fa34_0 2 rfl (look hl 2 (by kernel_rfl)) (hK _ _ (Below.refl _ _) (dst_eq rfl rfl))) (dst_eq rfl rfl) rfl
    case s1 => exact plain_at (plain_of (guard_none rfl) fun b w' _ hW hl K hK => ld32 (hW.cell e0 (by simp; try omega)) (hW.cell e1 (by simp; try omega)) 5 rfl (look hl 5 (by kernel_rfl)) (hK _ _ (Below.refl _ _) (dst_eq rfl rfl))) (dst_eq rfl rfl) rfl
    case s2 => exact plain_at (plain_of (guard_none rfl) fun b w' _ hW hl K hK => fa34_0 3 rfl (look hl 3 (by kernel_rfl)) (hK _ _ (Below.refl _ _) (dst_eq rfl rfl))) (dst_eq rfl rfl) rfl
    case s3 => exact plain_at (plain_of (guard_none rfl) fun b w' _ hW hl K hK => ld32 (hW.cell g0 (by simp; try omega)) (hW.cell g1 (by simp; try omega)) 7 rfl (look hl 7 (by kernel_rfl)) (hK _ _ (Below.refl _ _) (dst_eq rfl rfl))) (dst_eq rfl rfl) rfl
    case s4 => exact plain_at (pl_call2 51 6 8 9 _ (by kernel_rfl) rfl rfl (guard_none rfl) (by kernel_rfl) (by kernel_rfl) (fun u v w' hW hu hv => by subst hu; subst hv; exact (rMul_num (hB_int hW hAN) (hB_int hW hBN) (by omega) (by omega)).mono fun e w'' h => by obtain ⟨t, h1, h2, h3⟩ := h; exact ⟨t, h1, h2.mono (by omega), h3⟩)) (dst_eq rfl rfl) rfl
    case s5 => exact plain_at (plain_of (guard_none rfl) fun b w' _ hW hl K hK => fa34_1 2 rfl (look hl 2 (by kernel_rfl)) (hK _ _ (Below.refl _ _) (dst_eq rfl rfl))) (dst_eq rfl rfl) rfl
    case s6 => exact plain_at (plain_of (guard_none rfl) fun b w' _ hW hl K hK => ld32b (hW.cell e2 (by simp; try omega)) (hW.cell e3 (by simp; try omega)) 10 rfl (look hl 10 (by kernel_rfl)) (hK _ _ (Below.refl _ _) (dst_eq rfl rfl))) (dst_eq rfl rfl) rfl
    case s7 => exact plain_at (plain_of (guard_none rfl) fun b w' _ hW hl K hK => fa34_1 3 rfl (look hl 3 (by kernel_rfl)) (hK _ _ (Below.refl _ _) (dst_eq rfl rfl))) (dst_eq rfl rfl) rfl
    case s8 => exact plain_at (plain_of (guard_none rfl) fun b w' _ hW hl K hK => ld32b (hW.cell g2 (by simp; try omega)) (hW.cell g3 (by simp; try omega)) 12 rfl (look hl 12 (by kernel_rfl)) (hK _ _ (Below.refl _ _) (dst_eq rfl rfl))) (dst_eq rfl rfl) rfl
    case s9 => exact plain_at (pl_call2 51 11 13 14 _ (by kernel_rfl) rfl rfl (guard_none rfl) (by kernel_rfl) (by kernel_rfl) (fun u v w' hW hu hv => by subst hu; subst hv; exact (rMul_num (hB_int hW hAD) (hB_int hW hBD) (by omega) (by omega)).mono fun e w'' h => by obtain ⟨t, h1, h2, h3⟩ := h; exact ⟨t, h1, h2.mono (by omega), h3⟩)) (dst_eq rfl rfl) rfl
    case s10 => exact plain_at (pl_call2 50 9 14 15 _ (by kernel_rfl) rfl rfl (guard_none rfl) (by kernel_rfl) (by kernel_rfl) (fun u v w' hW hu hv => by exact (rRatio_num (Rint.mono (m := 2 * m + 2) hu (by omega)) (Rint.mono (m := 2 * m + 2) hv (by omega)) hz (by omega)).mono fun e w'' h => by obtain ⟨t, x, y, h1, h2, h3, h4⟩ := h; exact ⟨t, h1, ⟨x, y, h2, h3⟩, h4⟩)) (dst_eq rfl rfl) rfl
    case s11 => exact put_at (step_put34 11 4 15 rfl rfl rfl (by kernel_rfl) (by kernel_rfl) ⟨fun v w h => LowR.form h, fun g w' w'' m a l c m' a' l' c' hv hc hb r0 r1 r2 r3 => ⟨m, a, l, c, m', a', l', c', r0, r1, r2, r3, LowR.chg hv hc hb.noint⟩⟩) rfl rfl (by kernel_rfl)
  case hend =>
    intro b w' hs hd hW hv hdis hC hfr
    obtain ⟨h4, _⟩ := hv 4 (.inl rfl)
    obtain ⟨q1, b1, i1, o1, q2, b2, i2, o2, m0, m1, m2, m3, hR'⟩ := hC 11 4 (by simp) (by decide) _ h4
    have hBf : Below w.heap.size w w' := hbW.trans (hW.below hbW.size (by intro k hk; simp only [List.mem_cons, List.not_mem_nil, or_false] at hk; omega))
    rw [Array.getD_eq_getD_getElem?] at h4
    clear hv hdis hC hfr hW
    go_wp2
    exact bodyPost_ret (v := .agg #[.bool q1, .slice b1 i1 o1, .bool q2, .slice b2 i2 o2]) (by simp [results, Tryz.results11, go_sem, h4, m0, m1, m2, m3]) hd ⟨_, rfl, hR', hBf⟩
def quoRV (b0 K : Nat) (AN AD BN BD : Value) (p q p2 q2 : Int) (t : Nat) (v : Value) (w : World) : Prop := match t with
  | 2 => v = .pointer (some ⟨b0, 0, none⟩)
  | 3 => v = .pointer (some ⟨b0 + 1, 0, none⟩)
  | 4 => v = .pointer (some ⟨b0 + 1 + 1, 0, none⟩) ∧ Box4 w (b0 + 1 + 1)
  | 5 => v = .pointer (some ⟨b0, 0, none⟩)
  | 6 => v = AN
  | 7 => v = .pointer (some ⟨b0 + 1, 2, none⟩)
  | 8 => v = BD
  | 9 => Rint w v (p * q2) K
  | 10 => v = .pointer (some ⟨b0, 2, none⟩)
  | 11 => v = AD
  | 12 => v = .pointer (some ⟨b0 + 1, 0, none⟩)
  | 13 => v = BN
  | 14 => Rint w v (q * p2) K
  | 15 => LowR w v (pN (p * q2) (q * p2)) (pD (q * p2)) (K + 3)
  | _ => True
theorem quoRV_next {b0 K : Nat} {AN AD BN BD : Value} {p q p2 q2 : Int} (t : Nat) (v : Value) (w w' : World) (hb : Below w.heap.size w w') (h : quoRV b0 K AN AD BN BD p q p2 q2 t v w) : quoRV b0 K AN AD BN BD p q p2 q2 t v w' := by
  unfold quoRV at h ⊢
  split at h <;> first | exact h | exact Rint.next h hb | exact LowR.next h hb | exact ⟨h.1, h.2.next hb⟩
theorem quoRV_chg {b0 K : Nat} {AN AD BN BD : Value} {p q p2 q2 : Int} (t : Nat) (v : Value) (w w' : World) (b : Nat) (hc : Chg b w w') (hb : Box4 w b) (hb' : Box4 w' b) (h : quoRV b0 K AN AD BN BD p q p2 q2 t v w) : quoRV b0 K AN AD BN BD p q p2 q2 t v w' := by
  unfold quoRV at h ⊢
  split at h <;> first | exact h | exact Rint.chg h hc hb.noint | exact LowR.chg h hc hb.noint | exact ⟨h.1, h.2.chg hc hb'⟩
def quoRC (b0 K : Nat) (AN AD BN BD : Value) (p q p2 q2 : Int) (j b : Nat) (w : World) : Prop := match j with
  | 11 => Holds4 w b (fun v => LowR w v (pN (p * q2) (q * p2)) (pD (q * p2)) (K + 3))
  | _ => True
theorem quoRC_next {b0 K : Nat} {AN AD BN BD : Value} {p q p2 q2 : Int} (j b : Nat) (w w' : World) (hb : Below w.heap.size w w') (_ : b < w.heap.size) (h : quoRC b0 K AN AD BN BD p q p2 q2 j b w) : quoRC b0 K AN AD BN BD p q p2 q2 j b w' := by
  unfold quoRC at h ⊢
  split at h <;> first | exact h | exact Holds4.next h hb (fun v k => k.next hb)
theorem quoRC_chg {b0 K : Nat} {AN AD BN BD : Value} {p q p2 q2 : Int} (j b b' : Nat) (w w' : World) (hc : Chg b' w w') (hb : Box4 w b') (_ : Box4 w' b') (hne : b ≠ b') (h : quoRC b0 K AN AD BN BD p q p2 q2 j b w) : quoRC b0 K AN AD BN BD p q p2 q2 j b w' := by
  unfold quoRC at h ⊢
  split at h <;> first | exact h | exact Holds4.chg h hc hne (fun v k => k.chg hc hb.noint)
set_option maxRecDepth 20000 in
set_option maxHeartbeats 4000000 in
theorem QuoRat_num {w : World} {u v : Value} {p q p2 q2 : Int} {m : Nat} (hu : RatR w u p q m) (hv : RatR w v p2 q2 m) (hm : m ≤ 400) (hz : (q * p2) ≠ 0) :
    Calls Tryz.prog 25 #[u, v] w fun e w' => ∃ t, e = .returned t ∧ LowR w' t (pN (p * q2) (q * p2)) (pD (q * p2)) (2 * m + 4) ∧ Below w.heap.size w w' := by
  obtain ⟨n1, a1, l1, c1, n2, a2, l2, c2, rfl⟩ := hu.form
  obtain ⟨n3, a3, l3, c3, n4, a4, l4, c4, rfl⟩ := hv.form
  obtain ⟨W, hW, hbW, ⟨e0, e1, e2, e3⟩, ⟨g0, g1, g2, g3⟩, x0⟩ := boxes_op34 w n1 a1 l1 c1 n2 a2 l2 c2 n3 a3 l3 c3 n4 a4 l4 c4
  obtain ⟨hAN, hAD⟩ := (hu.next hbW).parts
  obtain ⟨hBN, hBD⟩ := (hv.next hbW).parts
  have hx0 := x0.noint.lt
  go_enter Tryz.func25, Tryz.ntmps25
  go_upto_region 1 with fail
  rw [← hW]
  clear hW
  have hS : ∀ k, k ∈ [w.heap.size + 1 + 1] → NoInt W k := by
    intro k hk
    simp only [List.mem_cons, List.not_mem_nil, or_false] at hk
    subst hk
    exact x0.noint
  have hB_int : ∀ {w' : World} {v : Value} {z : Int} {n : Nat}, BelowBut [w.heap.size + 1 + 1] W w' → Rint W v z n → Rint w' v z n := fun hW h => h.but hW hS
  refine wp_region_boxes (quoRV w.heap.size (2 * m + 1) (.agg #[.bool n1, .slice a1 l1 c1]) (.agg #[.bool n2, .slice a2 l2 c2]) (.agg #[.bool n3, .slice a3 l3 c3]) (.agg #[.bool n4, .slice a4 l4 c4]) p q p2 q2) Box4 (quoRC w.heap.size (2 * m + 1) (.agg #[.bool n1, .slice a1 l1 c1]) (.agg #[.bool n2, .slice a2 l2 c2]) (.agg #[.bool n3, .slice a3 l3 c3]) (.agg #[.bool n4, .slice a4 l4 c4]) p q p2 q2) [2, 3, 4] [4] [w.heap.size + 1 + 1] [(11, 4)] 16 (by kernel_rfl) (by kernel_rfl) rfl quoRV_next quoRV_chg ?hA quoRC_next quoRC_chg ?hstart ?hdis (StepsFrom.all ?hstep) ?hend
  case hA =>
    intro s v w' hs hv
    have hs' : s = 4 := by simpa using hs
    subst hs'
    exact ⟨_, hv.1, hv.2, .inr (by simp), hv.2.noint.lt⟩
  case hstart =>
    intro t ht
    have hD0 : Below W.heap.size W W.drew := (Below.refl _ _).drew
    simp only [List.mem_cons, List.not_mem_nil, or_false] at ht
    rcases ht with rfl | rfl | rfl
    · rfl
    · rfl
    · exact ⟨rfl, x0.next hD0⟩
  case hdis =>
    intro s t hs ht hne _ _
    have hs' : s = 4 := by simpa using hs
    have ht' : t = 4 := by simpa using ht
    exact absurd (hs'.trans ht'.symm) hne
  case hstep =>
    refine ⟨?s0, ?s1, ?s2, ?s3, ?s4, ?s5, ?s6, ?s7, ?s8, ?s9, ?s10, ?s11, trivial⟩
    case s0 => exact plain_at (plain_of (guard_none rfl) fun b w' _ hW hl K hK => fa34_0 2 rfl (look hl 2 (by kernel_rfl)) (hK _ _ (Below.refl _ _) (dst_eq rfl rfl))) (dst_eq rfl rfl) rfl
    case s1 => exact plain_at (plain_of (guard_none rfl) fun b w' _ hW hl K hK => ld32 (hW.cell e0 (by simp; try omega)) (hW.cell e1 (by simp; try omega)) 5 rfl (look hl 5 (by kernel_rfl)) (hK _ _ (Below.refl _ _) (dst_eq rfl rfl))) (dst_eq rfl rfl) rfl
    case s2 => exact plain_at (plain_of (guard_none rfl) fun b w' _ hW hl K hK => fa34_1 3 rfl (look hl 3 (by kernel_rfl)) (hK _ _ (Below.refl _ _) (dst_eq rfl rfl))) (dst_eq rfl rfl) rfl
    case s3 => exact plain_at (plain_of (guard_none rfl) fun b w' _ hW hl K hK => ld32b (hW.cell g2 (by simp; try omega)) (hW.cell g3 (by simp; try omega)) 7 rfl (look hl 7 (by kernel_rfl)) (hK _ _ (Below.refl _ _) (dst_eq rfl rfl))) (dst_eq rfl rfl) rfl
    case s4 => exact plain_at (pl_call2 51 6 8 9 _ (by kernel_rfl) rfl rfl (guard_none rfl) (by kernel_rfl) (by kernel_rfl) (fun u v w' hW hu hv => by subst hu; subst hv; exact (rMul_num (hB_int hW hAN) (hB_int hW hBD) (by omega) (by omega)).mono fun e w'' h => by obtain ⟨t, h1, h2, h3⟩ := h; exact ⟨t, h1, h2.mono (by omega), h3⟩)) (dst_eq rfl rfl) rfl
    case s5 => exact plain_at (plain_of (guard_none rfl) fun b w' _ hW hl K hK => fa34_1 2 rfl (look hl 2 (by kernel_rfl)) (hK _ _ (Below.refl _ _) (dst_eq rfl rfl))) (dst_eq rfl rfl) rfl
    case s6 => exact plain_at (plain_of (guard_none rfl) fun b w' _ hW hl K hK => ld32b (hW.cell e2 (by simp; try omega)) (hW.cell e3 (by simp; try omega)) 10 rfl (look hl 10 (by kernel_rfl)) (hK _ _ (Below.refl _ _) (dst_eq rfl rfl))) (dst_eq rfl rfl) rfl
    case s7 => exact plain_at (plain_of (guard_none rfl) fun b w' _ hW hl K hK => fa34_0 3 rfl (look hl 3 (by kernel_rfl)) (hK _ _ (Below.refl _ _) (dst_eq rfl rfl))) (dst_eq rfl rfl) rfl
    case s8 => exact plain_at (plain_of (guard_none rfl) fun b w' _ hW hl K hK => ld32 (hW.cell g0 (by simp; try omega)) (hW.cell g1 (by simp; try omega)) 12 rfl (look hl 12 (by kernel_rfl)) (hK _ _ (Below.refl _ _) (dst_eq rfl rfl))) (dst_eq rfl rfl) rfl
    case s9 => exact plain_at (pl_call2 51 11 13 14 _ (by kernel_rfl) rfl rfl (guard_none rfl) (by kernel_rfl) (by kernel_rfl) (fun u v w' hW hu hv => by subst hu; subst hv; exact (rMul_num (hB_int hW hAD) (hB_int hW hBN) (by omega) (by omega)).mono fun e w'' h => by obtain ⟨t, h1, h2, h3⟩ := h; exact ⟨t, h1, h2.mono (by omega), h3⟩)) (dst_eq rfl rfl) rfl
    case s10 => exact plain_at (pl_call2 50 9 14 15 _ (by kernel_rfl) rfl rfl (guard_none rfl) (by kernel_rfl) (by kernel_rfl) (fun u v w' hW hu hv => by exact (rRatio_num (Rint.mono (m := 2 * m + 2) hu (by omega)) (Rint.mono (m := 2 * m + 2) hv (by omega)) hz (by omega)).mono fun e w'' h => by obtain ⟨t, x, y, h1, h2, h3, h4⟩ := h; exact ⟨t, h1, ⟨x, y, h2, h3⟩, h4⟩)) (dst_eq rfl rfl) rfl
    case s11 => exact put_at (step_put34 11 4 15 rfl rfl rfl (by kernel_rfl) (by kernel_rfl) ⟨fun v w h => LowR.form h, fun g w' w'' m a l c m' a' l' c' hv hc hb r0 r1 r2 r3 => ⟨m, a, l, c, m', a', l', c', r0, r1, r2, r3, LowR.chg hv hc hb.noint⟩⟩) rfl rfl (by kernel_rfl)
  case hend =>
    intro b w' hs hd hW hv hdis hC hfr
    obtain ⟨h4, _⟩ := hv 4 (.inl rfl)
    obtain ⟨q1, b1, i1, o1, q2, b2, i2, o2, m0, m1, m2, m3, hR'⟩ := hC 11 4 (by simp) (by decide) _ h4
    have hBf : Below w.heap.size w w' := hbW.trans (hW.below hbW.size (by intro k hk; simp only [List.mem_cons, List.not_mem_nil, or_false] at hk; omega))
    rw [Array.getD_eq_getD_getElem?] at h4
    clear hv hdis hC hfr hW
    go_wp2
    exact bodyPost_ret (v := .agg #[.bool q1, .slice b1 i1 o1, .bool q2, .slice b2 i2 o2]) (by simp [results, Tryz.results25, go_sem, h4, m0, m1, m2, m3]) hd ⟨_, rfl, hR', hBf⟩
end Go.Proofs.YtmpefgemlpnbiaaGreat
namespace Go.Proofs.YtmpefgemlpnbiaaGreat
set_option linter.unusedVariables false
open Go.RowKit
attribute [local go_sem ↓] Go.wp_at_zero Go.wp_at_succ
set_option maxRecDepth 20000 in
set_option maxHeartbeats 4000000 in
theorem NegRat_num {w : World} {u : Value} {p q : Int} {m : Nat} (hu : RatR w u p q m) :
    Calls Tryz.prog 41 #[u] w fun e w' => ∃ t, e = .returned t ∧ RatR w' t (-p) q m ∧ Below w.heap.size w w' := by
  obtain ⟨n1, a1, l1, c1, n2, a2, l2, c2, rfl⟩ := hu.form
  obtain ⟨W, hW, hbW, ⟨e0, e1, e2, e3⟩, x0⟩ := boxes_one34 w n1 a1 l1 c1 n2 a2 l2 c2 34
  obtain ⟨hAN, hAD⟩ := (hu.next hbW).parts
  have hD0 : Below W.heap.size W W.drew := (Below.refl _ _).drew
  go_enter Tryz.func41, Tryz.ntmps41
  go_upto_region 1 with fail
  rw [← hW]
  clear hW
  go_region_with (go_at_call 77; refine Calls.mono (rNeg_num (hAN.next hD0)) ?_; rintro e w2 ⟨t, rfl, hO, hb2⟩; obtain ⟨n3, a3, l3, c3, rfl⟩ := hO.form; have hB2 : Below W.heap.size W w2 := bthen hD0 hb2; have p2 := keep_cell hB2 e2; have p3 := keep_cell hB2 e3; have y0 := x0.next hB2; obtain ⟨_, _, _, _, _, _, _, _, j0, j1, j2, j3, f⟩ := y0.cells; have f0 := f 0; have f1 := f 1; have f2 := f 2; have f3 := f 3; clear f)
  all_goals
    have hbx : Hid _ := put4_boxed (base := w.heap.size) y0.noint (by omega) n3 a3 l3 c3 n2 a2 l2 c2
    have hBf := bthen hbW hB2
    have hUf : Hid _ := hbx.out.rint (hAD.next hB2)
    have hOf : Hid _ := hbx.out.rint hO
    clear hO hAN hAD hb2 hB2
    go_wp2
    exact bodyPost_ret (v := .agg #[.bool n3, .slice a3 l3 c3, .bool n2, .slice a2 l2 c2]) (by simp [results, Tryz.results41, go_sem, j0, j1, j2, j3]) rfl ⟨_, rfl, ⟨_, _, _, _, _, _, _, _, rfl, hOf.out, hUf.out⟩, hbx.out.keep hBf (Nat.le_refl _) hBf.size⟩
set_option maxRecDepth 20000 in
set_option maxHeartbeats 4000000 in
theorem SubRat_num {w : World} {u v : Value} {p q p2 q2 : Int} {m : Nat} (hu : RatR w u p q m) (hv : RatR w v p2 q2 m) (hm : m ≤ 400) (hz : q * q2 ≠ 0) :
    Calls Tryz.prog 40 #[u, v] w fun e w' => ∃ t, e = .returned t ∧ LowR w' t (pN (p * q2 + -p2 * q) (q * q2)) (pD (q * q2)) (2 * m + 4) ∧ Below w.heap.size w w' := by
  obtain ⟨n1, a1, l1, c1, n2, a2, l2, c2, rfl⟩ := hu.form
  obtain ⟨n3, a3, l3, c3, n4, a4, l4, c4, rfl⟩ := hv.form
  obtain ⟨W, hW, hbW, ⟨e0, e1, e2, e3⟩, ⟨g0, g1, g2, g3⟩, x0⟩ := boxes_op34 w n1 a1 l1 c1 n2 a2 l2 c2 n3 a3 l3 c3 n4 a4 l4 c4
  replace hu := hu.next hbW
  replace hv := hv.next hbW
  have hD0 : Below W.heap.size W W.drew := (Below.refl _ _).drew
  go_enter Tryz.func40, Tryz.ntmps40
  go_upto_region 1 with fail
  rw [← hW]
  clear hW
  go_region_with (first
    | (go_at_call 41; refine Calls.mono (NegRat_num (hv.next hD0)) ?_; rintro e w2 ⟨t, rfl, hO, hb2⟩; obtain ⟨n5, a5, l5, c5, n6, a6, l6, c6, rfl⟩ := hO.form; have hB2 : Below W.heap.size W w2 := bthen hD0 hb2; have p0 := keep_cell hB2 e0; have p1 := keep_cell hB2 e1; have p2 := keep_cell hB2 e2; have p3 := keep_cell hB2 e3)
    | (go_at_call 26; refine Calls.mono (AddRat_num (hu.next hB2) hO hm hz) ?_; rintro e w3 ⟨t, rfl, hR, hb3⟩; obtain ⟨n7, a7, l7, c7, n8, a8, l8, c8, rfl⟩ := hR.form; have hB3 : Below W.heap.size W w3 := bthen hB2 hb3; have y0 := x0.next hB3; obtain ⟨_, _, _, _, _, _, _, _, j0, j1, j2, j3, f⟩ := y0.cells; have f0 := f 0; have f1 := f 1; have f2 := f 2; have f3 := f 3; clear f))
  all_goals
    have hbx : Hid _ := put4_boxed (base := w.heap.size) y0.noint (by omega) n7 a7 l7 c7 n8 a8 l8 c8
    have hBf := bthen hbW hB3
    obtain ⟨P, Q, hR, hl⟩ := hR
    obtain ⟨r1, r2⟩ := hR.parts
    have hUf : Hid _ := hbx.out.rint r1
    have hOf : Hid _ := hbx.out.rint r2
    replace hl : Hid _ := hl
    clear hO hR hu hv hb2 hB2 r1 r2 hb3 hB3
    go_wp2
    exact bodyPost_ret (v := .agg #[.bool n7, .slice a7 l7 c7, .bool n8, .slice a8 l8 c8]) (by simp [results, Tryz.results40, go_sem, j0, j1, j2, j3]) rfl ⟨_, rfl, ⟨P, Q, ⟨_, _, _, _, _, _, _, _, rfl, hUf.out, hOf.out⟩, hl.out⟩, hbx.out.keep hBf (Nat.le_refl _) hBf.size⟩
theorem boxes_two34 (w : World) (n1 : Bool) (a1 : Option Addr) (l1 c1 : Nat) (n2 : Bool) (a2 : Option Addr) (l2 c2 : Nat) (n3 : Bool) (a3 : Option Addr) (l3 c3 : Nat) (n4 : Bool) (a4 : Option Addr) (l4 c4 : Nat) : ∃ W, W = (w.alloc (.cells #[.bool n1, .slice a1 l1 c1, .bool n2, .slice a2 l2 c2] 34)).alloc (.cells #[.bool n3, .slice a3 l3 c3, .bool n4, .slice a4 l4 c4] 34) ∧ Below w.heap.size w W ∧
    (W.cell? ⟨w.heap.size, 0, none⟩ = some (.bool n1) ∧ W.cell? ⟨w.heap.size, 1, none⟩ = some (.slice a1 l1 c1) ∧ W.cell? ⟨w.heap.size, 2, none⟩ = some (.bool n2) ∧ W.cell? ⟨w.heap.size, 3, none⟩ = some (.slice a2 l2 c2)) ∧
    (W.cell? ⟨w.heap.size + 1, 0, none⟩ = some (.bool n3) ∧ W.cell? ⟨w.heap.size + 1, 1, none⟩ = some (.slice a3 l3 c3) ∧ W.cell? ⟨w.heap.size + 1, 2, none⟩ = some (.bool n4) ∧ W.cell? ⟨w.heap.size + 1, 3, none⟩ = some (.slice a4 l4 c4)) := by
  refine ⟨_, rfl, ((Below.refl _ _).alloc (Nat.le_refl _) _).alloc (by simp) _, ⟨?_, ?_, ?_, ?_⟩, ⟨?_, ?_, ?_, ?_⟩⟩
  all_goals simp [go_sem, World.cell?_alloc_past]
set_option maxRecDepth 20000 in
set_option maxHeartbeats 4000000 in
theorem CmpRat_num {w : World} {u v : Value} {p q p2 q2 : Int} {m : Nat} (hu : RatR w u p q m) (hv : RatR w v p2 q2 m) (hm : m ≤ 400) :
    Calls Tryz.prog 99 #[u, v] w fun e w' => e = .returned (.int .i64 (cmpI (p * q2) (p2 * q))) ∧ Below w.heap.size w w' := by
  obtain ⟨n1, a1, l1, c1, n2, a2, l2, c2, rfl⟩ := hu.form
  obtain ⟨n3, a3, l3, c3, n4, a4, l4, c4, rfl⟩ := hv.form
  obtain ⟨W, hW, hbW, ⟨e0, e1, e2, e3⟩, ⟨g0, g1, g2, g3⟩⟩ := boxes_two34 w n1 a1 l1 c1 n2 a2 l2 c2 n3 a3 l3 c3 n4 a4 l4 c4
  obtain ⟨hAN, hAD⟩ := (hu.next hbW).parts
  obtain ⟨hBN, hBD⟩ := (hv.next hbW).parts
  have hD0 : Below W.heap.size W W.drew := (Below.refl _ _).drew
  go_enter Tryz.func99, Tryz.ntmps99
  go_upto_region 1 with fail
  rw [← hW]
  clear hW
  go_region_with (first
    | (go_at_call_of 51 (Value.slice a4 l4 c4); refine Calls.mono (rMul_num (hAN.next hD0) (hBD.next hD0) (by omega) (by omega)) ?_; rintro e w2 ⟨t, rfl, hO, hb2⟩; obtain ⟨n5, a5, l5, c5, rfl⟩ := hO.form; have hB2 : Below W.heap.size W w2 := bthen hD0 hb2; have p2' := keep_cell hB2 e2; have p3' := keep_cell hB2 e3; have p0' := keep_cell hB2 g0; have p1' := keep_cell hB2 g1)
    | (go_at_call_of 51 (Value.slice a3 l3 c3); refine Calls.mono (rMul_num (hBN.next hB2) (hAD.next hB2) (by omega) (by omega)) ?_; rintro e w3 ⟨t, rfl, hP, hb3⟩; obtain ⟨n6, a6, l6, c6, rfl⟩ := hP.form; have hB3 : Below W.heap.size W w3 := bthen hB2 hb3; have hO3 := hO.next hb3)
    | (go_at_call 110; refine Calls.mono (rCmp_num hO3 hP (by omega) (by omega)) ?_; rintro e w4 ⟨rfl, hb4⟩; have hB4 : Below W.heap.size W w4 := bthen hB3 hb4))
  all_goals
    have hBf := bthen hbW hB4
    clear hO hP hO3 hB2 hB3 hB4
    go_wp2
    go_ret
    exact ⟨rfl, hBf⟩
end Go.Proofs.YtmpefgemlpnbiaaGreat
namespace Go.Proofs.YtmpefgemlpnbiaaGreat
set_option linter.unusedVariables false
open Go.RowKit
attribute [local go_sem ↓] Go.wp_at_zero Go.wp_at_succ
theorem app_empty8 (w : World) (p : Addr) (y : Option Addr) (cy : Nat) (t : TypeId) : (Builtin.append_ #[154, 154] t #[.slice (some p) 1 1, .slice y 0 cy]).run Tryz.prog w = .ok (.slice (some p) 1 1) w := by
  obtain ⟨i0, hi, _, _, _⟩ := info_parts Tryz.info5
  cases y <;> simp [Builtin.append_, run_underlying Tryz.underlying154, sizeOf, typeInfo, hi, Builtin.lenOf, Builtin.firstCells, loadCells, loadCellsFrom, storeCells]
theorem app_front (wr : World) (c : Int) (hc : 0 ≤ c ∧ c < 256) (base : Nat) (hb : base ≤ wr.heap.size) (a : Option Addr) (cap : Nat) (bs : List Int) (hr : Row wr .u8 256 a cap bs) (hl : bs.length ≤ 1000000) :
    ∃ a' cap' w', (Builtin.append_ #[154, 154] 154 #[.slice (some ⟨wr.heap.size, 0, none⟩) 1 1, .slice a bs.length cap]).run Tryz.prog (wr.alloc (.cells #[.int .u8 c] 5)) = .ok (.slice a' (bs.length + 1) cap') w' ∧ Own w' base .u8 5 256 a' cap' (c :: bs) ∧ Below base (wr.alloc (.cells #[.int .u8 c] 5)) w' := by
  obtain ⟨i0, hi, hz0, hz1, hz2⟩ := info_parts Tryz.info5
  have hblk : Blk (wr.alloc (.cells (cellsOf .u8 [c]) 5)) wr.heap.size .u8 5 [c].length [c] := Blk.new wr .u8 5 [c] (by simp [maxLen])
  have e : cellsOf .u8 [c] = #[.int .u8 c] := rfl
  rw [e] at hblk
  have hown : Own (wr.alloc (.cells #[.int .u8 c] 5)) base .u8 5 256 (some ⟨wr.heap.size, 0, none⟩) 1 [c] := hblk.own (Words.one hc) hb
  have hD : Below wr.heap.size wr (wr.alloc (.cells #[.int .u8 c] 5)) := (Below.refl _ _).alloc (Nat.le_refl _) _
  by_cases hx : bs = []
  · subst hx
    exact ⟨_, _, _, app_empty8 _ _ a cap 154, hown, Below.refl _ _⟩
  · have hpos : 0 < bs.length := List.length_pos_iff.2 hx
    obtain ⟨ad, rfl⟩ := hr.some_of hpos
    obtain ⟨a2, cap2, w2, hrun, hown2, hb2⟩ := run_append_row (P := Tryz.prog) (wr.alloc (.cells #[.int .u8 c] 5)) 154 154 5 base .u8 1 256 i0 Tryz.underlying154 hi hz0 hz1 hz2 (some ⟨wr.heap.size, 0, none⟩) 1 1 [c] hown rfl ad bs.length cap bs (hr.next hD) rfl hpos (by omega) (by omega) (by simp; omega)
    rw [Nat.add_comm 1 bs.length] at hrun
    exact ⟨a2, cap2, w2, hrun, hown2, hb2⟩
theorem five_le {V : Int} {n L : Nat} (h : (10 : Int) ^ n ≤ V) (hV : V < 65536 ^ L) : n < 5 * L := by
  by_cases hc : n < 5 * L
  · exact hc
  · have h1 := pow_mono (B := 10) (by decide) (m := 5 * L) (n := n) (by omega)
    have h2 : (65536 : Int) ^ L ≤ (10 ^ 5) ^ L := pow_le_left (by decide) (by decide) L
    rw [← Int.pow_mul] at h2
    omega
theorem dec_one {ds : List Int} {q r z V : Int} {n : Nat} (hn : ds.length = n) (hz : z = 10 * q + r) (h : val 10 ds + z * 10 ^ n = V) : val 10 (ds ++ [r]) + q * 10 ^ (n + 1) = V := by
  rw [val_append, hn, ← h, hz, Int.pow_succ, Int.add_mul, Int.mul_comm (10 ^ n) 10, ← Int.mul_assoc q, Int.mul_comm q 10, Int.mul_assoc 10]
  simp only [val]
  rw [Int.mul_comm (10 ^ n)]
  simp
  omega
theorem asc_rev (ds : List Int) (r : Int) : (asc (ds ++ [r])).reverse = (48 + r) :: (asc ds).reverse := by rw [asc_snoc]; simp
theorem words_rev {B : Int} {l : List Int} (h : Words B l) : Words B l.reverse := fun d hd => h d (List.mem_reverse.1 hd)
set_option maxRecDepth 20000 in
set_option maxHeartbeats 4000000 in
theorem rText_zero (x : Option Addr) (ca : Nat) (w : World) (ha : Row w .i64 65536 x ca []) :
    Calls Tryz.prog 108 #[.agg #[.bool false, .slice x 0 ca]] w fun e w' => e = .returned (.string ⟨#[48]⟩) ∧ Below w.heap.size w w' := by
  obtain ⟨W, hW, hbW, hlt, c0, c1, _, _⟩ := box1r w (.bool false) (.slice x 0 ca) 32
  have ks := small_any x ca [] 10 W (ha.next hbW) (by decide) (by decide) (by decide)
  replace ks : Hid _ := ks
  go_enter Tryz.func108, Tryz.ntmps108
  go_wp2
  rw [← hW]
  clear hW
  refine wp_loop_rounds 2 ?_
  rw [rounds_succ]
  go_wp2_with fail
  refine Calls.mono ks.out ?_
  rintro e w1 ⟨a', cap', qs, r, rfl, hq, hqn, hqv, hr0, hr1, hql, hb1⟩
  clear ks
  have hqe : qs = [] := List.eq_nil_of_length_eq_zero (by simpa using hql)
  subst hqe
  have hre : r = 0 := by simp [val] at hqv; omega
  subst hre
  obtain ⟨a2, cap2, w2, hrun, hown2, hb2⟩ := app_front w1 48 (by decide) W.heap.size hb1.size none 0 [] (Row.empty _ _ _) (by decide)
  replace hrun : Hid _ := hrun
  have hbb : Below W.heap.size W w2 := (hb1.trans ((((Below.refl _ w1).alloc (Nat.le_refl _) _).mono hb1.size))).trans hb2
  obtain ⟨g, rfl, hg, hblk⟩ := hown2.some (by decide)
  have hconv : (convert 154 9 (.slice (some ⟨g, 0, none⟩) 1 cap2)).run Tryz.prog w2 = .ok (.string ⟨#[48]⟩) w2 := conv_any w2 g cap2 cap2 [48] hblk hown2.words
  have c0' := keep_cell hbb c0
  have hB := bthen hbW hbb
  go_wp2_with (at_builtin; refine wpList_append_run (by rfl) (.tmp 25) (.tmp 26) 154 154 (by rfl) (.slice (some ⟨w1.heap.size, 0, none⟩) 1 1) (.slice none 0 0) (by rfl) (by rfl) _ _ hrun.out ?_)
  rw [rounds_succ]
  go_wp2
  go_ret
  exact ⟨rfl, hB⟩
theorem concat_txt (ds : List Int) : (⟨#[45]⟩ : ByteArray) ++ ⟨(u8s (asc ds).reverse).toArray⟩ = txt true ds := by
  apply ByteArray.ext
  rw [ByteArray.data_append]
  simp [txt, u8s]
set_option maxRecDepth 20000 in
set_option maxHeartbeats 4000000 in
theorem rText_any (na : Bool) (x : Option Addr) (ca : Nat) (xs : List Int) (w : World) (ha : Row w .i64 65536 x ca xs) (hnx : nrm xs) (hne : xs ≠ []) (hl : xs.length ≤ 200) :
    Calls Tryz.prog 108 #[.agg #[.bool na, .slice x xs.length ca]] w fun e w' => ∃ ds, Words 10 ds ∧ nrm ds ∧ ds ≠ [] ∧ val 10 ds = val 65536 xs ∧ e = .returned (.string (txt na ds)) ∧ Below w.heap.size w w' := by
  obtain ⟨W, hW, hbW, hlt, c0, c1, _, _⟩ := box1r w (.bool na) (.slice x xs.length ca) 32
  have hVl := val_lt (B := 65536) (by decide) ha.words
  generalize hV : val 65536 xs = V at *
  replace hV : Hid _ := hV
  go_enter Tryz.func108, Tryz.ntmps108
  go_wp2
  rw [← hW]
  clear hW
  go_loopw [3, 4, 5, 6] (fun b d q r wr => ∃ (zs ds : List Int) (a ab : Option Addr) (cz cb : Nat), b = .slice ab ds.length cb ∧ d = .slice a zs.length cz ∧ Own wr W.heap.size .u8 5 256 ab cb (asc ds).reverse ∧ Row wr .i64 65536 a cz zs ∧ Hid (nrm zs) ∧ zs.length ≤ xs.length ∧ ds.length ≤ 5 * xs.length + 1 ∧ Words 10 ds ∧ Hid (val 10 ds + val 65536 zs * 10 ^ ds.length = V) ∧ Hid (zs = [] → nrm ds ∧ ds ≠ []) ∧ Below W.heap.size W wr) (fun b _ _ _ _ => V.toNat + 2 - lenOf b)
  case atStart => exact ⟨xs, [], x, none, ca, 0, rfl, rfl, Own.empty _ _ _ _ _, ha.next hbW, hnx, Nat.le_refl _, by simp, Words.nil _, by simp [val, Hid]; exact hV.out, fun h => absurd h hne, Below.refl _ _⟩
  case round =>
    obtain ⟨zs, ds, a, ab, cz, cb, rfl, rfl, hown, hrow, hzn, hzl, hdm, hdw, HV, HE, hbel⟩ := hrel
    by_cases hz : zs = []
    · obtain ⟨hdn, hdne⟩ := HE.out hz
      have hdp : 0 < ds.length := List.length_pos_iff.2 hdne
      subst hz
      have hv : Hid (val 10 ds = V) := by have := HV.out; simpa [val, Hid] using this
      have hrl : (asc ds).reverse.length = ds.length := by rw [List.length_reverse, asc_len]
      obtain ⟨g, rfl, hg, hblk⟩ := hown.some (by omega)
      have hconv := conv_any wr g cb cb (asc ds).reverse hblk hown.words
      rw [hrl] at hconv
      have c0' := keep_cell hbel c0
      have hB := bthen hbW hbel
      have hul : (u8s (asc ds).reverse).length ≤ 2000 := by rw [u8s_len, hrl]; omega
      have hdb : ((ds.length : Int) == 0) = false := by simp; exact hdne
      replace hdn : Hid _ := hdn
      replace hdne : Hid _ := hdne
      replace hrl : Hid _ := hrl
      cases na with
      | false =>
        go_wp2
        go_ret
        exact ⟨ds, hdw, hdn.out, hdne.out, hv.out, by simp [txt], hB⟩
      | true =>
        go_wp2
        go_ret
        exact ⟨ds, hdw, hdn.out, hdne.out, hv.out, by rw [← concat_txt]; rfl, hB⟩
    · have hzp : 0 < zs.length := List.length_pos_iff.2 hz
      have hzv := nrm_val_pos (B := 65536) (by decide) hrow.words hzn.out hz
      have hten : (10 : Int) ^ ds.length ≤ V := by
        have e := HV.out
        have e1 := val_nonneg (B := 10) (by decide) hdw
        have e2 : 1 * (10 : Int) ^ ds.length ≤ val 65536 zs * 10 ^ ds.length := Int.mul_le_mul_of_nonneg_right (by omega) (Int.le_of_lt (Int.pow_pos (by decide)))
        omega
      have hdl := five_le hten hVl
      have hlen : ((ds.length : Nat) : Int) < V := by
        have : ((ds.length : Nat) : Int) < (10 : Int) ^ ds.length := by
          have := Nat.lt_pow_self (n := ds.length) (show 1 < 10 by decide)
          have e : ((10 ^ ds.length : Nat) : Int) = (10 : Int) ^ ds.length := by simp
          omega
        omega
      have ks := small_any a cz zs 10 wr hrow (by omega) (by decide) (by decide)
      replace ks : Hid _ := ks
      replace hten : Hid _ := hten
      clear hz
      go_wp2_with fail
      refine Calls.mono ks.out ?_
      rintro e w1 ⟨a', cap', qs, r, rfl, hq, hqn, hqv, hr0, hr1, hql, hb1⟩
      clear ks
      have hrl : (asc ds).reverse.length = ds.length := by rw [List.length_reverse, asc_len]
      have hbel1 : Below W.heap.size W w1 := hbel.trans (hb1.mono hbel.size)
      obtain ⟨a2, cap2, w2, hrun, hown2, hb2⟩ := app_front w1 (48 + r) (by omega) w1.heap.size (Nat.le_refl _) ab cb (asc ds).reverse (hown.row.next hb1) (by omega)
      rw [hrl] at hrun
      rw [← asc_rev] at hown2
      replace hrun : Hid _ := hrun
      have hD : Below w1.heap.size w1 (w1.alloc (.cells #[.int .u8 (48 + r)] 5)) := (Below.refl _ _).alloc (Nat.le_refl _) _
      have hbd : Below w1.heap.size w1 w2 := hD.trans hb2
      have hbb : Below W.heap.size W w2 := hbel1.trans (hbd.mono hbel1.size)
      have HS : Hid (val 10 (ds ++ [r]) + val 65536 qs * 10 ^ (ds.length + 1) = V) := dec_one rfl hqv HV.out
      have hrq : Row w2 .i64 65536 a' cap' qs := hq.1.next hbd
      have HE2 : Hid (qs = [] → nrm (ds ++ [r]) ∧ ds ++ [r] ≠ []) := fun h => by
        subst h
        refine ⟨nrm_snoc _ _ ?_, by simp⟩
        simp [val] at hqv
        omega
      have hl3 : ds.length + 1 = (ds ++ [r]).length := by simp
      replace hl3 : Hid _ := hl3
      replace hqn : Hid _ := hqn
      replace hqv : Hid _ := hqv
      replace hrl : Hid _ := hrl
      clear HV HE
      go_wp2_with (at_builtin; refine wpList_append_run (by rfl) (.tmp 25) (.tmp 26) 154 154 (by rfl) (.slice (some ⟨w1.heap.size, 0, none⟩) 1 1) (.slice ab ds.length cb) (by rfl) (by rfl) _ _ hrun.out ?_)
      go_roundw
      case rel => exact ⟨qs, ds ++ [r], a', a2, cap', cap2, by rw [← hl3.out], rfl, hown2.mono hbel1.size, hrq, hqn, by omega, by rw [← hl3.out]; omega, hdw.append (Words.one ⟨hr0, hr1⟩), by show _ = _; rw [← hl3.out]; exact HS.out, HE2, hbb⟩
      case measure => simp [lenOf]; omega
theorem rText_num {w : World} {u : Value} {y : Int} {m : Nat} {ds : List Int} (hd : Decs y ds) (hu : Rint w u y m) (hm : m ≤ 200) :
    Calls Tryz.prog 108 #[u] w fun e w' => e = .returned (.string (txt (decide (y < 0)) ds)) ∧ Below w.heap.size w w' := by
  obtain ⟨na, x, ca, xs, rfl, ha, hn, rfl, hl⟩ := hu
  by_cases h0 : num 65536 na xs = 0
  · have hx : xs = [] := by
      by_cases e : xs = []
      · exact e
      · have := nrm_val_pos (B := 65536) (by decide) ha.words hn.1 e
        cases na <;> simp [num] at h0 <;> omega
    subst hx
    have e := hd.2.2.2.2 h0
    subst e
    have hna : na = false := by cases na with | false => rfl | true => exact absurd rfl (hn.2 rfl)
    subst hna
    exact rText_zero x ca w ha
  · have hne : xs ≠ [] := by intro e; subst e; apply h0; cases na <;> simp [num, val]
    have hvp := nrm_val_pos (B := 65536) (by decide) ha.words hn.1 hne
    have hna : decide (num 65536 na xs < 0) = na := by cases na <;> simp [num] <;> omega
    refine (rText_any na x ca xs w ha hn.1 hne (by omega)).mono ?_
    rintro e w' ⟨es, h1, h2, h3, h4, rfl, h⟩
    have : es = ds := nrm_unique (B := 10) (by decide) h1 hd.1 h2 (hd.2.2.2.1 h0) (by rw [h4, hd.2.2.1]; exact val_abs (by decide) ha.words)
    subst this
    rw [hna]
    exact ⟨rfl, h⟩
end Go.Proofs.YtmpefgemlpnbiaaGreat
namespace Go.Proofs.YtmpefgemlpnbiaaGreat
set_option linter.unusedVariables false
open Go.RowKit
attribute [local go_sem ↓] Go.wp_at_zero Go.wp_at_succ
set_option maxRecDepth 20000 in
set_option maxHeartbeats 8000000 in
theorem TextRat_num {w : World} {v : Value} {p q : Int} {m : Nat} {ds es : List Int} (hv : RatR w v p q m) (hds : Decs p ds) (hes : Decs q es) (hm : m ≤ 200) (ld : ds.length ≤ 10000) (le : es.length ≤ 10000) :
    Calls Tryz.prog 70 #[v] w fun e w' => e = .returned (.string (txt (decide (p < 0)) ds ++ { data := #[47] } ++ txt (decide (q < 0)) es)) ∧ Below w.heap.size w w' := by
  obtain ⟨n1, a1, l1, c1, n2, a2, l2, c2, rfl⟩ := hv.form
  obtain ⟨W, hW⟩ : ∃ W, W = w.alloc (.cells #[.bool n1, .slice a1 l1 c1, .bool n2, .slice a2 l2 c2] 34) := ⟨_, rfl⟩
  have hbW : Below w.heap.size w W := by rw [hW]; exact (Below.refl _ _).alloc (Nat.le_refl _) _
  have e0 : W.cell? ⟨w.heap.size, 0, none⟩ = some (.bool n1) := by rw [hW]; simp [go_sem]
  have e1 : W.cell? ⟨w.heap.size, 1, none⟩ = some (.slice a1 l1 c1) := by rw [hW]; simp [go_sem]
  have e2 : W.cell? ⟨w.heap.size, 2, none⟩ = some (.bool n2) := by rw [hW]; simp [go_sem]
  have e3 : W.cell? ⟨w.heap.size, 3, none⟩ = some (.slice a2 l2 c2) := by rw [hW]; simp [go_sem]
  obtain ⟨hP, hQ⟩ := (hv.next hbW).parts
  have hD0 : Below W.heap.size W W.drew := (Below.refl _ _).drew
  have t1 := txt_size (decide (p < 0)) ds
  have t2 := txt_size (decide (q < 0)) es
  have o1 : ¬ ((txt (decide (p < 0)) ds).size + 1 > 9223372036854775807) := by omega
  have o2 : ¬ ((txt (decide (p < 0)) ds).size + 1 + (txt (decide (q < 0)) es).size > 9223372036854775807) := by omega
  have k1 : Hid (∀ w', Below W.heap.size W w' → Calls Tryz.prog 108 #[.agg #[.bool n1, .slice a1 l1 c1]] w' fun e w'' => e = .returned (.string (txt (decide (p < 0)) ds)) ∧ Below W.heap.size W w'') := by
    intro w' h
    refine (rText_num hds (hP.next h) (by omega)).mono ?_
    rintro e w'' ⟨rfl, h2⟩
    exact ⟨rfl, bthen h h2⟩
  have k2 : Hid (∀ w', Below W.heap.size W w' → Calls Tryz.prog 108 #[.agg #[.bool n2, .slice a2 l2 c2]] w' fun e w'' => e = .returned (.string (txt (decide (q < 0)) es)) ∧ Below W.heap.size W w'') := by
    intro w' h
    refine (rText_num hes (hQ.next h) (by omega)).mono ?_
    rintro e w'' ⟨rfl, h2⟩
    exact ⟨rfl, bthen h h2⟩
  clear t1 t2 hP hQ hds hes hv ld le
  generalize txt (decide (p < 0)) ds = T1 at *
  generalize txt (decide (q < 0)) es = T2 at *
  go_enter Tryz.func70, Tryz.ntmps70
  go_upto_region 1 with fail
  rw [← hW]
  clear hW
  go_region_with (first
    | (go_at_call 108; refine Calls.mono (k1.out _ hD0) ?_; rintro e w2 ⟨rfl, hB2⟩; clear k1; have p2 := keep_cell hB2 e2; have p3 := keep_cell hB2 e3)
    | (go_at_call 108; refine Calls.mono (k2.out _ hB2) ?_; rintro e w3 ⟨rfl, hB3⟩; clear k2))
  all_goals
    clear hB2
    go_wp2
    go_ret
    exact ⟨rfl, bthen hbW hB3⟩
end Go.Proofs.YtmpefgemlpnbiaaGreat
namespace Go.Proofs.YtmpefgemlpnbiaaGreat
set_option linter.unusedVariables false
open Go.RowKit
attribute [local go_sem ↓] Go.wp_at_zero Go.wp_at_succ
def FromAt (w wc : World) (g : Nat) (n1 : Bool) (a1 : Option Addr) (l1 c1 : Nat) (n d : Int) (m : Nat) : Prop :=
  (wc.cell? ⟨w.heap.size, 0, none⟩ = some (.bool n1) ∧ wc.cell? ⟨w.heap.size, 1, none⟩ = some (.slice a1 l1 c1) ∧ Num wc (.agg #[.bool n1, .slice a1 l1 c1]) n m) ∧
  (∃ n3 a3 l3 c3, wc.cell? ⟨g, 0, none⟩ = some (.bool n3) ∧ wc.cell? ⟨g, 1, none⟩ = some (.slice a3 l3 c3) ∧ Rint wc (.agg #[.bool n3, .slice a3 l3 c3]) d (2 * m + 1)) ∧ Box4 wc (w.heap.size + 1) ∧ Below w.heap.size w wc
set_option maxRecDepth 20000 in
set_option maxHeartbeats 4000000 in
theorem FromRat_num {w : World} {u : Value} {n d : Int} {m : Nat} (hu : Frac w u n d m) (hm : m ≤ 200) :
    Calls Tryz.prog 12 #[u] w fun e w' => ∃ t, e = .returned t ∧ LowR w' t (pN n d) (pD d) (2 * m + 3) ∧ Below w.heap.size w w' := by
  obtain ⟨n1, a1, l1, c1, n2, a2, l2, c2, rfl, h1, h2⟩ := hu
  obtain ⟨W, hW, hbW, ⟨e0, e1, e2, e3⟩, x0⟩ := boxes_one34 w n1 a1 l1 c1 n2 a2 l2 c2 26
  replace h1 := h1.next hbW
  replace h2 := h2.next hbW
  have k1 := From_num h2 (by omega)
  replace k1 : Hid _ := k1
  go_enter Tryz.func12, Tryz.ntmps12
  go_upto_region 1 with fail
  rw [← hW]
  clear hW
  go_wp2_with fail
  refine Calls.mono k1.out ?_
  rintro e w1 ⟨t, rfl, hO, b1⟩
  clear k1
  replace hO := hO.rint
  obtain ⟨n3, a3, l3, c3, rfl⟩ := hO.form
  obtain ⟨W1, hW1⟩ : ∃ W1, W1 = w1.alloc (.cells #[.bool n3, .slice a3 l3 c3] 32) := ⟨_, rfl⟩
  have b2 : Below w1.heap.size w1 W1 := by rw [hW1]; exact (Below.refl _ _).alloc (Nat.le_refl _) _
  have g0 : W1.cell? ⟨w1.heap.size, 0, none⟩ = some (.bool n3) := by rw [hW1]; simp [go_sem]
  have g1 : W1.cell? ⟨w1.heap.size, 1, none⟩ = some (.slice a3 l3 c3) := by rw [hW1]; simp [go_sem]
  have x1 : Box2 W1 w1.heap.size := by rw [hW1]; exact Box2.new w1 n3 a3 l3 c3 32 (by decide)
  have b12 := bthen b1 b2
  have hs1 := b1.size
  have hx0 := x0.noint.lt
  replace e0 := keep_cell b12 e0
  replace e1 := keep_cell b12 e1
  replace x0 := x0.next b12
  replace h1 := h1.next b12
  replace hO := hO.next b2
  have hB := bthen hbW b12
  go_upto_region 2 with fail
  rw [← hW1]
  clear hW1 b1 b2 b12 h2 hbW e2 e3
  obtain ⟨g, hg⟩ : ∃ g, g = w1.heap.size := ⟨_, rfl⟩
  have hgl : w.heap.size + 1 < g := by omega
  rw [← hg] at g0 g1 x1 ⊢
  clear hg
  have hdig := hO.digits
  replace hdig : Hid _ := hdig
  go_upto_if 10 with fail
  go_cut [] from 4 (fun wc => FromAt w wc g n1 a1 l1 c1 n (if d = 0 then 1 else d) m)
  case first =>
    by_cases hd : d = 0
    · have hl : l3 = 0 := hdig.out.2 hd
      subst hl
      clear hdig
      go_wp2_with fail
      refine Calls.mono (rOf_one W1) ?_
      rintro e w5 ⟨t, rfl, hP, b5⟩
      obtain ⟨n5, a5, l5, c5, rfl⟩ := hP.rint.form
      obtain ⟨W2, hW2, j0, j1, jo, jb2, jb4, jx, jB⟩ := put2r (x1.next b5) n5 a5 l5 c5
      obtain ⟨_, _, _, _, q0, q1, qf⟩ := (x1.next b5).cells
      have f0 := qf 0
      have f1 := qf 1
      have hBx := put2_boxed (base := 0) (x1.next b5).noint (Nat.zero_le _) n5 a5 l5 c5
      rw [← hW2] at hBx
      have hA : FromAt w W2 g n1 a1 l1 c1 n (if d = 0 then 1 else d) m := by
        rw [if_pos hd]
        exact ⟨⟨(jo _ (by simp; omega)).trans (keep_cell b5 e0), (jo _ (by simp; omega)).trans (keep_cell b5 e1), hBx.num (h1.next b5)⟩, ⟨_, _, _, _, j0, j1, (jx _ _ _ hP.rint).mono (by omega)⟩, jb4 _ (by omega) (x0.next b5), jB _ _ (bthen hB b5) (by omega)⟩
      clear qf jo jb2 jb4 jx jB hBx
      go_wp2
      rw [← hW2]
      go_meet
      case rel => exact hA
    · have hl : ¬ ((l3 : Int) = 0) := fun e => hd (hdig.out.1 (by omega))
      have hA : FromAt w W1 g n1 a1 l1 c1 n (if d = 0 then 1 else d) m := by
        rw [if_neg hd]
        exact ⟨⟨e0, e1, h1⟩, ⟨_, _, _, _, g0, g1, hO.mono (by omega)⟩, x0, hB⟩
      clear hdig
      go_wp2
      go_meet
      case rel => exact hA
  case rest =>
    clear hdig hO e0 e1 x0 x1 h1 hB g0 g1 hs1 hx0
    obtain ⟨⟨e0, e1, h1⟩, ⟨n3, a3, l3, c3, g0, g1, hO⟩, x0, hB⟩ := hcut
    have hD0 : Below wc.heap.size wc wc.drew := (Below.refl _ _).drew
    have hz : (if d = 0 then 1 else d) ≠ 0 := by split <;> omega
    have hpd : pD (if d = 0 then 1 else d) = pD d := by unfold pD; split <;> simp_all
    have hpn : pN n (if d = 0 then 1 else d) = pN n d := by unfold pN; split <;> simp_all
    generalize (if d = 0 then 1 else d) = D at *
    replace hpd : Hid _ := hpd
    replace hpn : Hid _ := hpn
    replace hz : Hid _ := hz
    go_upto_region 4 with fail
    go_region_with (first
      | (go_at_call 52; refine Calls.mono (From_num (h1.next hD0) (by omega)) ?_; rintro e w2 ⟨t, rfl, hP, hb2⟩; replace hP := hP.rint; obtain ⟨n5, a5, l5, c5, rfl⟩ := hP.form; have hB2 : Below wc.heap.size wc w2 := bthen hD0 hb2; have p0 := keep_cell hB2 g0; have p1 := keep_cell hB2 g1)
      | (go_at_call 50; refine Calls.mono (rRatio_num (hP.mono (m := 2 * m + 1) (by omega)) (hO.next hB2) hz.out (by omega)) ?_; rintro e w3 ⟨t, P, Q, rfl, hR, hl, hb3⟩; obtain ⟨n7, a7, l7, c7, n8, a8, l8, c8, rfl⟩ := hR.form; have hB3 : Below wc.heap.size wc w3 := bthen hB2 hb3; have y0 := x0.next hB3; obtain ⟨_, _, _, _, _, _, _, _, j0, j1, j2, j3, f⟩ := y0.cells; have f0 := f 0; have f1 := f 1; have f2 := f 2; have f3 := f 3; clear f))
    all_goals
      have hbx : Hid _ := put4_boxed (base := w.heap.size) y0.noint (by omega) n7 a7 l7 c7 n8 a8 l8 c8
      have hBf := bthen hB hB3
      obtain ⟨r1, r2⟩ := hR.parts
      have hUf : Hid _ := hbx.out.rint r1
      have hOf : Hid _ := hbx.out.rint r2
      rw [hpn.out, hpd.out] at hl
      replace hl : Hid _ := hl
      clear hO hR hP h1 hb2 hB2 r1 r2 hb3 hB3
      go_wp2
      exact bodyPost_ret (v := .agg #[.bool n7, .slice a7 l7 c7, .bool n8, .slice a8 l8 c8]) (by simp [results, Tryz.results12, go_sem, j0, j1, j2, j3]) rfl ⟨_, rfl, ⟨P, Q, ⟨_, _, _, _, _, _, _, _, rfl, hUf.out, hOf.out⟩, hl.out⟩, hbx.out.keep hBf (Nat.le_refl _) hBf.size⟩
end Go.Proofs.YtmpefgemlpnbiaaGreat
