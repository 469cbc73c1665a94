/- The contracts over values that read as numbers: the second road's, Bits of both. -/
import Derived.Test.YthiiglhecajhbaaGreatRgm
import Derived.Test.YthiiglhecajhbaaGreatNu
import Derived.Test.YthiiglhecajhbaaGreatStpm
namespace Go.Proofs.YthiiglhecajhbaaGreat
open Go.RowKit
theorem From_num {w : World} {u : Value} {y : Int} {m : Nat} (hu : Num w u y m) (hm : m ≤ 1000) :
    Calls Tryz.prog 30 #[u] w fun e w' => ∃ t, e = .returned t ∧ Rout w' w.heap.size t y (2 * m) ∧ Below w.heap.size w w' := by
  obtain ⟨na, x, ca, xs, rfl, ha, rfl, hl⟩ := hu
  refine (From_any na x ca xs w ha (by omega)).mono ?_
  rintro e w' ⟨t, rfl, ⟨neg, a, cap, ds, r1, r2, r3, r4, r5⟩, h⟩
  exact ⟨t, rfl, ⟨neg, a, cap, ds, r1, r2, r3, r4, by omega⟩, h⟩
theorem Is_num {w : World} {u v : Value} {y z : Int} {m n : Nat} (hu : OutE w u y m) (hv : Rint w v z n) (hm : m ≤ 1000) (hn : n ≤ 1000) :
    Calls Tryz.prog 15 #[u, v] w fun e w' => e = .returned (.bool (decide (y = z))) ∧ Below w.heap.size w w' := by
  obtain ⟨b, na, x, ca, xs, rfl, ha, hna, rfl, hl⟩ := hu
  obtain ⟨nb, x', cb, ys, rfl, hb, hnb, rfl, hl'⟩ := hv
  exact Is_any na nb x x' ca cb xs ys w ha.row hna hb hnb (by omega) (by omega)
theorem rAdd_num {w : World} {u v : Value} {y z : Int} {m n : Nat} (hu : Rint w u y m) (hv : Rint w v z n) (hm : m ≤ 1000) (hn : n ≤ 1000) :
    Calls Tryz.prog 47 #[u, v] w fun e w' => ∃ t, e = .returned t ∧ Rint w' t (y + z) (max m n + 1) ∧ Below w.heap.size w w' := by
  obtain ⟨na, x, ca, xs, rfl, ha, hna, rfl, hl⟩ := hu
  obtain ⟨nb, x', cb, ys, rfl, hb, hnb, rfl, hl'⟩ := hv
  refine (rAdd_any na nb x x' ca cb xs ys w ha hna hb hnb (by omega) (by omega)).mono ?_
  rintro e w' ⟨t, rfl, ho, h⟩
  exact ⟨t, rfl, ho.rint.mono (by omega), h⟩
theorem rSub_num {w : World} {u v : Value} {y z : Int} {m n : Nat} (hu : Rint w u y m) (hv : Rint w v z n) (hm : m ≤ 1000) (hn : n ≤ 1000) :
    Calls Tryz.prog 90 #[u, v] w fun e w' => ∃ t, e = .returned t ∧ Rint w' t (y - z) (max m n + 1) ∧ Below w.heap.size w w' := by
  obtain ⟨na, x, ca, xs, rfl, ha, hna, rfl, hl⟩ := hu
  obtain ⟨nb, x', cb, ys, rfl, hb, hnb, rfl, hl'⟩ := hv
  refine (rSub_any na nb x x' ca cb xs ys w ha hna hb hnb (by omega) (by omega)).mono ?_
  rintro e w' ⟨t, rfl, ho, h⟩
  exact ⟨t, rfl, ho.rint.mono (by omega), h⟩
theorem rMul_num {w : World} {u v : Value} {y z : Int} {m n : Nat} (hu : Rint w u y m) (hv : Rint w v z n) (hm : m ≤ 1000) (hn : n ≤ 1000) :
    Calls Tryz.prog 40 #[u, v] w fun e w' => ∃ t, e = .returned t ∧ Rint w' t (y * z) (m + n + 1) ∧ Below w.heap.size w w' := by
  obtain ⟨na, x, ca, xs, rfl, ha, hna, rfl, hl⟩ := hu
  obtain ⟨nb, x', cb, ys, rfl, hb, hnb, rfl, hl'⟩ := hv
  refine (rMul_any na nb x x' ca cb xs ys w ha hb (by omega) (by omega)).mono ?_
  rintro e w' ⟨t, rfl, ho, h⟩
  exact ⟨t, rfl, ho.rint.mono (by omega), h⟩
theorem rNeg_num {w : World} {u : Value} {y : Int} {m : Nat} (hu : Rint w u y m) :
    Calls Tryz.prog 50 #[u] w fun e w' => ∃ t, e = .returned t ∧ Rint w' t (-y) m ∧ Below w.heap.size w w' := by
  obtain ⟨na, x, ca, xs, rfl, ha, hna, rfl, hl⟩ := hu
  refine (rNeg_any na x ca xs.length w).mono ?_
  rintro e w' ⟨rfl, h⟩
  exact ⟨_, rfl, ⟨_, _, _, _, rfl, ha.next h, norm_pick _ _ hna.1, num_neg_pick na xs, hl⟩, h⟩
theorem rCmp_num {w : World} {u v : Value} {y z : Int} {m n : Nat} (hu : Rint w u y m) (hv : Rint w v z n) (hm : m ≤ 1000) (hn : n ≤ 1000) :
    Calls Tryz.prog 52 #[u, v] w fun e w' => e = .returned (.int .i64 (cmpI y z)) ∧ Below w.heap.size w w' := by
  obtain ⟨na, x, ca, xs, rfl, ha, hna, rfl, hl⟩ := hu
  obtain ⟨nb, x', cb, ys, rfl, hb, hnb, rfl, hl'⟩ := hv
  exact rCmp_any na nb x x' ca cb xs ys w ha hna hb hnb (by omega) (by omega)
theorem ld30 {w : World} {p : Nat} {v0 v1 : Value} (h0 : w.cell? ⟨p, 0, none⟩ = some v0) (h1 : w.cell? ⟨p, 1, none⟩ = some v1) {o : Oper} {b : Act} {K : Act → World → Prop} {Q : Exit → Act → World → Prop} (t : Nat) (ho : o.op = .load 32 (.tmp t)) (hb : b.tmps.getD t undef = .pointer (some ⟨p, 0, none⟩)) (h : K (b.put o.dst (.agg #[v0, v1])) w) : o.wp Tryz.prog b w K Q := by
  obtain ⟨dst, op, type, pos, after, guard⟩ := o
  dsimp only at ho
  subst ho
  unfold Oper.wp
  have e : b.eval (.tmp t) = .pointer (some ⟨p, 0, none⟩) := hb
  go_simp
  exact h
theorem eq3 {w : World} {m n : Int} {o : Oper} {b : Act} {K : Act → World → Prop} {Q : Exit → Act → World → Prop} (s t : Nat) (ho : o.op = .binOp .eql 3 (.tmp s) (.tmp t) 3) (hs : b.tmps.getD s undef = .int .i64 m) (ht : b.tmps.getD t undef = .int .i64 n) (h : K (b.put o.dst (.bool (m == n))) w) : o.wp Tryz.prog b w K Q := by
  obtain ⟨dst, op, type, pos, after, guard⟩ := o
  dsimp only at ho
  subst ho
  unfold Oper.wp
  have e : b.eval (.tmp s) = .int .i64 m := hs
  have e' : b.eval (.tmp t) = .int .i64 n := ht
  go_simp
  exact h
end Go.Proofs.YthiiglhecajhbaaGreat
