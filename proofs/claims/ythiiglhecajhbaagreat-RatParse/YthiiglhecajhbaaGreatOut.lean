/- The contracts again, over values that read as numbers. -/
import Derived.Test.YthiiglhecajhbaaGreatTex
namespace Go.Proofs.YthiiglhecajhbaaGreat
open Go.RowKit
/-- A value of type api.Big that reads as the number z, in at most n words; noughts at its end, and a zero's sign, say nothing. -/
def Num (w : World) (v : Value) (z : Int) (n : Nat) : Prop :=
  ∃ (neg : Bool) (a : Option Addr) (cap : Nat) (ds : List Int), v = .agg #[.bool neg, .slice a ds.length cap] ∧ Row w .u32 4294967296 a cap ds ∧ num 4294967296 neg ds = z ∧ ds.length ≤ n
theorem Out.num {w : World} {b : Nat} {v : Value} {z : Int} {n : Nat} (h : Out w b v z n) : Num w v z n := by
  obtain ⟨neg, a, cap, ds, hv, ho, _, hz, hl⟩ := h
  exact ⟨neg, a, cap, ds, hv, ho.row, hz, hl⟩
theorem Num.next {w w' : World} {v : Value} {z : Int} {n : Nat} (h : Num w v z n) (hb : Below w.heap.size w w') : Num w' v z n := by
  obtain ⟨neg, a, cap, ds, hv, hr, r⟩ := h
  exact ⟨neg, a, cap, ds, hv, hr.next hb, r⟩
theorem Num.form {w : World} {v : Value} {z : Int} {n : Nat} (h : Num w v z n) : ∃ neg a l cap, v = .agg #[.bool neg, .slice a l cap] := by
  obtain ⟨neg, a, cap, ds, hv, _⟩ := h
  exact ⟨neg, a, ds.length, cap, hv⟩
theorem Out.form {w : World} {b : Nat} {v : Value} {z : Int} {n : Nat} (h : Out w b v z n) : ∃ neg a l cap, v = .agg #[.bool neg, .slice a l cap] := h.num.form
theorem Out.mono {w : World} {b b' : Nat} {v : Value} {z : Int} {n : Nat} (h : Out w b v z n) (hb : b' ≤ b) : Out w b' v z n := by
  obtain ⟨neg, a, cap, ds, hv, ho, r⟩ := h
  exact ⟨neg, a, cap, ds, hv, ho.mono hb, r⟩
theorem Add_num {w : World} {u v : Value} {y z : Int} {m n : Nat} (hu : Num w u y m) (hv : Num w v z n) (hm : m ≤ 100000) (hn : n ≤ 100000) :
    Calls Tryz.prog 46 #[u, v] w fun e w' => ∃ t, e = .returned t ∧ Out w' w.heap.size t (y + z) (max m n + 1) ∧ Below w.heap.size w w' := by
  obtain ⟨na, x, ca, xs, rfl, ha, rfl, hl⟩ := hu
  obtain ⟨nb, x', cb, ys, rfl, hb, rfl, hl'⟩ := hv
  refine (Add_any na nb x x' ca cb xs ys w ha hb (by omega) (by omega)).mono ?_
  rintro e w' ⟨t, rfl, ⟨neg, a, cap, ds, r1, r2, r3, r4, r5⟩, h⟩
  exact ⟨t, rfl, ⟨neg, a, cap, ds, r1, r2, r3, r4, by omega⟩, h⟩
theorem Sub_num {w : World} {u v : Value} {y z : Int} {m n : Nat} (hu : Num w u y m) (hv : Num w v z n) (hm : m ≤ 100000) (hn : n ≤ 100000) :
    Calls Tryz.prog 48 #[u, v] w fun e w' => ∃ t, e = .returned t ∧ Out w' w.heap.size t (y - z) (max m n + 1) ∧ Below w.heap.size w w' := by
  obtain ⟨na, x, ca, xs, rfl, ha, rfl, hl⟩ := hu
  obtain ⟨nb, x', cb, ys, rfl, hb, rfl, hl'⟩ := hv
  refine (Sub_any na nb x x' ca cb xs ys w ha hb (by omega) (by omega)).mono ?_
  rintro e w' ⟨t, rfl, ⟨neg, a, cap, ds, r1, r2, r3, r4, r5⟩, h⟩
  exact ⟨t, rfl, ⟨neg, a, cap, ds, r1, r2, r3, r4, by omega⟩, h⟩
theorem Mul_num {w : World} {u v : Value} {y z : Int} {m n : Nat} (hu : Num w u y m) (hv : Num w v z n) (hm : m ≤ 100000) (hn : n ≤ 100000) :
    Calls Tryz.prog 39 #[u, v] w fun e w' => ∃ t, e = .returned t ∧ Out w' w.heap.size t (y * z) (m + n) ∧ Below w.heap.size w w' := by
  obtain ⟨na, x, ca, xs, rfl, ha, rfl, hl⟩ := hu
  obtain ⟨nb, x', cb, ys, rfl, hb, rfl, hl'⟩ := hv
  refine (Mul_any na nb x x' ca cb xs ys w ha hb (by omega) (by omega)).mono ?_
  rintro e w' ⟨t, rfl, ⟨neg, a, cap, ds, r1, r2, r3, r4, r5⟩, h⟩
  exact ⟨t, rfl, ⟨neg, a, cap, ds, r1, r2, r3, r4, by omega⟩, h⟩
theorem Neg_num {w : World} {u : Value} {y : Int} {m : Nat} (hu : Num w u y m) (hm : m ≤ 100000) :
    Calls Tryz.prog 49 #[u] w fun e w' => ∃ t, e = .returned t ∧ Out w' w.heap.size t (-y) m ∧ Below w.heap.size w w' := by
  obtain ⟨na, x, ca, xs, rfl, ha, rfl, hl⟩ := hu
  refine (Neg_any na x ca xs w ha (by omega)).mono ?_
  rintro e w' ⟨t, rfl, ⟨neg, a, cap, ds, r1, r2, r3, r4, r5⟩, h⟩
  exact ⟨t, rfl, ⟨neg, a, cap, ds, r1, r2, r3, r4, by omega⟩, h⟩
theorem Cmp_num {w : World} {u v : Value} {y z : Int} {m n : Nat} (hu : Num w u y m) (hv : Num w v z n) (hm : m ≤ 100000) (hn : n ≤ 100000) :
    Calls Tryz.prog 51 #[u, v] w fun e w' => e = .returned (.int .i64 (cmpI y z)) ∧ Below w.heap.size w w' := by
  obtain ⟨na, x, ca, xs, rfl, ha, rfl, hl⟩ := hu
  obtain ⟨nb, x', cb, ys, rfl, hb, rfl, hl'⟩ := hv
  exact Cmp_any na nb x x' ca cb xs ys w ha hb (by omega) (by omega)
theorem Text_pos {w : World} {u : Value} {y : Int} {m : Nat} (hu : Num w u y m) (hm : m ≤ 1000) (hy : 0 < y) (L : List Int) (hL : Words 10 L) (nL : nrm L) (vL : val 10 L = y) :
    Calls Tryz.prog 36 #[u] w fun e w' => e = .returned (.string ⟨(u8s (asc L).reverse).toArray⟩) ∧ Below w.heap.size w w' := by
  obtain ⟨na, x, ca, xs, rfl, ha, rfl, hl⟩ := hu
  have hv := val_nonneg (by decide) ha.words
  have hna : na = false := by cases na with | false => rfl | true => simp [num] at hy; omega
  subst hna
  have hne : trimmed xs ≠ [] := by
    intro e
    have := (trimmed_zero_iff (by decide) ha.words).1 e
    simp [num] at hy; omega
  refine (Text_any false x ca xs w ha (by omega) hne).mono ?_
  rintro e w' ⟨ds, h1, h2, h3, h4, rfl, h⟩
  have : ds = L := nrm_unique (by decide) h1 hL h2 nL (by rw [h4, vL]; simp [num])
  subst this
  exact ⟨rfl, h⟩
theorem Text_nought {w : World} {u : Value} {m : Nat} (hu : Num w u 0 m) (hm : m ≤ 1000) :
    Calls Tryz.prog 36 #[u] w fun e w' => e = .returned (.string ⟨#[48]⟩) ∧ Below w.heap.size w w' := by
  obtain ⟨na, x, ca, xs, rfl, ha, hz, hl⟩ := hu
  refine Text_zero na x ca xs w ha (by omega) ((trimmed_zero_iff (by decide) ha.words).2 ?_)
  cases na <;> simp [num] at hz <;> omega
/-- How many binary digits. -/
theorem Bits_eight {w : World} {u : Value} {m : Nat} (hu : Num w u 8 m) (hm : m ≤ 1000) :
    Calls Tryz.prog 81 #[u] w fun e w' => e = .returned (.int .i64 4) ∧ Below w.heap.size w w' := by
  obtain ⟨na, x, ca, xs, rfl, ha, hz, hl⟩ := hu
  have hv := val_nonneg (by decide) ha.words
  have h8 : val 4294967296 xs = 8 := by cases na <;> simp [num] at hz <;> omega
  have ht : trimmed xs = [8] := nrm_unique (B := 4294967296) (by decide) ha.words.trimmed (Words.one (by decide)) (trimmed_nrm xs) ⟨fun _ => by decide, trivial⟩ (by rw [trimmed_val, h8]; rfl)
  refine (Bits_any na x ca xs w ha (by omega)).mono ?_
  rintro e w' ⟨rfl, h⟩
  refine ⟨?_, h⟩
  rw [ht]
  have : Lib.bitLen 8 = 4 := by decide
  simp [this]
theorem Quo_word {w : World} {u v : Value} {y z : Int} {m n : Nat} (hu : Num w u y m) (hv : Num w v z n) (hm : m ≤ 100000) (hn : n ≤ 100000) (hz0 : z ≠ 0) (hz1 : z < 4294967296) (hz2 : -4294967296 < z) :
    Calls Tryz.prog 41 #[u, v] w fun e w' => ∃ t t', e = .returned (.tuple #[t, t', .bool true]) ∧ Out w' w.heap.size t (y.tdiv z) (m + 1) ∧ Out w' w.heap.size t' (y.tmod z) (m + n) ∧ Below w.heap.size w w' := by
  obtain ⟨na, x, ca, xs, rfl, ha, rfl, hl⟩ := hu
  obtain ⟨nb, x', cb, ys, rfl, hb, rfl, hl'⟩ := hv
  have hvy := val_nonneg (by decide) hb.words
  have hne : trimmed ys ≠ [] := by
    intro e
    have h0 := (trimmed_zero_iff (by decide) hb.words).1 e
    apply hz0
    cases nb <;> simp [num, h0]
  have hlt : val 4294967296 ys < 4294967296 ^ 1 := by
    cases nb <;> simp [num] at hz1 hz2 <;> omega
  have hlen : (trimmed ys).length ≤ 1 := nrm_len (by decide) hb.words.trimmed (trimmed_nrm ys) (by rw [trimmed_val]; exact hlt)
  have hpos := List.length_pos_iff.2 hne
  refine (Quo_any na nb x x' ca cb xs ys w ha hb (by omega) (by omega) hne (fun h => absurd (by omega) h)).mono ?_
  rintro e w' ⟨t, t', rfl, ⟨neg, a, cap, ds, r1, r2, r3, r4, r5⟩, ⟨neg', a', cap', ds', s1, s2, s3, s4, s5⟩, h⟩
  exact ⟨t, t', rfl, ⟨neg, a, cap, ds, r1, r2, r3, r4, by omega⟩, ⟨neg', a', cap', ds', s1, s2, s3, s4, by omega⟩, h⟩
end Go.Proofs.YthiiglhecajhbaaGreat
