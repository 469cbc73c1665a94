/- The contracts over values that read as numbers: the second road's, Bits of both. -/
import Derived.Test.YtdcjgepgiaaaoaaRh
import Derived.Test.YtdcjgepgiaaaoaaStp
namespace Go.Proofs.Ytdcjgepgiaaaoaa
open Go.RowKit
theorem val_abs {B : Int} (hB : 0 < B) {n : Bool} {zs : List Int} (h : Words B zs) : val B zs = ((num B n zs).natAbs : Int) := by
  have := val_nonneg hB h
  cases n <;> simp [num] <;> omega
theorem bitLenAux_has : ∀ (f x : Nat), x < 2 ^ f → x < 2 ^ Lib.bitLenAux f x ∧ (Lib.bitLenAux f x = 0 ∨ 2 ^ (Lib.bitLenAux f x - 1) ≤ x)
  | 0, x, h => by simp at h; subst h; simp [Lib.bitLenAux]
  | f + 1, x, h => by
    by_cases hx : x = 0
    · subst hx; simp [Lib.bitLenAux]
    · have ih := bitLenAux_has f (x / 2) (by rw [Nat.pow_succ] at h; omega)
      simp only [Lib.bitLenAux, hx, if_false]
      generalize Lib.bitLenAux f (x / 2) = L at *
      refine ⟨?_, .inr ?_⟩
      · rw [Nat.pow_add]; omega
      · rcases ih.2 with e | e
        · subst e; simp; omega
        · by_cases hL : L = 0
          · subst hL; simp; omega
          · rw [show 1 + L - 1 = (L - 1) + 1 from by omega, Nat.pow_succ]; omega
theorem bitLen_has (x : Nat) (h : x < 4294967296) : x < 2 ^ Lib.bitLen x ∧ (x ≠ 0 → 0 < Lib.bitLen x ∧ 2 ^ (Lib.bitLen x - 1) ≤ x) := by
  have := bitLenAux_has 64 x (by omega)
  refine ⟨this.1, fun hx => ?_⟩
  rcases this.2 with e | e
  · have h1 := this.1
    rw [e] at h1
    simp at h1
    exact absurd h1 hx
  · refine ⟨?_, e⟩
    by_cases hL : Lib.bitLenAux 64 x = 0
    · have h1 := this.1
      rw [hL] at h1
      simp at h1
      exact absurd h1 hx
    · exact Nat.pos_of_ne_zero hL
/-- The top word's bits and 32 for each word below. -/
theorem has_words {xs : List Int} (hw : Words 4294967296 xs) (hn : nrm xs) (hne : xs ≠ []) : HasBits (val 4294967296 xs) (32 * (xs.length - 1) + Lib.bitLen (xs[xs.length - 1]?.getD 0).toNat) := by
  have hl := List.length_pos_iff.2 hne
  obtain ⟨p, hp, hp0, hp1⟩ := hw.get (by decide) (xs.length - 1)
  have htop : xs[xs.length - 1]?.getD 0 ≠ 0 := by
    have e := trimmed_of_nrm xs hn
    have e2 := congrArg List.length e
    rw [trimmed_len] at e2
    intro h0
    rw [show xs.length = (xs.length - 1) + 1 from by omega] at e2
    simp only [trimN, h0, if_true] at e2
    have := trimN_le xs (xs.length - 1)
    omega
  have hv : val 4294967296 xs = val 4294967296 (xs.take (xs.length - 1)) + p * 4294967296 ^ (xs.length - 1) := by
    have := val_take_succ 4294967296 xs (xs.length - 1)
    rw [show xs.length - 1 + 1 = xs.length from by omega, List.take_length, hp] at this
    exact this
  have h0 := val_nonneg (B := 4294967296) (by decide) (hw.take (xs.length - 1))
  have h1 := val_lt (B := 4294967296) (by decide) (hw.take (xs.length - 1))
  rw [List.length_take, Nat.min_eq_left (by omega)] at h1
  rw [hp] at htop ⊢
  have hb := bitLen_has p.toNat (by omega)
  have hpw : (4294967296 : Int) ^ (xs.length - 1) = 2 ^ (32 * (xs.length - 1)) := by rw [Int.pow_mul]; rfl
  rw [hpw] at h1 hv
  rw [hv]
  have hpos := pow_pos' (B := 2) (by decide) (32 * (xs.length - 1))
  clear hpw hv
  generalize hX : (2 : Int) ^ (32 * (xs.length - 1)) = X at *
  have hb1 : p + 1 ≤ 2 ^ Lib.bitLen p.toNat := by
    have := hb.1
    have e : ((2 ^ Lib.bitLen p.toNat : Nat) : Int) = 2 ^ Lib.bitLen p.toNat := by simp
    omega
  obtain ⟨hL, hb2⟩ := hb.2 (by omega)
  have hb3 : 2 ^ (Lib.bitLen p.toNat - 1) ≤ p := by
    have e : ((2 ^ (Lib.bitLen p.toNat - 1) : Nat) : Int) = 2 ^ (Lib.bitLen p.toNat - 1) := by simp
    omega
  refine ⟨?_, .inr ?_⟩
  · rw [Int.pow_add, hX]
    have := Int.mul_le_mul_of_nonneg_right hb1 (Int.le_of_lt hpos)
    rw [Int.add_mul, Int.mul_comm (2 ^ Lib.bitLen p.toNat) X] at this
    omega
  · rw [show 32 * (xs.length - 1) + Lib.bitLen p.toNat - 1 = 32 * (xs.length - 1) + (Lib.bitLen p.toNat - 1) from by omega, Int.pow_add, hX]
    have := Int.mul_le_mul_of_nonneg_right hb3 (Int.le_of_lt hpos)
    rw [Int.mul_comm (2 ^ (Lib.bitLen p.toNat - 1)) X] at this
    omega
theorem Bits_num {w : World} {u : Value} {y : Int} {m : Nat} (hu : Num w u y m) (hm : m ≤ 1000) :
    Calls Try.prog 23 #[u] w fun e w' => ∃ L : Nat, e = .returned (.int .i64 L) ∧ HasBits (y.natAbs : Int) L ∧ Below w.heap.size w w' := by
  obtain ⟨na, x, ca, xs, rfl, ha, rfl, hl⟩ := hu
  have hva := val_abs (B := 4294967296) (n := na) (by decide) ha.words
  refine (Bits_any na x ca xs w ha (by omega)).mono ?_
  rintro e w' ⟨rfl, h⟩
  rw [← hva]
  by_cases h0 : (trimmed xs).length = 0
  · refine ⟨0, by rw [if_pos h0]; rfl, ⟨?_, .inl rfl⟩, h⟩
    have e : trimmed xs = [] := List.eq_nil_of_length_eq_zero h0
    rw [← trimmed_val, e]
    decide
  · have hne : trimmed xs ≠ [] := fun e => h0 (by simp [e])
    have hh := has_words ha.words.trimmed (trimmed_nrm xs) hne
    rw [trimmed_val] at hh
    refine ⟨_, ?_, hh, h⟩
    rw [if_neg h0]
    congr 2
    omega
theorem rBits_num {w : World} {u : Value} {y : Int} {m : Nat} (hu : Rint w u y m) (hm : m ≤ 1000) :
    Calls Try.prog 24 #[u] w fun e w' => ∃ L : Nat, e = .returned (.int .i64 L) ∧ HasBits (y.natAbs : Int) L ∧ Below w.heap.size w w' := by
  obtain ⟨na, x, ca, xs, rfl, ha, _, rfl, hl⟩ := hu
  have hva := val_abs (B := 65536) (n := na) (by decide) ha.words
  rw [← hva]
  exact rBits_any na x ca xs w ha (by omega)
theorem From_num {w : World} {u : Value} {y : Int} {m : Nat} (hu : Num w u y m) (hm : m ≤ 1000) :
    Calls Try.prog 11 #[u] w fun e w' => ∃ t, e = .returned t ∧ Rout w' w.heap.size t y (2 * m) ∧ Below w.heap.size w w' := by
  obtain ⟨na, x, ca, xs, rfl, ha, rfl, hl⟩ := hu
  refine (From_any na x ca xs w ha (by omega)).mono ?_
  rintro e w' ⟨t, rfl, ⟨neg, a, cap, ds, r1, r2, r3, r4, r5⟩, h⟩
  exact ⟨t, rfl, ⟨neg, a, cap, ds, r1, r2, r3, r4, by omega⟩, h⟩
/-- An answer in normal form, wherever it lies. -/
def OutE (w : World) (v : Value) (z : Int) (n : Nat) : Prop := ∃ b, Out w b v z n
theorem OutE.next {w w' : World} {v : Value} {z : Int} {n : Nat} (h : OutE w v z n) (hb : Below w.heap.size w w') : OutE w' v z n := by
  obtain ⟨b, h⟩ := h
  exact ⟨b, h.next hb⟩
theorem Is_num {w : World} {u v : Value} {y z : Int} {m n : Nat} (hu : OutE w u y m) (hv : Rint w v z n) (hm : m ≤ 1000) (hn : n ≤ 1000) :
    Calls Try.prog 12 #[u, v] w fun e w' => e = .returned (.bool (decide (y = z))) ∧ Below w.heap.size w w' := by
  obtain ⟨b, na, x, ca, xs, rfl, ha, hna, rfl, hl⟩ := hu
  obtain ⟨nb, x', cb, ys, rfl, hb, hnb, rfl, hl'⟩ := hv
  exact Is_any na nb x x' ca cb xs ys w ha.row hna hb hnb (by omega) (by omega)
theorem rAdd_num {w : World} {u v : Value} {y z : Int} {m n : Nat} (hu : Rint w u y m) (hv : Rint w v z n) (hm : m ≤ 1000) (hn : n ≤ 1000) :
    Calls Try.prog 14 #[u, v] w fun e w' => ∃ t, e = .returned t ∧ Rint w' t (y + z) (max m n + 1) ∧ Below w.heap.size w w' := by
  obtain ⟨na, x, ca, xs, rfl, ha, hna, rfl, hl⟩ := hu
  obtain ⟨nb, x', cb, ys, rfl, hb, hnb, rfl, hl'⟩ := hv
  refine (rAdd_any na nb x x' ca cb xs ys w ha hna hb hnb (by omega) (by omega)).mono ?_
  rintro e w' ⟨t, rfl, ho, h⟩
  exact ⟨t, rfl, ho.rint.mono (by omega), h⟩
theorem rSub_num {w : World} {u v : Value} {y z : Int} {m n : Nat} (hu : Rint w u y m) (hv : Rint w v z n) (hm : m ≤ 1000) (hn : n ≤ 1000) :
    Calls Try.prog 16 #[u, v] w fun e w' => ∃ t, e = .returned t ∧ Rint w' t (y - z) (max m n + 1) ∧ Below w.heap.size w w' := by
  obtain ⟨na, x, ca, xs, rfl, ha, hna, rfl, hl⟩ := hu
  obtain ⟨nb, x', cb, ys, rfl, hb, hnb, rfl, hl'⟩ := hv
  refine (rSub_any na nb x x' ca cb xs ys w ha hna hb hnb (by omega) (by omega)).mono ?_
  rintro e w' ⟨t, rfl, ho, h⟩
  exact ⟨t, rfl, ho.rint.mono (by omega), h⟩
theorem rMul_num {w : World} {u v : Value} {y z : Int} {m n : Nat} (hu : Rint w u y m) (hv : Rint w v z n) (hm : m ≤ 1000) (hn : n ≤ 1000) :
    Calls Try.prog 18 #[u, v] w fun e w' => ∃ t, e = .returned t ∧ Rint w' t (y * z) (m + n + 1) ∧ Below w.heap.size w w' := by
  obtain ⟨na, x, ca, xs, rfl, ha, hna, rfl, hl⟩ := hu
  obtain ⟨nb, x', cb, ys, rfl, hb, hnb, rfl, hl'⟩ := hv
  refine (rMul_any na nb x x' ca cb xs ys w ha hb (by omega) (by omega)).mono ?_
  rintro e w' ⟨t, rfl, ho, h⟩
  exact ⟨t, rfl, ho.rint.mono (by omega), h⟩
theorem rNeg_num {w : World} {u : Value} {y : Int} {m : Nat} (hu : Rint w u y m) :
    Calls Try.prog 20 #[u] w fun e w' => ∃ t, e = .returned t ∧ Rint w' t (-y) m ∧ Below w.heap.size w w' := by
  obtain ⟨na, x, ca, xs, rfl, ha, hna, rfl, hl⟩ := hu
  refine (rNeg_any na x ca xs.length w).mono ?_
  rintro e w' ⟨rfl, h⟩
  exact ⟨_, rfl, ⟨_, _, _, _, rfl, ha.next h, norm_pick _ _ hna.1, num_neg_pick na xs, hl⟩, h⟩
theorem rCmp_num {w : World} {u v : Value} {y z : Int} {m n : Nat} (hu : Rint w u y m) (hv : Rint w v z n) (hm : m ≤ 1000) (hn : n ≤ 1000) :
    Calls Try.prog 22 #[u, v] w fun e w' => e = .returned (.int .i64 (cmpI y z)) ∧ Below w.heap.size w w' := by
  obtain ⟨na, x, ca, xs, rfl, ha, hna, rfl, hl⟩ := hu
  obtain ⟨nb, x', cb, ys, rfl, hb, hnb, rfl, hl'⟩ := hv
  exact rCmp_any na nb x x' ca cb xs ys w ha hna hb hnb (by omega) (by omega)
/-- A struct of two cells read whole. -/
theorem ld24 {w : World} {p : Nat} {v0 v1 : Value} (h0 : w.cell? ⟨p, 0, none⟩ = some v0) (h1 : w.cell? ⟨p, 1, none⟩ = some v1) {o : Oper} {b : Act} {K : Act → World → Prop} {Q : Exit → Act → World → Prop} (t : Nat) (ho : o.op = .load 24 (.tmp t)) (hb : b.tmps.getD t undef = .pointer (some ⟨p, 0, none⟩)) (h : K (b.put o.dst (.agg #[v0, v1])) w) : o.wp Try.prog b w K Q := by
  obtain ⟨dst, op, type, pos, after, guard⟩ := o
  dsimp only at ho
  subst ho
  unfold Oper.wp
  have e : b.eval (.tmp t) = .pointer (some ⟨p, 0, none⟩) := hb
  go_simp
  exact h
theorem ld30 {w : World} {p : Nat} {v0 v1 : Value} (h0 : w.cell? ⟨p, 0, none⟩ = some v0) (h1 : w.cell? ⟨p, 1, none⟩ = some v1) {o : Oper} {b : Act} {K : Act → World → Prop} {Q : Exit → Act → World → Prop} (t : Nat) (ho : o.op = .load 30 (.tmp t)) (hb : b.tmps.getD t undef = .pointer (some ⟨p, 0, none⟩)) (h : K (b.put o.dst (.agg #[v0, v1])) w) : o.wp Try.prog b w K Q := by
  obtain ⟨dst, op, type, pos, after, guard⟩ := o
  dsimp only at ho
  subst ho
  unfold Oper.wp
  have e : b.eval (.tmp t) = .pointer (some ⟨p, 0, none⟩) := hb
  go_simp
  exact h
theorem eq3 {w : World} {m n : Int} {o : Oper} {b : Act} {K : Act → World → Prop} {Q : Exit → Act → World → Prop} (s t : Nat) (ho : o.op = .binOp .eql 3 (.tmp s) (.tmp t) 3) (hs : b.tmps.getD s undef = .int .i64 m) (ht : b.tmps.getD t undef = .int .i64 n) (h : K (b.put o.dst (.bool (m == n))) w) : o.wp Try.prog b w K Q := by
  obtain ⟨dst, op, type, pos, after, guard⟩ := o
  dsimp only at ho
  subst ho
  unfold Oper.wp
  have e : b.eval (.tmp s) = .int .i64 m := hs
  have e' : b.eval (.tmp t) = .int .i64 n := ht
  go_simp
  exact h
end Go.Proofs.Ytdcjgepgiaaaoaa
