/- Numbers: contracts over values that read as numbers; boxes of numbers. -/
import Derived.Test.YthiiglhecajhbaaGreatTi
import Derived.Test.YthiiglhecajhbaaGreatKr
import Derived.Test.YthiiglhecajhbaaGreatStpm
import Derived.Test.YthiiglhecajhbaaGreatApp
import Derived.Deep.Cut
import Derived.Deep.CutRange
import Derived.Deep.Light
import Derived.Deep.RegionWith
import Derived.Deep.RegionLaw
import Derived.Test.YthiiglhecajhbaaGreatRam
namespace Go.Proofs.YthiiglhecajhbaaGreat
open Go.RowKit
attribute [local go_sem ↓] Go.wp_at_zero Go.wp_at_succ
/-- How many binary digits v has. -/
def HasBits (v : Int) (L : Nat) : Prop := v < 2 ^ L ∧ (L = 0 ∨ 2 ^ (L - 1) ≤ v)
theorem HasBits.unique {v : Int} {L M : Nat} (h : HasBits v L) (k : HasBits v M) : L = M := by
  have aux : ∀ {L M : Nat}, HasBits v L → HasBits v M → L ≤ M := by
    intro L M h k
    by_cases hc : L ≤ M
    · exact hc
    · rcases h.2 with e | e
      · omega
      · have := pow_mono (B := 2) (by decide) (m := M) (n := L - 1) (by omega)
        have := k.1
        omega
  exact Nat.le_antisymm (aux h k) (aux k h)
theorem val_abs {B : Int} (hB : 0 < B) {n : Bool} {zs : List Int} (h : Words B zs) : val B zs = ((num B n zs).natAbs : Int) := by
  have := val_nonneg hB h
  cases n <;> simp [num] <;> omega
theorem bitLenAux_has : ∀ (f x : Nat), x < 2 ^ f → x < 2 ^ Lib.bitLenAux f x ∧ (Lib.bitLenAux f x = 0 ∨ 2 ^ (Lib.bitLenAux f x - 1) ≤ x)
  | 0, x, h => by simp at h; subst h; simp [Lib.bitLenAux]
  | f + 1, x, h => by
    by_cases hx : x = 0
    · subst hx; simp [Lib.bitLenAux]
    · have ih := bitLenAux_has f (x / 2) (by rw [Nat.pow_succ] at h; omega)
      simp only [Lib.bitLenAux, hx, if_false]
      generalize Lib.bitLenAux f (x / 2) = L at *
      refine ⟨?_, .inr ?_⟩
      · rw [Nat.pow_add]; omega
      · rcases ih.2 with e | e
        · subst e; simp; omega
        · by_cases hL : L = 0
          · subst hL; simp; omega
          · rw [show 1 + L - 1 = (L - 1) + 1 from by omega, Nat.pow_succ]; omega
theorem bitLen_has (x : Nat) (h : x < 4294967296) : x < 2 ^ Lib.bitLen x ∧ (x ≠ 0 → 0 < Lib.bitLen x ∧ 2 ^ (Lib.bitLen x - 1) ≤ x) := by
  have := bitLenAux_has 64 x (by omega)
  refine ⟨this.1, fun hx => ?_⟩
  rcases this.2 with e | e
  · have h1 := this.1
    rw [e] at h1
    simp at h1
    exact absurd h1 hx
  · refine ⟨?_, e⟩
    by_cases hL : Lib.bitLenAux 64 x = 0
    · have h1 := this.1
      rw [hL] at h1
      simp at h1
      exact absurd h1 hx
    · exact Nat.pos_of_ne_zero hL
/-- The top word's bits and 32 for each word below. -/
theorem has_words {xs : List Int} (hw : Words 4294967296 xs) (hn : nrm xs) (hne : xs ≠ []) : HasBits (val 4294967296 xs) (32 * (xs.length - 1) + Lib.bitLen (xs[xs.length - 1]?.getD 0).toNat) := by
  have hl := List.length_pos_iff.2 hne
  obtain ⟨p, hp, hp0, hp1⟩ := hw.get (by decide) (xs.length - 1)
  have htop : xs[xs.length - 1]?.getD 0 ≠ 0 := by
    have e := trimmed_of_nrm xs hn
    have e2 := congrArg List.length e
    rw [trimmed_len] at e2
    intro h0
    rw [show xs.length = (xs.length - 1) + 1 from by omega] at e2
    simp only [trimN, h0, if_true] at e2
    have := trimN_le xs (xs.length - 1)
    omega
  have hv : val 4294967296 xs = val 4294967296 (xs.take (xs.length - 1)) + p * 4294967296 ^ (xs.length - 1) := by
    have := val_take_succ 4294967296 xs (xs.length - 1)
    rw [show xs.length - 1 + 1 = xs.length from by omega, List.take_length, hp] at this
    exact this
  have h0 := val_nonneg (B := 4294967296) (by decide) (hw.take (xs.length - 1))
  have h1 := val_lt (B := 4294967296) (by decide) (hw.take (xs.length - 1))
  rw [List.length_take, Nat.min_eq_left (by omega)] at h1
  rw [hp] at htop ⊢
  have hb := bitLen_has p.toNat (by omega)
  have hpw : (4294967296 : Int) ^ (xs.length - 1) = 2 ^ (32 * (xs.length - 1)) := by rw [Int.pow_mul]; rfl
  rw [hpw] at h1 hv
  rw [hv]
  have hpos := pow_pos' (B := 2) (by decide) (32 * (xs.length - 1))
  clear hpw hv
  generalize hX : (2 : Int) ^ (32 * (xs.length - 1)) = X at *
  have hb1 : p + 1 ≤ 2 ^ Lib.bitLen p.toNat := by
    have := hb.1
    have e : ((2 ^ Lib.bitLen p.toNat : Nat) : Int) = 2 ^ Lib.bitLen p.toNat := by simp
    omega
  obtain ⟨hL, hb2⟩ := hb.2 (by omega)
  have hb3 : 2 ^ (Lib.bitLen p.toNat - 1) ≤ p := by
    have e : ((2 ^ (Lib.bitLen p.toNat - 1) : Nat) : Int) = 2 ^ (Lib.bitLen p.toNat - 1) := by simp
    omega
  refine ⟨?_, .inr ?_⟩
  · rw [Int.pow_add, hX]
    have := Int.mul_le_mul_of_nonneg_right hb1 (Int.le_of_lt hpos)
    rw [Int.add_mul, Int.mul_comm (2 ^ Lib.bitLen p.toNat) X] at this
    omega
  · rw [show 32 * (xs.length - 1) + Lib.bitLen p.toNat - 1 = 32 * (xs.length - 1) + (Lib.bitLen p.toNat - 1) from by omega, Int.pow_add, hX]
    have := Int.mul_le_mul_of_nonneg_right hb3 (Int.le_of_lt hpos)
    rw [Int.mul_comm (2 ^ (Lib.bitLen p.toNat - 1)) X] at this
    omega
theorem Bits_num {w : World} {u : Value} {y : Int} {m : Nat} (hu : Num w u y m) (hm : m ≤ 1000) :
    Calls Tryz.prog 81 #[u] w fun e w' => ∃ L : Nat, e = .returned (.int .i64 L) ∧ HasBits (y.natAbs : Int) L ∧ Below w.heap.size w w' := by
  obtain ⟨na, x, ca, xs, rfl, ha, rfl, hl⟩ := hu
  have hva := val_abs (B := 4294967296) (n := na) (by decide) ha.words
  refine (Bits_any na x ca xs w ha (by omega)).mono ?_
  rintro e w' ⟨rfl, h⟩
  rw [← hva]
  by_cases h0 : (trimmed xs).length = 0
  · refine ⟨0, by rw [if_pos h0]; rfl, ⟨?_, .inl rfl⟩, h⟩
    have e : trimmed xs = [] := List.eq_nil_of_length_eq_zero h0
    rw [← trimmed_val, e]
    decide
  · have hne : trimmed xs ≠ [] := fun e => h0 (by simp [e])
    have hh := has_words ha.words.trimmed (trimmed_nrm xs) hne
    rw [trimmed_val] at hh
    refine ⟨_, ?_, hh, h⟩
    rw [if_neg h0]
    congr 2
    omega
/-- An answer in normal form, wherever it lies. -/
def OutE (w : World) (v : Value) (z : Int) (n : Nat) : Prop := ∃ b, Out w b v z n
theorem OutE.next {w w' : World} {v : Value} {z : Int} {n : Nat} (h : OutE w v z n) (hb : Below w.heap.size w w') : OutE w' v z n := by
  obtain ⟨b, h⟩ := h
  exact ⟨b, h.next hb⟩
/-- A struct of two cells read whole. -/
theorem ld24 {w : World} {p : Nat} {v0 v1 : Value} (h0 : w.cell? ⟨p, 0, none⟩ = some v0) (h1 : w.cell? ⟨p, 1, none⟩ = some v1) {o : Oper} {b : Act} {K : Act → World → Prop} {Q : Exit → Act → World → Prop} (t : Nat) (ho : o.op = .load 24 (.tmp t)) (hb : b.tmps.getD t undef = .pointer (some ⟨p, 0, none⟩)) (h : K (b.put o.dst (.agg #[v0, v1])) w) : o.wp Tryz.prog b w K Q := by
  obtain ⟨dst, op, type, pos, after, guard⟩ := o
  dsimp only at ho
  subst ho
  unfold Oper.wp
  have e : b.eval (.tmp t) = .pointer (some ⟨p, 0, none⟩) := hb
  go_simp
  exact h
theorem Quo_num {w : World} {u v : Value} {y z : Int} {m n : Nat} (hu : Num w u y m) (hv : Num w v z n) (hm : m ≤ 100000) (hn : n ≤ 100000) (hz : z ≠ 0) :
    Calls Tryz.prog 41 #[u, v] w fun e w' => ∃ t t', e = .returned (.tuple #[t, t', .bool true]) ∧ Out w' w.heap.size t (y.tdiv z) (m + 1) ∧ Out w' w.heap.size t' (y.tmod z) (m + n) ∧ Below w.heap.size w w' := by
  obtain ⟨na, x, ca, xs, rfl, ha, rfl, hl⟩ := hu
  obtain ⟨nb, x', cb, ys, rfl, hb, rfl, hl'⟩ := hv
  have hne : trimmed ys ≠ [] := by
    intro e
    have h0 := (trimmed_zero_iff (by decide) hb.words).1 e
    apply hz
    cases nb <;> simp [num, h0]
  have hpos := List.length_pos_iff.2 hne
  have l1 := trimmed_le xs
  refine (Quo_any na nb x x' ca cb xs ys w ha hb (by omega) (by omega) hne (fun h hv => long_said (trimmed_nrm xs) (trimmed_nrm ys) ha.words.trimmed hb.words.trimmed (by omega) (by omega) (by rw [trimmed_val, trimmed_val]; exact hv))).mono ?_
  rintro e w' ⟨t, t', rfl, ⟨neg, a, cap, ds, r1, r2, r3, r4, r5⟩, ⟨neg', a', cap', ds', s1, s2, s3, s4, s5⟩, h⟩
  exact ⟨t, t', rfl, ⟨neg, a, cap, ds, r1, r2, r3, r4, by omega⟩, ⟨neg', a', cap', ds', s1, s2, s3, s4, by omega⟩, h⟩
theorem Quo_none {w : World} {u v : Value} {y : Int} {m n : Nat} (hu : Num w u y m) (hv : Num w v 0 n) (hm : m ≤ 100000) (hn : n ≤ 100000) :
    Calls Tryz.prog 41 #[u, v] w fun e w' => e = .returned (.tuple #[.agg #[.bool false, .slice none 0 0], .agg #[.bool false, .slice none 0 0], .bool false]) ∧ Below w.heap.size w w' := by
  obtain ⟨na, x, ca, xs, rfl, ha, rfl, hl⟩ := hu
  obtain ⟨nb, x', cb, ys, rfl, hb, hz, hl'⟩ := hv
  refine Quo_zero na nb x x' ca cb xs ys w ha hb (by omega) (by omega) ((trimmed_zero_iff (by decide) hb.words).2 ?_)
  have := val_nonneg (B := 4294967296) (by decide) hb.words
  cases nb <;> simp [num] at hz <;> omega
/-- Cut: the first n words; two new blocks. -/
theorem Cut_exact (n : Bool) (x : Option Addr) (ca m : Nat) (xs : List Int) (w : World) (ha : Row w .u32 4294967296 x ca xs) (hm : m ≤ 1000) :
    Calls Tryz.prog 28 #[.agg #[.bool n, .slice x xs.length ca], .int .i64 m] w fun e w' => e = .returned (.agg #[.bool n, .slice x (xs.take m).length ca]) ∧ ∃ o1 o2, w' = (w.alloc o1).alloc o2 := by
  have hle := ha.le
  have hmx := ha.max
  unfold maxLen at hmx
  rw [List.length_take]
  by_cases h : m < xs.length
  · rw [Nat.min_eq_left (by omega)]
    obtain ⟨x, rfl⟩ := ha.some_of (i := m) h
    go_enter Tryz.func28, Tryz.ntmps28
    go_wp2
    exact bodyPost_ret (v := .agg #[.bool n, .slice (some x) m ca]) (by simp [results, Tryz.results28, go_sem]) rfl ⟨rfl, _, _, rfl⟩
  · rw [Nat.min_eq_right (by omega)]
    go_enter Tryz.func28, Tryz.ntmps28
    go_wp2
    exact bodyPost_ret (v := .agg #[.bool n, .slice x xs.length ca]) (by simp [results, Tryz.results28, go_sem]) rfl ⟨rfl, _, _, rfl⟩
theorem Row.take' {w : World} {k : IntKind} {B : Int} {a : Option Addr} {cap : Nat} {zs : List Int} (h : Row w k B a cap zs) (n : Nat) : Row w k B a cap (zs.take n) := by
  by_cases hn : n ≤ zs.length
  · exact h.take n hn
  · rw [List.take_of_length_le (by omega)]; exact h
theorem Out.zero {w : World} {b : Nat} {v : Value} {n : Nat} (h : Out w b v 0 n) : ∃ a cap, v = .agg #[.bool false, .slice a 0 cap] := by
  obtain ⟨neg, a, cap, ds, rfl, ho, hn, hz, _⟩ := h
  have hu := norm_unique (B := 4294967296) (by decide) ho.words (Words.nil _) hn (n := false) ⟨trivial, fun h => by cases h⟩ (by rw [hz]; rfl)
  obtain ⟨rfl, rfl⟩ := hu
  exact ⟨a, cap, rfl⟩
theorem Num.more {w : World} {v : Value} {z : Int} {n m : Nat} (h : n ≤ m) (hn : Num w v z n) : Num w v z m := by
  obtain ⟨neg, a, cap, ds, r1, r2, r3, r4⟩ := hn
  exact ⟨neg, a, cap, ds, r1, r2, r3, by omega⟩
theorem Own.lt {w : World} {base : Nat} {k : IntKind} {T : TypeId} {B : Int} {a : Option Addr} {cap : Nat} {zs : List Int} (h : Own w base k T B a cap zs) (g : Nat) (hg : ownB a = Option.some g) : base ≤ g ∧ g < w.heap.size := by
  obtain ⟨_, ⟨rfl, _⟩ | ⟨g2, rfl, hb2, hb⟩⟩ := h
  · cases hg
  · simp [ownB] at hg; subst hg; exact ⟨hb2, hb.lt⟩
theorem OutE.num {w : World} {v : Value} {z : Int} {n : Nat} (h : OutE w v z n) : Num w v z n := by
  obtain ⟨b, h⟩ := h
  exact h.num
theorem OutE.more {w : World} {v : Value} {z : Int} {n m : Nat} (h : OutE w v z n) (hm : n ≤ m) : OutE w v z m := by
  obtain ⟨b, neg, a, cap, ds, r1, r2, r3, r4, r5⟩ := h
  exact ⟨b, neg, a, cap, ds, r1, r2, r3, r4, by omega⟩
end Go.Proofs.YthiiglhecajhbaaGreat
