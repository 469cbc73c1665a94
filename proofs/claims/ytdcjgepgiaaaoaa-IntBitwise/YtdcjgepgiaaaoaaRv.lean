/- Quo of both roads, over values that read as numbers. -/
import Derived.Test.YtdcjgepgiaaaoaaRu
namespace Go.Proofs.Ytdcjgepgiaaaoaa
open Go.RowKit
theorem rQuo_num {w : World} {u v : Value} {y z : Int} {m n : Nat} (hu : Rint w u y m) (hv : Rint w v z n) (hm : m ≤ 1000) (hn : n ≤ 1000) (hz : z ≠ 0) :
    Calls Try.prog 26 #[u, v] w fun e w' => ∃ t t', e = .returned (.tuple #[t, t']) ∧ Rint w' t (y.tdiv z) (m + 1) ∧ Rint w' t' (y.tmod z) (m + 1) ∧ Below w.heap.size w w' := by
  obtain ⟨na, x, ca, xs, rfl, ha, hna, rfl, hl⟩ := hu
  obtain ⟨nb, x', cb, ys, rfl, hb, hnb, rfl, hl'⟩ := hv
  refine (rQuo_any na nb x x' ca cb xs ys w ha hna hb hnb (by omega) (by omega) (fun e => hz (by subst e; cases nb <;> simp [num, val]))).mono ?_
  rintro e w' ⟨t, t', rfl, h1, h2, h⟩
  exact ⟨t, t', rfl, h1.mono (by omega), h2.mono (by omega), h⟩
theorem Quo_num {w : World} {u v : Value} {y z : Int} {m n : Nat} (hu : Num w u y m) (hv : Num w v z n) (hm : m ≤ 100000) (hn : n ≤ 100000) (hz : z ≠ 0) :
    Calls Try.prog 25 #[u, v] w fun e w' => ∃ t t', e = .returned (.tuple #[t, t', .bool true]) ∧ Out w' w.heap.size t (y.tdiv z) (m + 1) ∧ Out w' w.heap.size t' (y.tmod z) (m + n) ∧ Below w.heap.size w w' := by
  obtain ⟨na, x, ca, xs, rfl, ha, rfl, hl⟩ := hu
  obtain ⟨nb, x', cb, ys, rfl, hb, rfl, hl'⟩ := hv
  have hne : trimmed ys ≠ [] := by
    intro e
    have h0 := (trimmed_zero_iff (by decide) hb.words).1 e
    apply hz
    cases nb <;> simp [num, h0]
  have hpos := List.length_pos_iff.2 hne
  have l1 := trimmed_le xs
  refine (Quo_any na nb x x' ca cb xs ys w ha hb (by omega) (by omega) hne (fun h hv => long_said (trimmed_nrm xs) (trimmed_nrm ys) ha.words.trimmed hb.words.trimmed (by omega) (by omega) (by rw [trimmed_val, trimmed_val]; exact hv))).mono ?_
  rintro e w' ⟨t, t', rfl, ⟨neg, a, cap, ds, r1, r2, r3, r4, r5⟩, ⟨neg', a', cap', ds', s1, s2, s3, s4, s5⟩, h⟩
  exact ⟨t, t', rfl, ⟨neg, a, cap, ds, r1, r2, r3, r4, by omega⟩, ⟨neg', a', cap', ds', s1, s2, s3, s4, by omega⟩, h⟩
theorem Quo_none {w : World} {u v : Value} {y : Int} {m n : Nat} (hu : Num w u y m) (hv : Num w v 0 n) (hm : m ≤ 100000) (hn : n ≤ 100000) :
    Calls Try.prog 25 #[u, v] w fun e w' => e = .returned (.tuple #[.agg #[.bool false, .slice none 0 0], .agg #[.bool false, .slice none 0 0], .bool false]) ∧ Below w.heap.size w w' := by
  obtain ⟨na, x, ca, xs, rfl, ha, rfl, hl⟩ := hu
  obtain ⟨nb, x', cb, ys, rfl, hb, hz, hl'⟩ := hv
  refine Quo_zero na nb x x' ca cb xs ys w ha hb (by omega) (by omega) ((trimmed_zero_iff (by decide) hb.words).2 ?_)
  have := val_nonneg (B := 4294967296) (by decide) hb.words
  cases nb <;> simp [num] at hz <;> omega
/-- A number of the second road is zero just if it has no digits. -/
theorem Rint.digits {w : World} {m : Bool} {a : Option Addr} {l c : Nat} {z : Int} {n : Nat} (h : Rint w (.agg #[.bool m, .slice a l c]) z n) : l = 0 ↔ z = 0 := by
  obtain ⟨neg, a', cap, ds, hv, hr, hn, hz, _⟩ := h
  simp at hv
  obtain ⟨rfl, rfl, rfl, rfl⟩ := hv
  constructor
  · intro h0
    have e : ds = [] := List.eq_nil_of_length_eq_zero h0
    subst e
    cases m <;> simp [num, val] at hz <;> omega
  · intro h0
    by_cases e : ds = []
    · simp [e]
    · have := nrm_val_pos (B := 65536) (by decide) hr.words hn.1 e
      cases m <;> simp [num] at hz <;> omega
end Go.Proofs.Ytdcjgepgiaaaoaa
