/- The second road's division: quo of magnitudes. -/
import Derived.Test.YtdcjgepgiaaaoaaRr
import Derived.Test.YtdcjgepgiaaaoaaKr
namespace Go.Proofs.Ytdcjgepgiaaaoaa
open Go.RowKit
attribute [local go_sem ↓] Go.wp_at_zero Go.wp_at_succ
theorem guess1 {X R D T l v1 m : Int} (hR : R = T * X + l) (hl : l < X) (hD : D = v1 * X + m) (hm : 0 ≤ m) (hX : 0 < X) (hv : 0 < v1) (hT : 0 ≤ T) : R < (T / v1 + 1) * D := by
  have h1 := Int.lt_ediv_add_one_mul_self T hv
  have hq := Int.ediv_nonneg hT (Int.le_of_lt hv)
  have h2 := mul_mono_r (show T + 1 ≤ (T / v1 + 1) * v1 by omega) (Int.le_of_lt hX)
  have h3 := Int.mul_nonneg (show 0 ≤ T / v1 + 1 by omega) hm
  rw [hD, Int.mul_add, ← Int.mul_assoc, hR]
  rw [Int.add_mul, Int.one_mul] at h2
  omega
/-- The two highest digits of the one, the highest of the other. -/
theorem guess_rows {rs vs : List Int} {m : Nat} (hr : Words 65536 rs) (hv : Words 65536 vs) (lr : rs.length = m + 1 + 1) (lv : vs.length = m + 1) (hd : 0 < vs[m]?.getD 0) :
    val 65536 rs < ((rs[m + 1]?.getD 0 * 65536 + rs[m]?.getD 0) / vs[m]?.getD 0 + 1) * val 65536 vs := by
  have e1 := val_take_succ 65536 rs (m + 1)
  have e2 := val_take_succ 65536 rs m
  have f1 := val_take_succ 65536 vs m
  rw [take_all (by omega)] at e1 f1
  rw [e2] at e1
  have g1 := val_nonneg (B := 65536) (by decide) (hr.take m)
  have g2 := val_lt (B := 65536) (by decide) (hr.take m)
  rw [List.length_take, Nat.min_eq_left (by omega)] at g2
  have k1 := val_nonneg (B := 65536) (by decide) (hv.take m)
  have a1 := hr.at (by decide) (m + 1)
  have a2 := hr.at (by decide) m
  refine guess1 (X := 65536 ^ m) (l := val 65536 (rs.take m)) (m := val 65536 (vs.take m)) ?_ g2 (by omega) k1 (pow_pos' (by decide) m) hd (by omega)
  rw [e1, Int.pow_succ]
  exact tops_ring2 _ _ _ _ _
theorem tail_part' {B : Int} (hB : 0 < B) {zs : List Int} {o n : Nat} (hw : Words B zs) (hs : val B (zs.drop o) < B ^ (n + 1)) (ho : o + n + 1 ≤ zs.length) : val B ((zs.drop o).take (n + 1)) = val B (zs.drop o) ∧ val B (zs.drop (o + (n + 1))) = 0 := by
  have e := val_take_small hB (hw.drop o) hs
  refine ⟨e, ?_⟩
  have e2 := val_split B (zs.drop o) (n + 1) (by rw [List.length_drop]; omega)
  rw [List.drop_drop] at e2
  have hp := pow_pos' hB (n + 1)
  have h0 : B ^ (n + 1) * val B (zs.drop (o + (n + 1))) = 0 := by omega
  rcases Int.mul_eq_zero.1 h0 with h | h
  · omega
  · exact h
theorem patched_val {B : Int} {zs ws : List Int} {k n : Nat} (hk : k ≤ zs.length) (hl : ws.length = n + 1) (h0 : val B (zs.drop (k + (n + 1))) = 0) : val B ((patched zs k ws).drop k) = val B ws := by
  rw [patched_drop hk, val_append, hl, h0]
  simp
/-- The scale: the divisor's highest digit comes to at least half the base. -/
theorem scale_has {p : Int} (h0 : 0 < p) (h1 : p < 65536) : 0 < 65536 / (p + 1) ∧ 65536 / (p + 1) < 65536 ∧ 65536 / (p + 1) * (p + 1) ≤ 65536 := by
  have h2 : 1 ≤ 65536 / (p + 1) := Int.le_ediv_of_mul_le (by omega) (by omega)
  have h3 : 65536 / (p + 1) < 65536 := Int.ediv_lt_of_lt_mul (by omega) (by omega)
  have h4 := Int.ediv_mul_le (65536 : Int) (show p + 1 ≠ 0 by omega)
  exact ⟨by omega, h3, h4⟩
theorem scaled_len {ys ss : List Int} {m : Nat} {s : Int} (hy : Words 65536 ys) (hs : Words 65536 ss) (ny : nrm ys) (ly : ys.length = m + 1) (s0 : 0 < s) (hsc : s * (ys[m]?.getD 0 + 1) ≤ 65536) (hv : val 65536 ss = val 65536 ys * s) : (trimmed ss).length = m + 1 := by
  have e1 := val_take_succ 65536 ys m
  rw [take_all (by omega)] at e1
  have g2 := val_lt (B := 65536) (by decide) (hy.take m)
  rw [List.length_take, Nat.min_eq_left (by omega)] at g2
  have hp := pow_pos' (B := 65536) (by decide) m
  have hlow := nrm_pos (B := 65536) (by decide) hy ny (by intro e; rw [e] at ly; simp at ly)
  rw [ly, Nat.add_sub_cancel] at hlow
  have h1 : val 65536 ys + 1 ≤ (ys[m]?.getD 0 + 1) * 65536 ^ m := by rw [Int.add_mul]; omega
  have h2 := mul_mono_r h1 (Int.le_of_lt s0)
  have h3 := mul_mono_r hsc (Int.le_of_lt hp)
  have h4 : (ys[m]?.getD 0 + 1) * 65536 ^ m * s = s * (ys[m]?.getD 0 + 1) * 65536 ^ m := by rw [Int.mul_comm, ← Int.mul_assoc]
  rw [h4, Int.add_mul] at h2
  have hup : val 65536 (trimmed ss) < 65536 ^ (m + 1) := by rw [trimmed_val, hv, Int.pow_succ]; omega
  have hdn : (65536 : Int) ^ m ≤ val 65536 (trimmed ss) := by
    rw [trimmed_val, hv]
    have := mul_mono_l (show 1 ≤ s by omega) (val_nonneg (B := 65536) (by decide) hy)
    omega
  have l1 := nrm_len (by decide) hs.trimmed (trimmed_nrm ss) hup
  by_cases hh : (trimmed ss).length = m + 1
  · exact hh
  · have l2 := val_lt (B := 65536) (by decide) hs.trimmed
    have := pow_mono (B := 65536) (by decide) (m := (trimmed ss).length) (n := m) (by omega)
    omega
/-- The highest digits of what is divided are below the divisor. -/
theorem rquo_start {us ys : List Int} {V D s : Int} {m la : Nat} (hu : Words 65536 us) (hy : Words 65536 ys) (ny : nrm ys) (ly : ys.length = m + 1) (lu : us.length = la + 1) (hla : m + 1 ≤ la) (s0 : 0 < s) (hV1 : V < 65536 ^ la) (hv : val 65536 us = V * s) (hD : D = val 65536 ys * s) : val 65536 (us.drop (la - (m + 1) + 1)) < D := by
  have e := val_split 65536 us (la - (m + 1) + 1) (by omega)
  have h0 := val_nonneg (B := 65536) (by decide) (hu.take (la - (m + 1) + 1))
  have hlow := nrm_pos (B := 65536) (by decide) hy ny (by intro e; rw [e] at ly; simp at ly)
  rw [ly, Nat.add_sub_cancel] at hlow
  have hp := pow_pos' (B := 65536) (by decide) m
  have hq := pow_pos' (B := 65536) (by decide) (la - (m + 1) + 1)
  have h3 := Int.mul_lt_mul_of_pos_right hV1 s0
  have h4 : (65536 : Int) ^ la = 65536 ^ (la - (m + 1) + 1) * 65536 ^ m := by rw [← Int.pow_add]; congr 1; omega
  have h6 := mul_mono_r hlow (Int.le_of_lt s0)
  by_cases hh : val 65536 (us.drop (la - (m + 1) + 1)) < D
  · exact hh
  · exfalso
    have h5 := mul_mono_l (show 65536 ^ m * s ≤ val 65536 (us.drop (la - (m + 1) + 1)) by omega) (Int.le_of_lt hq)
    rw [h4, Int.mul_assoc] at h3
    omega
theorem exact_div {S s q r : Int} (hs : 0 < s) (h : S = s * q + r) (h0 : 0 ≤ r) (h1 : r < s) : q = S / s := by
  rw [h, Int.add_comm, Int.add_mul_ediv_left _ _ (by omega), Int.ediv_eq_zero_of_lt h0 h1]
  omega
/-- What the second road's quo answers. -/
def RquoOut (w w' : World) (e : Ending) (x : Option Addr) (xs ys : List Int) : Prop :=
  ∃ qa qc qs ra rc rs, e = .returned (.tuple #[.slice qa qs.length qc, .slice ra rs.length rc]) ∧ Rown w' w.heap.size qa qc qs ∧ nrm qs ∧ Row w' .i64 65536 ra rc rs ∧ nrm rs ∧ (ra = x ∧ rs = xs ∨ ∀ z, ra = some z → w.heap.size ≤ z.block) ∧ val 65536 xs = val 65536 ys * val 65536 qs + val 65536 rs ∧ 0 ≤ val 65536 rs ∧ val 65536 rs < val 65536 ys ∧ qs.length ≤ xs.length + 1 ∧ rs.length ≤ xs.length + 1
set_option maxHeartbeats 1000000 in
theorem rquo_one (x y : Option Addr) (ca cb : Nat) (xs ys : List Int) (w : World) (ha : Row w .i64 65536 x ca xs) (hb : Row w .i64 65536 y cb ys) (hl : xs.length ≤ 900000) (ny : nrm ys) (hy : ys.length = 1) :
    Calls Try.prog 55 #[.slice x xs.length ca, .slice y ys.length cb] w fun e w' => RquoOut w w' e x xs ys ∧ Below w.heap.size w w' := by
  obtain ⟨d, rfl⟩ : ∃ d, ys = [d] := by
    cases ys with
    | nil => simp at hy
    | cons d ds => cases ds with
      | nil => exact ⟨d, rfl⟩
      | cons _ _ => simp at hy
  clear hy
  have hd : d ≠ 0 := ny.1 rfl
  have hdw := hb.words.head
  obtain ⟨y, rfl⟩ := hb.some_of (i := 0) (by simp)
  have hcell : w.cell? y = some (.int .i64 d) := by have := hb.cell y rfl 0 (by simp); simpa [Addr.add] using this
  have ks := small_any x ca xs d w ha (by omega) (by omega) (by omega)
  replace ks : Hid _ := ks
  go_enter Try.func55, Try.ntmps55
  go_wp2_with (first | (go_at_call 66; refine Calls.mono ks.out ?_; rintro e w1 ⟨qa, qc, qs, r, rfl, hqo, hqn, hqv, hr0, hr1, hql, hb1⟩; replace hqv : Hid _ := hqv) | fail)
  have hrow := Row.alloc1 w1 .i64 3 65536 r (by omega)
  have htr := rtrim_any _ _ [r] _ hrow
  replace htr : Hid _ := htr
  have hal : Below w1.heap.size w1 (w1.alloc (.cells #[.int .i64 r] 3)) := (Below.refl _ _).alloc (Nat.le_refl _) _
  refine Calls.mono htr.out ?_
  rintro e w2 ⟨rfl, rfl⟩
  go_wp2
  go_ret2
  refine ⟨⟨qa, qc, qs, _, _, trimmed [r], rfl, hqo.next hal, hqn, hrow.cutTrim, trimmed_nrm _, .inr ?_, ?_, ?_, ?_, by omega, ?_⟩, bthen hb1 hal⟩
  · intro z hz; cases hz; exact hb1.size
  · rw [trimmed_val]; simp [val]; rw [hqv.out]
  · rw [trimmed_val]; simp [val]; omega
  · rw [trimmed_val]; simp [val]; omega
  · have := trimmed_le [r]; simp at this; omega
set_option maxHeartbeats 1000000 in
theorem rquo_less (x y : Option Addr) (ca cb : Nat) (xs ys : List Int) (w : World) (ha : Row w .i64 65536 x ca xs) (hb : Row w .i64 65536 y cb ys) (hl : xs.length ≤ 900000) (hlb : ys.length ≤ 900000) (nx : nrm xs) (ny : nrm ys) (hy : ys.length ≠ 1) (hv : val 65536 xs < val 65536 ys) :
    Calls Try.prog 55 #[.slice x xs.length ca, .slice y ys.length cb] w fun e w' => RquoOut w w' e x xs ys ∧ Below w.heap.size w w' := by
  have hy1 : ((ys.length : Int) == 1) = false := by simp; omega
  have kc := rcmp_any x y ca cb xs ys w ha hb (by omega) (by omega) nx ny
  rw [cmpI_lt hv] at kc
  replace kc : Hid _ := kc
  replace hv : Hid _ := hv
  go_enter Try.func55, Try.ntmps55
  go_wp2_with fail
  refine Calls.mono kc.out ?_
  rintro e w1 ⟨rfl, hb1⟩
  go_wp2
  go_ret2
  exact ⟨⟨none, 0, [], x, ca, xs, rfl, Rown.empty _ _, trivial, ha.next hb1, nx, .inl ⟨rfl, rfl⟩, by simp [val], val_nonneg (by decide) ha.words, hv.out, by simp, by omega⟩, hb1⟩
end Go.Proofs.Ytdcjgepgiaaaoaa
