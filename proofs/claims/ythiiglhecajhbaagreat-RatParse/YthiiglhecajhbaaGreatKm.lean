/- Plain mathematics of long division: the guess of a word, rows shifted by bits, rows less a multiple. -/
import Derived.Test.YthiiglhecajhbaaGreatMath
namespace Go.Proofs.YthiiglhecajhbaaGreat
theorem mul_mono_l {a b c : Int} (h : a ≤ b) (hc : 0 ≤ c) : c * a ≤ c * b := Int.mul_le_mul_of_nonneg_left h hc
theorem mul_mono_r {a b c : Int} (h : a ≤ b) (hc : 0 ≤ c) : a * c ≤ b * c := Int.mul_le_mul_of_nonneg_right h hc
/-- The three highest words of the one, the two highest of the other; X is the weight of the rest. -/
structure Tops (B X R D T r0 d1 d0 : Int) : Prop where
  hB : 1 < B
  hX : 0 < X
  hR : ∃ l, 0 ≤ l ∧ l < X ∧ R = (T * B + r0) * X + l
  hD : ∃ m, 0 ≤ m ∧ m < X ∧ D = (d1 * B + d0) * X + m
  r0 : 0 ≤ r0 ∧ r0 < B
  d0 : 0 ≤ d0 ∧ d0 < B
  d1 : 0 < d1
section
variable {B X R D T r0 d1 d0 g left : Int}
theorem Tops.big (h : Tops B X R D T r0 d1 d0) (hg : 0 ≤ g) (hh : T * B + r0 + 1 ≤ g * (d1 * B + d0)) : R < g * D := by
  obtain ⟨l, _, hl1, rfl⟩ := h.hR
  obtain ⟨m, hm0, hm1, rfl⟩ := h.hD
  have h1 := mul_mono_r hh (Int.le_of_lt h.hX)
  have h2 := Int.mul_nonneg hg hm0
  rw [Int.add_mul, Int.one_mul] at h1
  rw [Int.mul_add, ← Int.mul_assoc]
  omega
theorem Tops.small (h : Tops B X R D T r0 d1 d0) (_hg : 0 ≤ g) (hgB : g < B) (hh : g * (d1 * B + d0) ≤ T * B + r0) : g * D < R + D := by
  obtain ⟨l, hl0, _, rfl⟩ := h.hR
  obtain ⟨m, hm0, hm1, rfl⟩ := h.hD
  have hB := h.hB
  have hX := h.hX
  have h1 := mul_mono_r hh (Int.le_of_lt h.hX)
  have h2 : g * m ≤ B * m := mul_mono_r (by omega) hm0
  have h3 : B * m < B * X := Int.mul_lt_mul_of_pos_left hm1 (by omega)
  have h4 : B * X ≤ (d1 * B + d0) * X := mul_mono_r (by
    have := h.d1
    have := h.d0
    have := mul_mono_r (show (1 : Int) ≤ d1 by omega) (show (0 : Int) ≤ B by omega)
    omega) (by omega)
  rw [Int.mul_add, ← Int.mul_assoc]
  omega
/-- Where the guess begins. -/
theorem Tops.start (h : Tops B X R D T r0 d1 d0) (hT : 0 ≤ T) : R < (T / d1 + 1) * D := by
  have hq := Int.ediv_nonneg hT (Int.le_of_lt h.d1)
  refine h.big (by omega) ?_
  have h1 := Int.lt_ediv_add_one_mul_self T h.d1
  have h2 := mul_mono_r (show T + 1 ≤ (T / d1 + 1) * d1 by omega) (show (0 : Int) ≤ B by have := h.hB; omega)
  have h3 := Int.mul_nonneg (show 0 ≤ T / d1 + 1 by omega) h.d0.1
  have := h.r0
  rw [Int.mul_add, ← Int.mul_assoc]
  rw [Int.add_mul, Int.one_mul] at h2
  omega
theorem Tops.down (h : Tops B X R D T r0 d1 d0) (hg : 0 ≤ g) (he : g * d1 + left = T) (hc : left * B + r0 < g * d0) : R < g * D := by
  refine h.big hg ?_
  subst he
  rw [Int.mul_add, Int.add_mul, ← Int.mul_assoc]
  omega
theorem Tops.stop (h : Tops B X R D T r0 d1 d0) (hg : 0 ≤ g) (hgB : g < B) (he : g * d1 + left = T) (hc : g * d0 ≤ left * B + r0) : g * D < R + D := by
  refine h.small hg hgB ?_
  subst he
  rw [Int.mul_add, Int.add_mul, ← Int.mul_assoc]
  omega
/-- The highest word is not above the divisor's. -/
theorem Tops.high (h : Tops B X R D T r0 d1 d0) {r2 r1 : Int} (hT : T = r2 * B + r1) (h1 : 0 ≤ r1) (hR : R < D * B) : r2 ≤ d1 := by
  by_cases hc : r2 ≤ d1
  · exact hc
  · exfalso
    obtain ⟨l, hl0, _, rfl⟩ := h.hR
    obtain ⟨m, hm0, hm1, rfl⟩ := h.hD
    have hB := h.hB
    have hX := h.hX
    have e1 : (d1 * B + d0 + 1) * X ≤ ((d1 + 1) * B) * X := mul_mono_r (by have := h.d0; rw [Int.add_mul]; omega) (by omega)
    have e2 : ((d1 * B + d0) * X + m) * B ≤ (((d1 + 1) * B) * X) * B := mul_mono_r (by rw [Int.add_mul (d1 * B + d0) 1 X] at e1; omega) (by omega)
    have e3 : (d1 + 1) * B ≤ T := by
      have := mul_mono_r (show d1 + 1 ≤ r2 by omega) (show (0 : Int) ≤ B by omega)
      omega
    have e4 : ((d1 + 1) * B) * B ≤ T * B := mul_mono_r e3 (by omega)
    have e5 : (((d1 + 1) * B) * B) * X ≤ (T * B + r0) * X := mul_mono_r (by have := h.r0; omega) (by omega)
    have e6 : (((d1 + 1) * B) * X) * B = (((d1 + 1) * B) * B) * X := by rw [Int.mul_assoc, Int.mul_comm X B, ← Int.mul_assoc]
    omega
end
theorem at_out {zs : List Int} {k : Nat} (h : ¬ k < zs.length) : zs[k]?.getD 0 = 0 := by rw [List.getElem?_eq_none (by omega)]; rfl
theorem tops_ring3 (V r0 r1 r2 X B : Int) : V + r0 * X + r1 * (X * B) + r2 * (X * B * B) = ((r2 * B + r1) * B + r0) * X + V := by
  have h1 : r1 * (X * B) = r1 * B * X := by rw [Int.mul_comm X B, ← Int.mul_assoc]
  have h2 : r2 * (X * B * B) = r2 * B * B * X := by rw [Int.mul_comm X B, Int.mul_assoc B X B, Int.mul_comm X B, ← Int.mul_assoc, ← Int.mul_assoc]
  rw [Int.add_mul, Int.add_mul, Int.add_mul, h1, h2]
  omega
theorem tops_ring2 (V r0 r1 X B : Int) : V + r0 * X + r1 * (X * B) = (r1 * B + r0) * X + V := by
  have h1 : r1 * (X * B) = r1 * B * X := by rw [Int.mul_comm X B, ← Int.mul_assoc]
  rw [Int.add_mul, h1]
  omega
/-- The highest words of two rows, the one a word longer. -/
theorem tops_of {rs ys : List Int} {m : Nat} (hr : Words 4294967296 rs) (hy : Words 4294967296 ys) (lr : rs.length = m + 2 + 1) (ly : ys.length = m + 2) (hd : 0 < ys[m + 1]?.getD 0) :
    Tops 4294967296 (4294967296 ^ m) (val 4294967296 rs) (val 4294967296 ys) (rs[m + 2]?.getD 0 * 4294967296 + rs[m + 1]?.getD 0) (rs[m]?.getD 0) (ys[m + 1]?.getD 0) (ys[m]?.getD 0) := by
  have e1 := val_take_succ 4294967296 rs (m + 2)
  have e2 := val_take_succ 4294967296 rs (m + 1)
  have e3 := val_take_succ 4294967296 rs m
  have f2 := val_take_succ 4294967296 ys (m + 1)
  have f3 := val_take_succ 4294967296 ys m
  rw [take_all (by omega)] at e1
  rw [take_all (n := m + 1 + 1) (by omega)] at f2
  rw [show m + 2 = m + 1 + 1 from rfl, e2, e3] at e1
  rw [f3] at f2
  have g1 := val_nonneg (B := 4294967296) (by decide) (hr.take m)
  have g2 := val_lt (B := 4294967296) (by decide) (hr.take m)
  rw [List.length_take, Nat.min_eq_left (by omega)] at g2
  have k1 := val_nonneg (B := 4294967296) (by decide) (hy.take m)
  have k2 := val_lt (B := 4294967296) (by decide) (hy.take m)
  rw [List.length_take, Nat.min_eq_left (by omega)] at k2
  refine ⟨by decide, pow_pos' (by decide) m, ⟨_, g1, g2, ?_⟩, ⟨_, k1, k2, ?_⟩, hr.at (by decide) m, hy.at (by decide) m, hd⟩
  · rw [e1, Int.pow_succ, Int.pow_succ]
    exact tops_ring3 _ _ _ _ _ _
  · rw [f2, Int.pow_succ]
    exact tops_ring2 _ _ _ _ _
/-- One step of a row less another row times a digit. -/
theorem subsc_step {B : Int} {ys zs ss : List Int} {k : Nat} {s c b c' b' y z d : Int} (hs : k < ss.length) (hy : ys[k]?.getD 0 = y) (hz : zs[k]?.getD 0 = z) (hd : d = z - (y * s + c) % B - b + B * b') (hc : c' = (y * s + c) / B)
    (h : val B (ss.take k) - (c + b) * B ^ k = val B (zs.take k) - s * val B (ys.take k)) :
    val B ((ss.set k d).take (k + 1)) - (c' + b') * B ^ (k + 1) = val B (zs.take (k + 1)) - s * val B (ys.take (k + 1)) := by
  rw [val_set_take B ss k _ hs, val_take_succ B zs, val_take_succ B ys, hy, hz, Int.pow_succ, hd, hc]
  have h1 := Int.emod_add_mul_ediv (y * s + c) B
  generalize (y * s + c) / B = q at *
  generalize (y * s + c) % B = r at *
  have h3 : (q + b') * (B ^ k * B) = (B * q + B * b') * B ^ k := by
    rw [← Int.mul_add B, Int.mul_comm (B ^ k) B, ← Int.mul_assoc, Int.mul_comm (q + b') B]
  have h4 : s * (val B (ys.take k) + y * B ^ k) = s * val B (ys.take k) + (y * s) * B ^ k := by rw [Int.mul_add, ← Int.mul_assoc, Int.mul_comm y s]
  rw [h3, h4]
  have h5 : (z - r - b + B * b') * B ^ k - (B * q + B * b') * B ^ k = (z - b) * B ^ k - (r + B * q) * B ^ k := by
    rw [← Int.sub_mul, ← Int.sub_mul]
    congr 1
    omega
  rw [h1] at h5
  simp only [Int.add_mul, Int.sub_mul] at h5 h ⊢
  omega
/-- A row whose number is below B^n has noughts from place n on. -/
theorem val_take_small {B : Int} (hB : 0 < B) {zs : List Int} (hw : Words B zs) {n : Nat} (h : val B zs < B ^ n) : val B (zs.take n) = val B zs := by
  by_cases hn : n ≤ zs.length
  · have e := val_split B zs n hn
    have h1 := val_nonneg hB (hw.take n)
    have h2 := val_nonneg hB (hw.drop n)
    have hp := pow_pos' hB n
    have h3 : val B (zs.drop n) = 0 := by
      by_cases h0 : val B (zs.drop n) = 0
      · exact h0
      · have := mul_mono_l (show 1 ≤ val B (zs.drop n) by omega) (Int.le_of_lt hp)
        omega
    rw [h3] at e
    simp at e
    omega
  · rw [List.take_of_length_le (by omega)]
theorem drop_set {zs : List Int} {o k : Nat} {x : Int} : (zs.set (o + k) x).drop o = (zs.drop o).set k x := by
  induction o generalizing zs with
  | zero => simp
  | succ o ih =>
    cases zs with
    | nil => simp
    | cons d ds =>
      rw [show o + 1 + k = (o + k) + 1 from by omega]
      simpa using ih
theorem drop_at (zs : List Int) (o k : Nat) : (zs.drop o)[k]?.getD 0 = zs[o + k]?.getD 0 := by rw [List.getElem?_drop]
/-- One step of a row times 2^c. -/
theorem shl_step {B : Int} {xs ss : List Int} {k : Nat} {f c p : Int} (hs : k < ss.length) (hx : xs[k]?.getD 0 = p) (h : val B (ss.take k) + c * B ^ k = val B (xs.take k) * f) :
    val B ((ss.set k ((p * f + c) % B)).take (k + 1)) + ((p * f + c) / B) * B ^ (k + 1) = val B (xs.take (k + 1)) * f := by
  rw [val_set_take B ss k _ hs, val_take_succ B xs, hx, Int.pow_succ]
  have h1 := Int.emod_add_mul_ediv (p * f + c) B
  have h2 : ((p * f + c) % B + B * ((p * f + c) / B)) * B ^ k = (p * f + c) * B ^ k := by rw [h1]
  have h3 : (p * f + c) / B * (B ^ k * B) = B * ((p * f + c) / B) * B ^ k := by rw [Int.mul_comm B, Int.mul_assoc, Int.mul_comm B]
  have h4 : p * B ^ k * f = p * f * B ^ k := by rw [Int.mul_assoc, Int.mul_comm (B ^ k), ← Int.mul_assoc]
  simp only [Int.add_mul] at h2 ⊢
  rw [h4]
  omega
/-- One step of a row divided by 2^c, from the top: f = 2^c divides B. -/
theorem shr_step {B f e : Int} (hf : 0 < f) (he : B = f * e) (hB : 0 < B) {zs ss : List Int} {k : Nat} {z a : Int} (hs : k < ss.length) (hz : zs[k]?.getD 0 = z) (h0 : 0 ≤ z) (h1 : z < B) (ha : zs[k + 1]?.getD 0 = a)
    (h : val B (ss.drop (k + 1)) = val B (zs.drop (k + 1)) / f) : val B ((ss.set k ((a * B + z) / f % B)).drop k) = val B (zs.drop k) / f := by
  rw [val_set_drop _ _ _ _ hs, val_drop B zs k, hz, h]
  have hv : val B (zs.drop (k + 1)) = a + f * (e * val B (zs.drop (k + 1 + 1))) := by rw [val_drop B zs (k + 1), ha, ← Int.mul_assoc, ← he]
  generalize val B (zs.drop (k + 1)) = V at *
  generalize e * val B (zs.drop (k + 1 + 1)) = u at *
  have hq : V / f = a / f + u := by rw [hv, Int.add_mul_ediv_left _ _ (by omega)]
  have hr := Int.emod_add_mul_ediv a f
  have hr0 := Int.emod_nonneg a (b := f) (by omega)
  have hr1 := Int.emod_lt_of_pos a hf
  generalize a / f = a' at *
  generalize a % f = r at *
  have e1 : a * B + z = (r * B + z) + f * (a' * B) := by rw [← hr, Int.add_mul, Int.mul_assoc]; omega
  have e2 : z + B * V = (r * B + z) + f * (B * (a' + u)) := by
    have e5 : B * (r + f * a' + f * u) = B * r + B * (f * (a' + u)) := by rw [Int.mul_add f, ← Int.mul_add B, Int.add_assoc]
    have e6 : f * (B * (a' + u)) = B * (f * (a' + u)) := by rw [← Int.mul_assoc, Int.mul_comm f B, Int.mul_assoc]
    rw [hv, ← hr, e5, e6, Int.mul_comm B r]
    omega
  rw [e1, e2, Int.add_mul_ediv_left _ _ (by omega), Int.add_mul_ediv_left _ _ (by omega)]
  have e3 : 0 ≤ (r * B + z) / f := Int.ediv_nonneg (by have := Int.mul_nonneg hr0 (Int.le_of_lt hB); omega) (by omega)
  have e4 : (r * B + z) / f < B := Int.ediv_lt_of_lt_mul hf (by
    have := mul_mono_r (show r + 1 ≤ f by omega) (show (0 : Int) ≤ B by omega)
    rw [Int.add_mul] at this
    rw [Int.mul_comm B f]
    omega)
  rw [Int.add_mul_emod_self_right, Int.emod_eq_of_lt e3 e4, hq]
end Go.Proofs.YthiiglhecajhbaaGreat
