/- Numbers that a double has are written exactly. -/
import Derived.Test.YtmpefgemlpnbiaaGreatLfm
import Derived.Test.YtmpefgemlpnbiaaGreatHjm
namespace Go.Proofs.YtmpefgemlpnbiaaGreat
set_option linter.unusedVariables false
open Go.RowKit
theorem log2_mul (m k : Nat) (h : m ≠ 0) : (m * 2 ^ k).log2 = m.log2 + k := by
  have hp := Nat.two_pow_pos k
  have h0 : m * 2 ^ k ≠ 0 := Nat.mul_ne_zero h (by omega)
  rw [Nat.log2_eq_iff h0]
  have h1 := Nat.log2_self_le h
  have h2 := Nat.lt_log2_self (n := m)
  constructor
  · rw [Nat.pow_add]; exact Nat.mul_le_mul_right _ h1
  · rw [show m.log2 + k + 1 = m.log2 + 1 + k from by omega, Nat.pow_add]
    exact Nat.mul_lt_mul_of_pos_right h2 hp
theorem cut_exact (neg : Bool) (c d : Nat) (h : c ≠ 0) : Ieee.Toward.even.cut neg (c * 2 ^ d) d = c := by
  have hp := Nat.two_pow_pos d
  have hmin : min d ((c * 2 ^ d).log2 + 2) = d := by rw [log2_mul c d h]; omega
  unfold Ieee.Toward.cut
  simp only [hmin, Nat.one_shiftLeft]
  rw [Nat.mul_div_cancel _ hp, Nat.mul_mod_left]
  have e1 : decide (2 ^ d < 2 * 0) = false := by simp
  have e2 : (2 ^ d == 2 * 0) = false := by
    apply beq_false_of_ne
    omega
  rw [e1, e2]
  rfl
/-- The log of a float's count. -/
theorem dgC_log {s : Nat} (h : s ≠ 0) : max (dgU s + (dgC s).log2 - 52) (-1074) = dgU s ∧ dgC s ≠ 0 := by
  unfold dgU dgC
  by_cases hx : s / 4503599627370496 = 0
  · rw [if_pos hx, if_pos hx]
    have h0 : s % 4503599627370496 ≠ 0 := by omega
    have hl : (s % 4503599627370496).log2 < 52 := by
      rw [Nat.log2_lt h0]
      show _ < 4503599627370496
      exact Nat.mod_lt _ (by decide)
    exact ⟨by omega, h0⟩
  · rw [if_neg hx, if_neg hx]
    have h0 : 4503599627370496 + s % 4503599627370496 ≠ 0 := by omega
    have hl : (4503599627370496 + s % 4503599627370496).log2 = 52 := by
      rw [Nat.log2_eq_iff h0]
      have := Nat.mod_lt s (show 0 < 4503599627370496 by decide)
      constructor
      · show 4503599627370496 ≤ _; omega
      · show _ < 9007199254740992; omega
    exact ⟨by omega, h0⟩
theorem rung_of {s : Nat} (hs : s < 9218868437227405312) : (dgU s + 1074).toNat * 4503599627370496 + dgC s = s := by
  unfold dgU dgC
  by_cases hx : s / 4503599627370496 = 0
  · rw [if_pos hx, if_pos hx]; simp; omega
  · rw [if_neg hx, if_neg hx]
    rw [show (((s / 4503599627370496 : Nat) : Int) - 1 + -1074 + 1074).toNat = s / 4503599627370496 - 1 from by omega]
    omega
/-- mag times 2^place is the float s: one of the two equations holds. -/
theorem nearest_word {s : Nat} (h0 : s ≠ 0) (hs : s < 9218868437227405312) (neg : Bool) (mag : Nat) (place : Int)
    (h : (dgU s ≤ place ∧ mag * 2 ^ (place - dgU s).toNat = dgC s) ∨ (place ≤ dgU s ∧ mag = dgC s * 2 ^ (dgU s - place).toNat)) :
    FloatKind.f64.format.nearest neg mag place = FloatKind.f64.format.word neg s := by
  obtain ⟨hl, hc⟩ := dgC_log h0
  have hm : mag ≠ 0 := by
    rcases h with ⟨_, h⟩ | ⟨_, h⟩
    · intro e; subst e; rw [Nat.zero_mul] at h; exact hc h.symm
    · rw [h]; exact Nat.mul_ne_zero hc (by have := Nat.two_pow_pos (dgU s - place).toNat; omega)
  have e1 : place + mag.log2 = dgU s + (dgC s).log2 := by
    rcases h with ⟨h1, h⟩ | ⟨h1, h⟩
    · rw [← h, log2_mul _ _ hm]; omega
    · rw [h, log2_mul _ _ hc]; omega
  have hb : FloatKind.f64.format.binade = 4503599627370496 := by decide
  have hi : FloatKind.f64.format.infRung = 9218868437227405312 := by decide
  have hlp : FloatKind.f64.format.leastPlace = -1074 := by decide
  have hfb : FloatKind.f64.format.fractionBits = 52 := by decide
  unfold Ieee.Format.nearest
  rw [if_neg hm, hb, hi, hlp, hfb]
  have e2 : max (place + mag.log2 - ((52 : Nat) : Int)) (-1074) = dgU s := by rw [e1]; exact hl
  simp only [e2]
  have e3 : Ieee.Toward.even.cut neg (mag <<< (place - dgU s).toNat) (dgU s - place).toNat = dgC s := by
    rw [Nat.shiftLeft_eq]
    rcases h with ⟨h1, h⟩ | ⟨h1, h⟩
    · rw [h, show (dgU s - place).toNat = 0 from by omega]
      have := cut_exact neg (dgC s) 0 hc
      rw [Nat.pow_zero, Nat.mul_one] at this
      exact this
    · rw [show (place - dgU s).toNat = 0 from by omega, Nat.pow_zero, Nat.mul_one, h]
      exact cut_exact neg (dgC s) _ hc
  rw [e3, show (dgU s - -1074).toNat = (dgU s + 1074).toNat from by congr 1, rung_of hs]
  congr 1
  omega
theorem word_pos (s : Nat) : FloatKind.f64.format.word false s = s := by
  unfold Ieee.Format.word
  simp
/-- A whole number up to 2^53 as a float. -/
def encI (n : Nat) : Nat := if n = 0 then 0 else (n.log2 + 1023) * 4503599627370496 + (n * 2 ^ 52 / 2 ^ n.log2 - 4503599627370496)
theorem encI_dg {n : Nat} (h0 : n ≠ 0) (hn : n ≤ 9007199254740992) : n.log2 ≤ 53 ∧ dgC (encI n) * 2 ^ n.log2 = n * 2 ^ 52 ∧ dgU (encI n) = (n.log2 : Int) - 52 ∧ encI n ≠ 0 ∧ encI n < 9218868437227405312 := by
  have hl : n.log2 < 54 := by rw [Nat.log2_lt h0]; show n < 18014398509481984; omega
  have h1 := Nat.log2_self_le h0
  have h2 := Nat.lt_log2_self (n := n)
  have hp := Nat.two_pow_pos n.log2
  have hex : n * 2 ^ 52 / 2 ^ n.log2 * 2 ^ n.log2 = n * 2 ^ 52 := by
    apply Nat.div_mul_cancel
    by_cases h3 : n.log2 ≤ 52
    · exact Nat.dvd_trans (Nat.pow_dvd_pow 2 h3) (Nat.dvd_mul_left _ _)
    · have e : n.log2 = 53 := by omega
      rw [e] at h1
      have : n = 2 ^ 53 := by
        have : 9007199254740992 ≤ n := h1
        show n = 9007199254740992
        omega
      rw [this, ← Nat.pow_add]
      exact Nat.pow_dvd_pow 2 (by rw [Nat.log2_two_pow]; decide)
  have b1 : 4503599627370496 ≤ n * 2 ^ 52 / 2 ^ n.log2 := by
    rw [Nat.le_div_iff_mul_le hp, Nat.mul_comm]
    exact Nat.mul_le_mul_right (2 ^ 52) h1
  have b2 : n * 2 ^ 52 / 2 ^ n.log2 < 9007199254740992 := by
    rw [Nat.div_lt_iff_lt_mul hp]
    have := Nat.mul_lt_mul_of_pos_right h2 (Nat.two_pow_pos 52)
    rw [show 2 ^ (n.log2 + 1) = 2 ^ n.log2 * 2 from Nat.pow_succ _ _] at this
    have e9 : 2 ^ n.log2 * 2 * 2 ^ 52 = 9007199254740992 * 2 ^ n.log2 := by rw [Nat.mul_assoc, Nat.mul_comm]
    rw [e9] at this
    exact this
  obtain ⟨c, hc⟩ : ∃ c, c = n * 2 ^ 52 / 2 ^ n.log2 := ⟨_, rfl⟩
  unfold encI dgC dgU
  rw [if_neg h0, ← hc]
  rw [← hc] at hex b1 b2
  clear hc
  have e1 : ((n.log2 + 1023) * 4503599627370496 + (c - 4503599627370496)) / 4503599627370496 = n.log2 + 1023 := by omega
  have e2 : ((n.log2 + 1023) * 4503599627370496 + (c - 4503599627370496)) % 4503599627370496 = c - 4503599627370496 := by omega
  rw [e1, e2, if_neg (by omega), if_neg (by omega), show 4503599627370496 + (c - 4503599627370496) = c from by omega]
  exact ⟨by omega, hex, by omega, by omega, by omega⟩
theorem read_pos {s : Nat} (hs : s < 9218868437227405312) : FloatKind.f64.format.read s = .number false (dgC s) (dgU s) := by
  rw [read_double s (by omega), Nat.mod_eq_of_lt (show s < 9223372036854775808 by omega), decide_eq_false (show ¬ 9223372036854775808 ≤ s by omega)]
  unfold dgC dgU
  by_cases h : s < 4503599627370496
  · rw [if_pos h, if_pos (by omega), if_pos (by omega), Nat.mod_eq_of_lt h]
  · rw [if_neg h, if_pos hs, if_neg (by omega), if_neg (by omega)]
    congr 1
    omega
theorem enc_read {E n : Nat} (hE : E = 1200) (hn : n ≤ 9007199254740992) : ∃ C U, FloatKind.f64.format.read (encI n) = .number false C U ∧ -1074 ≤ U ∧ U ≤ 1 ∧ C * 2 ^ (U + E).toNat = n * 2 ^ E ∧ (n ≠ 0 → U = (n.log2 : Int) - 52) := by
  by_cases h0 : n = 0
  · subst h0
    refine ⟨0, -1074, ?_, by decide, by decide, by rw [Nat.zero_mul, Nat.zero_mul], fun h => absurd rfl h⟩
    rw [show encI 0 = 0 from rfl, read_pos (by decide)]
    rfl
  · obtain ⟨h1, h2, h3, h4, h5⟩ := encI_dg h0 hn
    refine ⟨dgC (encI n), dgU (encI n), read_pos h5, by omega, by omega, ?_, fun _ => h3⟩
    rw [h3, show ((n.log2 : Int) - 52 + E).toNat = n.log2 + (E - 52) from by omega, Nat.pow_add, ← Nat.mul_assoc, h2, Nat.mul_assoc, ← Nat.pow_add]
    congr 2
    omega
theorem enc_write {E n : Nat} (hE : E = 1200) (h0 : n ≠ 0) (hn : n ≤ 9007199254740992) {mag : Nat} {place : Int} (hp : -1200 ≤ place) (hle : place ≤ (n.log2 : Int) - 52) (h : mag * 2 ^ (place + E).toNat = n * 2 ^ E) : FloatKind.f64.format.nearest false mag place = encI n := by
  obtain ⟨h1, h2, h3, h4, h5⟩ := encI_dg h0 hn
  rw [nearest_word h4 h5 false mag place (.inr ⟨by omega, ?_⟩), word_pos]
  have hq := Nat.two_pow_pos (place + E).toNat
  apply Nat.eq_of_mul_eq_mul_right hq
  rw [h, Nat.mul_assoc, ← Nat.pow_add, h3]
  rw [show ((n.log2 : Int) - 52 - place).toNat + (place + E).toNat = n.log2 + (E - 52) from by omega, Nat.pow_add, ← Nat.mul_assoc, h2, Nat.mul_assoc, ← Nat.pow_add]
  congr 2
  omega
theorem mul_two {n : Nat} (hn : 2 * n ≤ 9007199254740992) : FloatKind.f64.format.mul 4611686018427387904 (encI n) = some (encI (2 * n)) := by
  obtain ⟨E, hE⟩ : ∃ E : Nat, E = 1200 := ⟨_, rfl⟩
  obtain ⟨C, U, hr, u1, u2, hv, hu⟩ := enc_read hE (show n ≤ 9007199254740992 by omega)
  have e2 : FloatKind.f64.format.read 4611686018427387904 = .number false 4503599627370496 (-51) := by decide +kernel
  unfold Ieee.Format.mul
  rw [hr, e2]
  simp only [Ieee.Datum.product, Option.map_some, Ieee.Format.write, Bool.xor_self]
  congr 1
  by_cases h0 : n = 0
  · subst h0
    rw [Nat.zero_mul] at hv
    have hC : C = 0 := by
      rcases Nat.mul_eq_zero.1 hv with h | h
      · exact h
      · have := Nat.two_pow_pos (U + E).toNat; omega
    subst hC
    unfold Ieee.Format.nearest
    rw [if_pos rfl, word_pos]
    rfl
  · have hl : (2 * n).log2 = n.log2 + 1 := by
      have := log2_mul n 1 h0
      rw [Nat.pow_one, Nat.mul_comm] at this
      exact this
    have hu := hu h0
    apply enc_write hE (by omega) hn (by omega) (by rw [hl]; omega)
    have e3 : (4503599627370496 : Nat) = 2 ^ 52 := by decide
    rw [e3, Nat.mul_comm (2 ^ 52) C, Nat.mul_assoc, ← Nat.pow_add, show 52 + (-51 + U + (E : Int)).toNat = (U + E).toNat + 1 from by omega, Nat.pow_succ, ← Nat.mul_assoc, hv]
    rw [Nat.mul_comm _ 2, ← Nat.mul_assoc]
theorem add_enc {n b : Nat} (hn : n + b ≤ 9007199254740992) : FloatKind.f64.format.add (encI n) (encI b) = some (encI (n + b)) := by
  obtain ⟨E, hE⟩ : ∃ E : Nat, E = 1200 := ⟨_, rfl⟩
  obtain ⟨C, U, hr, u1, u2, hv, hu⟩ := enc_read hE (show n ≤ 9007199254740992 by omega)
  obtain ⟨D, V, hr', v1, v2, hv', hw⟩ := enc_read hE (show b ≤ 9007199254740992 by omega)
  unfold Ieee.Format.add
  rw [hr, hr']
  simp only [Ieee.Datum.sum, Option.map_some, Ieee.Format.write, Ieee.signed, Bool.false_eq_true, if_false, Bool.and_self]
  congr 1
  rw [Nat.shiftLeft_eq, Nat.shiftLeft_eq]
  have hs : ((C * 2 ^ (U - min U V).toNat : Nat) : Int) + ((D * 2 ^ (V - min U V).toNat : Nat) : Int) = ((C * 2 ^ (U - min U V).toNat + D * 2 ^ (V - min U V).toNat : Nat) : Int) := by omega
  rw [hs, Int.natAbs_natCast, decide_eq_false (by omega)]
  simp only [ite_self]
  have key : (C * 2 ^ (U - min U V).toNat + D * 2 ^ (V - min U V).toNat) * 2 ^ (min U V + E).toNat = (n + b) * 2 ^ E := by
    rw [Nat.add_mul, Nat.mul_assoc, Nat.mul_assoc, ← Nat.pow_add, ← Nat.pow_add, show (U - min U V).toNat + (min U V + E).toNat = (U + E).toNat from by omega, show (V - min U V).toNat + (min U V + E).toNat = (V + E).toNat from by omega, hv, hv', ← Nat.add_mul]
  generalize C * 2 ^ (U - min U V).toNat + D * 2 ^ (V - min U V).toNat = mag at *
  by_cases h0 : n + b = 0
  · rw [h0, Nat.zero_mul] at key
    have hC : mag = 0 := by
      rcases Nat.mul_eq_zero.1 key with h | h
      · exact h
      · have := Nat.two_pow_pos (min U V + E).toNat; omega
    rw [hC, h0]
    unfold Ieee.Format.nearest
    rw [if_pos rfl, word_pos]
    rfl
  · refine enc_write hE h0 hn (by omega) ?_ key
    have hmono : ∀ {x y : Nat}, x ≠ 0 → x ≤ y → x.log2 ≤ y.log2 := fun {x y} hx hxy => by
      rw [Nat.le_log2 (by omega)]
      exact Nat.le_trans (Nat.log2_self_le hx) hxy
    by_cases hn0 : n = 0
    · have hb0 : b ≠ 0 := by omega
      have := hw hb0
      have := hmono hb0 (show b ≤ n + b by omega)
      omega
    · have := hu hn0
      have := hmono hn0 (show n ≤ n + b by omega)
      omega
theorem int_bit (b : Nat) (h : b < 2) : floatOfInt FloatKind.f64 (b : Int) = encI b := by
  have : b = 0 ∨ b = 1 := by omega
  rcases this with rfl | rfl <;> decide +kernel
end Go.Proofs.YtmpefgemlpnbiaaGreat
namespace Go.Proofs.YtmpefgemlpnbiaaGreat
set_option linter.unusedVariables false
open Go.RowKit
theorem dgU_ge (s : Nat) : -1074 ≤ dgU s := by unfold dgU; split <;> omega
theorem order_zero {s : Nat} (h0 : s ≠ 0) (hs : s < 9218868437227405312) : FloatKind.f64.format.order s 0 = some .gt := by
  unfold Ieee.Format.order
  rw [read_pos hs, read_pos (show (0 : Nat) < 9218868437227405312 by decide)]
  obtain ⟨_, hc⟩ := dgC_log h0
  have hz : dgC 0 = 0 := rfl
  rw [hz]
  simp only [Ieee.Datum.order, Ieee.signed, Bool.false_eq_true, if_false]
  rw [Nat.zero_shiftLeft, Nat.shiftLeft_eq]
  have hp := Nat.two_pow_pos (dgU s - min (dgU s) (dgU 0)).toNat
  have hpos : 0 < dgC s * 2 ^ (dgU s - min (dgU s) (dgU 0)).toNat := Nat.mul_pos (by omega) hp
  generalize dgC s * 2 ^ (dgU s - min (dgU s) (dgU 0)).toNat = a at *
  congr 1
  simp only [compare, compareOfLessAndEq]
  rw [if_neg (by omega), if_neg (by omega)]
theorem mul_one {s : Nat} (h0 : s ≠ 0) (hs : s < 9218868437227405312) : FloatKind.f64.format.mul 4607182418800017408 s = some s := by
  have e2 : FloatKind.f64.format.read 4607182418800017408 = .number false 4503599627370496 (-52) := by decide +kernel
  unfold Ieee.Format.mul
  rw [read_pos hs, e2]
  simp only [Ieee.Datum.product, Option.map_some, Ieee.Format.write, Bool.xor_self]
  congr 1
  rw [nearest_word h0 hs false _ _ (.inr ⟨by omega, ?_⟩), word_pos]
  rw [show (dgU s - (-52 + dgU s)).toNat = 52 from by omega, Nat.mul_comm]
/-- y lies 53 exponents above z; its count may have more digits than z's. -/
theorem mul_tiny {y z : Nat} (h0 : z ≠ 0) (hz : z < 9218868437227405312) (hy : y < 9218868437227405312) (hp : dgU y ≤ dgU z + 53) (h : dgC y = dgC z * 2 ^ (dgU z + 53 - dgU y).toNat) : FloatKind.f64.format.mul 4368491638549381120 y = some z := by
  have e2 : FloatKind.f64.format.read 4368491638549381120 = .number false 4503599627370496 (-105) := by decide +kernel
  unfold Ieee.Format.mul
  rw [read_pos hy, e2]
  simp only [Ieee.Datum.product, Option.map_some, Ieee.Format.write, Bool.xor_self]
  congr 1
  rw [nearest_word h0 hz false _ _ (.inr ⟨by omega, ?_⟩), word_pos]
  have e3 : (4503599627370496 : Nat) = 2 ^ 52 := by decide
  rw [h, e3, Nat.mul_comm (2 ^ 52), Nat.mul_assoc, ← Nat.pow_add]
  congr 2
  omega
theorem bclr_exp (s : Nat) (hs : s < 9223372036854775808) : bits .andNot .u64 (s : Int) 9218868437227405312 = ((s % 4503599627370496 : Nat) : Int) := by
  have h1 : (BitVec.ofInt 64 (s : Int)).toNat = s := by
    rw [BitVec.ofInt_natCast, BitVec.toNat_ofNat]; exact Nat.mod_eq_of_lt (by omega)
  have h2 : (~~~ (BitVec.ofInt 64 9218868437227405312)).toNat = 9223372036854775808 ||| (2 ^ 52 - 1) := by decide
  have h3 : s &&& (9223372036854775808 ||| (2 ^ 52 - 1)) = s % 4503599627370496 := by
    rw [Nat.and_or_distrib_left, and_top s (by omega), if_neg (by omega), Nat.zero_or, Nat.and_two_pow_sub_one_eq_mod]
  show IntKind.u64.wrap ((BitVec.ofInt 64 (s : Int) &&& ~~~ BitVec.ofInt 64 9218868437227405312).toNat : Int) = _
  rw [BitVec.toNat_and, h1, h2, h3, IntKind.wrap_u64]
  omega
theorem bor_exp (f x : Nat) (h : f < 4503599627370496) (hx : x < 2048) : bits .or .u64 (f : Int) ((x : Int) * 4503599627370496) = ((x * 4503599627370496 + f : Nat) : Int) := by
  have h1 := bits_or_u64_nat f (x * 4503599627370496) (by omega) (by omega)
  have h3 := Nat.two_pow_add_eq_or_of_lt (i := 52) (b := f) (by simpa using h) x
  rw [show (2 : Nat) ^ 52 = 4503599627370496 from by decide, Nat.mul_comm 4503599627370496 x, Nat.or_comm] at h3
  rw [← h3] at h1
  rw [← h1]
  congr 1
end Go.Proofs.YtmpefgemlpnbiaaGreat
namespace Go.Proofs.YtmpefgemlpnbiaaGreat
set_option linter.unusedVariables false
open Go.RowKit
attribute [local go_sem ↓] Go.wp_at_zero Go.wp_at_succ
theorem Abs_any (s : Nat) (w : World) (hs : s < 9223372036854775808) : Calls Tryz.prog 165 #[.float .f64 s] w fun e w' => e = .returned (.float .f64 s) ∧ w' = w := by
  have hc := bits64
  have hf := from64
  have h3 := bclr_top s (by omega)
  rw [Nat.mod_eq_of_lt hs] at h3
  go_enter Tryz.func165, Tryz.ntmps165
  go_wp2
  go_ret
  exact ⟨rfl, rfl⟩
theorem IsInf_no (s : Nat) (w : World) (hs : s < 9218868437227405312) : Calls Tryz.prog 150 #[.float .f64 s, .int .i64 0] w fun e w' => e = .returned (.bool false) ∧ w' = w := by
  have k1 : Hid _ := Abs_any s w (by omega)
  obtain ⟨d1, _⟩ := not_over (b := s) (by omega) (by omega)
  go_enter Tryz.func150, Tryz.ntmps150
  go_wp2_with fail
  refine Calls.mono k1.out ?_
  rintro e w1 ⟨rfl, rfl⟩
  go_wp2
  go_ret
  exact ⟨rfl, rfl⟩
theorem IsNaN_no (s : Nat) (w : World) (hs : s < 9218868437227405312) : Calls Tryz.prog 60 #[.float .f64 s] w fun e w' => e = .returned (.bool false) ∧ w' = w := by
  have ho := order_self s (by omega)
  rw [if_neg (by omega)] at ho
  have d0 : (FloatKind.f64.format.order s s != some .eq) = false := by rw [ho]; rfl
  clear ho
  go_enter Tryz.func60, Tryz.ntmps60
  go_wp2
  go_ret
  exact ⟨rfl, rfl⟩
theorem normalize_same (s : Nat) (w : World) (h1 : 4503599627370496 ≤ s) (hs : s < 9218868437227405312) : Calls Tryz.prog 151 #[.float .f64 s] w fun e w' => e = .returned (.tuple #[.float .f64 s, .int .i64 0]) ∧ w' = w := by
  have k1 : Hid _ := Abs_any s w (by omega)
  have d1 : (FloatKind.f64.format.order s 4503599627370496 == some .lt) = false := by
    apply beq_false_of_ne
    intro h
    have := order_lt (by omega) (by decide) h
    unfold rankB at this
    rw [if_neg (by omega), if_neg (by omega), if_neg (by decide), if_neg (by decide)] at this
    omega
  go_enter Tryz.func151, Tryz.ntmps151
  go_wp2_with fail
  refine Calls.mono k1.out ?_
  rintro e w1 ⟨rfl, rfl⟩
  go_wp2
  go_ret2
  exact ⟨rfl, rfl⟩
theorem ldexp_norm (s : Nat) (unit : Int) (w : World) (h1 : 4503599627370496 ≤ s) (hs : s < 9218868437227405312) (hu : -5000 ≤ unit ∧ unit ≤ 5000) (hlo : -1022 ≤ unit + (s / 4503599627370496 : Nat) - 1023) (hhi : unit + (s / 4503599627370496 : Nat) - 1023 ≤ 1023) :
    Calls Tryz.prog 131 #[.float .f64 s, .int .i64 unit] w fun e w' => e = .returned (.float .f64 ((unit + (s / 4503599627370496 : Nat)).toNat * 4503599627370496 + s % 4503599627370496)) ∧ w' = w := by
  have hc := bits64
  have hf := from64
  have k1 : Hid _ := IsInf_no s w hs
  have k2 : Hid _ := IsNaN_no s w hs
  have k3 : Hid _ := normalize_same s w h1 hs
  have d0 : (FloatKind.f64.format.order s 0 == some .eq) = false := by rw [order_zero (by omega) hs]; rfl
  have h52 : (s : Int) / 4503599627370496 = ((s / 4503599627370496 : Nat) : Int) := by omega
  have hx : s / 4503599627370496 < 2047 := by omega
  have hfl : s % 4503599627370496 < 4503599627370496 := Nat.mod_lt _ (by decide)
  have hcl := bclr_exp s (by omega)
  generalize s / 4503599627370496 = x at *
  generalize s % 4503599627370496 = f at *
  obtain ⟨X, hX⟩ : ∃ X : Nat, unit + (x : Int) = X := ⟨(unit + x).toNat, by omega⟩
  have hXn : Hid ((unit + (x : Int)).toNat = X) := by show _ = _; omega
  rw [hXn.out]
  have hor : bits .or .u64 (f : Int) ((unit + (x : Int)) * 4503599627370496) = ((X * 4503599627370496 + f : Nat) : Int) := by rw [hX]; exact bor_exp f X hfl (by omega)
  have hmul := mul_one (s := X * 4503599627370496 + f) (by omega) (by omega)
  have hand : bits .and .i64 (x : Int) 2047 = (x : Int) := by
    have h1 : (BitVec.ofInt 64 (x : Int)).toNat = x := by
      rw [BitVec.ofInt_natCast, BitVec.toNat_ofNat]; exact Nat.mod_eq_of_lt (by omega)
    have h2 : (BitVec.ofInt 64 2047).toNat = 2 ^ 11 - 1 := by decide
    show IntKind.i64.wrap ((BitVec.ofInt 64 (x : Int) &&& BitVec.ofInt 64 2047).toNat : Int) = _
    rw [BitVec.toNat_and, h1, h2, Nat.and_two_pow_sub_one_eq_mod, Nat.mod_eq_of_lt (show x < 2 ^ 11 by show x < 2048; omega), IntKind.wrap_i64]
    omega
  have hw1 : IntKind.i64.wrap (x : Int) = x := by rw [IntKind.wrap_i64]; omega
  have hw3 : IntKind.u64.wrap (unit + (x : Int)) = unit + x := by rw [IntKind.wrap_u64]; omega
  have hw4 : IntKind.u64.wrap ((unit + (x : Int)) * 4503599627370496) = (unit + (x : Int)) * 4503599627370496 := by rw [IntKind.wrap_u64]; omega
  have hE : unit + ((x : Int) - 1023) + 1023 = unit + x := by omega
  have hlo' : -1022 ≤ unit + ((x : Int) - 1023) := by omega
  have hhi' : unit + ((x : Int) - 1023) ≤ 1023 := by omega
  clear hlo hhi
  generalize X * 4503599627370496 + f = Y at *
  have hrm : ∀ w, Sem.run Tryz.prog (binOp BinOp.mul 39 (Value.float FloatKind.f64 4607182418800017408) (Value.float FloatKind.f64 Y)) w = .ok (.float .f64 Y) w := fun w => run_float_arith w .mul 39 .f64 _ _ _ hmul
  clear hmul hX hXn h1 hs
  go_enter Tryz.func131, Tryz.ntmps131
  go_wp2_with fail
  refine Calls.mono k1.out ?_
  rintro e w1 ⟨rfl, rfl⟩
  go_wp2_with fail
  refine Calls.mono k2.out ?_
  rintro e w1 ⟨rfl, rfl⟩
  go_wp2_with fail
  refine Calls.mono k3.out ?_
  rintro e w1 ⟨rfl, rfl⟩
  go_wp2
  go_ret
  exact ⟨rfl, rfl⟩
theorem ldexp_sub (s : Nat) (unit : Int) (z : Nat) (w : World) (h1 : 4503599627370496 ≤ s) (hs : s < 9218868437227405312) (hu : -5000 ≤ unit ∧ unit ≤ 5000) (hlo : -1075 ≤ unit + (s / 4503599627370496 : Nat) - 1023) (hhi : unit + (s / 4503599627370496 : Nat) - 1023 < -1022) (hmul : FloatKind.f64.format.mul 4368491638549381120 ((unit + (s / 4503599627370496 : Nat) + 53).toNat * 4503599627370496 + s % 4503599627370496) = some z) :
    Calls Tryz.prog 131 #[.float .f64 s, .int .i64 unit] w fun e w' => e = .returned (.float .f64 z) ∧ w' = w := by
  have hc := bits64
  have hf := from64
  have k1 : Hid _ := IsInf_no s w hs
  have k2 : Hid _ := IsNaN_no s w hs
  have k3 : Hid _ := normalize_same s w h1 hs
  have d0 : (FloatKind.f64.format.order s 0 == some .eq) = false := by rw [order_zero (by omega) hs]; rfl
  have h52 : (s : Int) / 4503599627370496 = ((s / 4503599627370496 : Nat) : Int) := by omega
  have hx : s / 4503599627370496 < 2047 := by omega
  have hfl : s % 4503599627370496 < 4503599627370496 := Nat.mod_lt _ (by decide)
  have hcl := bclr_exp s (by omega)
  generalize s / 4503599627370496 = x at *
  generalize s % 4503599627370496 = f at *
  obtain ⟨X, hX⟩ : ∃ X : Nat, unit + (x : Int) + 53 = X := ⟨(unit + x + 53).toNat, by omega⟩
  have hXn : (unit + (x : Int) + 53).toNat = X := by omega
  rw [hXn] at hmul
  have hor : bits .or .u64 (f : Int) ((unit + (x : Int) + 53) * 4503599627370496) = ((X * 4503599627370496 + f : Nat) : Int) := by rw [hX]; exact bor_exp f X hfl (by omega)
  have hand : bits .and .i64 (x : Int) 2047 = (x : Int) := by
    have h1 : (BitVec.ofInt 64 (x : Int)).toNat = x := by
      rw [BitVec.ofInt_natCast, BitVec.toNat_ofNat]; exact Nat.mod_eq_of_lt (by omega)
    have h2 : (BitVec.ofInt 64 2047).toNat = 2 ^ 11 - 1 := by decide
    show IntKind.i64.wrap ((BitVec.ofInt 64 (x : Int) &&& BitVec.ofInt 64 2047).toNat : Int) = _
    rw [BitVec.toNat_and, h1, h2, Nat.and_two_pow_sub_one_eq_mod, Nat.mod_eq_of_lt (show x < 2 ^ 11 by show x < 2048; omega), IntKind.wrap_i64]
    omega
  have hw1 : IntKind.i64.wrap (x : Int) = x := by rw [IntKind.wrap_i64]; omega
  have hw3 : IntKind.u64.wrap (unit + (x : Int) + 53) = unit + x + 53 := by rw [IntKind.wrap_u64]; omega
  have hw4 : IntKind.u64.wrap ((unit + (x : Int) + 53) * 4503599627370496) = (unit + (x : Int) + 53) * 4503599627370496 := by rw [IntKind.wrap_u64]; omega
  have hE : unit + ((x : Int) - 1023) + 53 + 1023 = unit + x + 53 := by omega
  have hlo' : -1075 ≤ unit + ((x : Int) - 1023) := by omega
  have hhi' : unit + ((x : Int) - 1023) < -1022 := by omega
  clear hlo hhi
  generalize X * 4503599627370496 + f = Y at *
  have hrm : ∀ w, Sem.run Tryz.prog (binOp BinOp.mul 39 (Value.float FloatKind.f64 4368491638549381120) (Value.float FloatKind.f64 Y)) w = .ok (.float .f64 z) w := fun w => run_float_arith w .mul 39 .f64 _ _ _ hmul
  clear hmul hX hXn h1 hs
  go_enter Tryz.func131, Tryz.ntmps131
  go_wp2_with fail
  refine Calls.mono k1.out ?_
  rintro e w1 ⟨rfl, rfl⟩
  go_wp2_with fail
  refine Calls.mono k2.out ?_
  rintro e w1 ⟨rfl, rfl⟩
  go_wp2_with fail
  refine Calls.mono k3.out ?_
  rintro e w1 ⟨rfl, rfl⟩
  go_wp2
  go_ret
  exact ⟨rfl, rfl⟩
end Go.Proofs.YtmpefgemlpnbiaaGreat
namespace Go.Proofs.YtmpefgemlpnbiaaGreat
set_option linter.unusedVariables false
open Go.RowKit
attribute [local go_sem ↓] Go.wp_at_zero Go.wp_at_succ
theorem encI_parts {n : Nat} (h0 : n ≠ 0) (hn : n ≤ 9007199254740992) : ∃ c, 4503599627370496 ≤ c ∧ c < 9007199254740992 ∧ c * 2 ^ n.log2 = n * 2 ^ 52 ∧ encI n / 4503599627370496 = n.log2 + 1023 ∧ encI n % 4503599627370496 = c - 4503599627370496 ∧ encI n < 9218868437227405312 ∧ 4503599627370496 ≤ encI n := by
  obtain ⟨h1, h2, h3, h4, h5⟩ := encI_dg h0 hn
  have hx : encI n / 4503599627370496 = n.log2 + 1023 := by
    unfold dgU at h3
    by_cases hz : encI n / 4503599627370496 = 0
    · rw [if_pos hz] at h3; omega
    · rw [if_neg hz] at h3; omega
  have hc : dgC (encI n) = 4503599627370496 + encI n % 4503599627370496 := by unfold dgC; rw [if_neg (by omega)]
  have hf := Nat.mod_lt (encI n) (show 0 < 4503599627370496 by decide)
  refine ⟨dgC (encI n), by omega, by omega, h2, hx, by omega, h5, by omega⟩
theorem Ldexp_call {s : Nat} {unit : Int} {z : Nat} (w : World) (k : Calls Tryz.prog 131 #[.float .f64 s, .int .i64 unit] w fun e w' => e = .returned (.float .f64 z) ∧ w' = w) : Calls Tryz.prog 102 #[.float .f64 s, .int .i64 unit] w fun e w' => e = .returned (.float .f64 z) ∧ w' = w := by
  replace k : Hid _ := k
  go_enter Tryz.func102, Tryz.ntmps102
  go_wp2_with fail
  refine Calls.mono k.out ?_
  rintro e w1 ⟨rfl, rfl⟩
  go_wp2
  go_ret
  exact ⟨rfl, rfl⟩
theorem Ldexp_enc {n : Nat} {unit : Int} (h0 : n ≠ 0) (hn : n ≤ 9007199254740992) (hu : unit = -1074 ∨ (-1074 < unit ∧ 4503599627370496 ≤ n)) (hu2 : unit ≤ 971) (hz : unit = 971 → n < 9007199254740992) (w : World) :
    Calls Tryz.prog 102 #[.float .f64 (encI n), .int .i64 unit] w fun e w' => e = .returned (.float .f64 ((unit + 1074).toNat * 4503599627370496 + n)) ∧ w' = w := by
  obtain ⟨c, c1, c2, hv, hx, hf, hs, hs1⟩ := encI_parts h0 hn
  have hl1 := Nat.log2_self_le h0
  have hl2 := Nat.lt_log2_self (n := n)
  have hl : n.log2 < 54 := by rw [Nat.log2_lt h0]; show n < 18014398509481984; omega
  have hbig : 4503599627370496 ≤ n ↔ 52 ≤ n.log2 := by
    rw [Nat.le_log2 h0]
  have h53 : 9007199254740992 ≤ n ↔ 53 ≤ n.log2 := by
    rw [Nat.le_log2 h0]
  apply Ldexp_call
  by_cases hE : -1022 ≤ unit + ((encI n / 4503599627370496 : Nat) : Int) - 1023
  · have h52 : 52 ≤ n.log2 := by omega
    have k := ldexp_norm (encI n) unit w hs1 hs (by omega) hE (by omega)
    have e : (unit + ((encI n / 4503599627370496 : Nat) : Int)).toNat * 4503599627370496 + encI n % 4503599627370496 = (unit + 1074).toNat * 4503599627370496 + n := by
      rw [hx, hf]
      have h2 : n.log2 = 52 ∨ n.log2 = 53 := by omega
      rcases h2 with h2 | h2
      · rw [h2] at hv
        have hcn : c = n := Nat.eq_of_mul_eq_mul_right (Nat.two_pow_pos 52) hv
        clear hv hl1 hl2 k
        omega
      · have hn2 : n = 9007199254740992 := by omega
        rw [h2, hn2] at hv
        have hcn : c = 4503599627370496 := Nat.eq_of_mul_eq_mul_right (Nat.two_pow_pos 53) (hv.trans (by decide +kernel))
        clear hv hl1 hl2 k
        omega
    rw [e] at k
    exact k
  · have hun : unit = -1074 := by omega
    have hL : n.log2 < 52 := by omega
    have hn52 : n < 4503599627370496 := by omega
    have hcn : c = n * 2 ^ (52 - n.log2) := by
      apply Nat.eq_of_mul_eq_mul_right (Nat.two_pow_pos n.log2)
      rw [hv, Nat.mul_assoc, ← Nat.pow_add, show 52 - n.log2 + n.log2 = 52 from by omega]
    have e : (unit + 1074).toNat * 4503599627370496 + n = n := by omega
    rw [e]
    refine ldexp_sub (encI n) unit n w hs1 hs (by omega) (by omega) (by omega) ?_
    rw [hx, hf]
    obtain ⟨Y, hY⟩ : ∃ Y, Y = (unit + ((n.log2 + 1023 : Nat) : Int) + 53).toNat * 4503599627370496 + (c - 4503599627370496) := ⟨_, rfl⟩
    rw [← hY]
    have y1 : Y / 4503599627370496 = n.log2 + 2 := by omega
    have y2 : Y % 4503599627370496 = c - 4503599627370496 := by omega
    have dC : dgC Y = c := by unfold dgC; rw [y1, y2, if_neg (by omega)]; omega
    have dU : dgU Y = (n.log2 : Int) - 1073 := by unfold dgU; rw [y1, if_neg (by omega)]; omega
    have zC : dgC n = n := by unfold dgC; rw [if_pos (by omega)]; omega
    have zU : dgU n = -1074 := by unfold dgU; rw [if_pos (by omega)]
    apply mul_tiny h0 (by omega) (by omega) (by omega)
    rw [dC, zC, zU, dU, hcn]
    congr 2
    omega
end Go.Proofs.YtmpefgemlpnbiaaGreat
namespace Go.Proofs.YtmpefgemlpnbiaaGreat
set_option linter.unusedVariables false
open Go.RowKit
theorem bit_of_val {zs : List Int} (hw : Words 65536 zs) (i : Nat) : val 65536 zs / 2 ^ i % 2 = zs[i / 16]?.getD 0 / 2 ^ (i % 16) % 2 := by
  have hk : val 65536 zs = val 65536 (zs.take (i / 16)) + 65536 ^ (i / 16) * val 65536 (zs.drop (i / 16)) := by
    by_cases h : i / 16 ≤ zs.length
    · exact val_split _ _ _ h
    · rw [List.take_of_length_le (by omega), List.drop_eq_nil_of_le (by omega)]; simp [val]
  have h1 := val_nonneg (B := 65536) (by decide) (hw.take (i / 16))
  have h2 : val 65536 (zs.take (i / 16)) < 65536 ^ (i / 16) := by
    have e := val_lt (B := 65536) (by decide) (hw.take (i / 16))
    have m := pow_mono (B := 65536) (by decide) (m := (zs.take (i / 16)).length) (n := i / 16) (by rw [List.length_take]; omega)
    omega
  have hp : (65536 : Int) ^ (i / 16) = 2 ^ (16 * (i / 16)) := by rw [Int.pow_mul]; rfl
  have hd : val 65536 zs / 65536 ^ (i / 16) = val 65536 (zs.drop (i / 16)) := by
    rw [hk, Int.add_mul_ediv_left _ _ (by have := pow_pos' (B := 65536) (by decide) (i / 16); omega), Int.ediv_eq_zero_of_lt h1 h2]; omega
  have hi : (2 : Int) ^ i = 65536 ^ (i / 16) * 2 ^ (i % 16) := by rw [hp, ← Int.pow_add]; congr 1; omega
  rw [hi, ← Int.ediv_ediv_of_nonneg (Int.le_of_lt (pow_pos' (by decide) _)), hd, val_drop]
  generalize zs[i / 16]?.getD 0 = d
  generalize val 65536 (zs.drop (i / 16 + 1)) = v
  have hr : i % 16 < 16 := by omega
  have he : (65536 : Int) = 2 ^ (i % 16) * (2 * 2 ^ (15 - i % 16)) := by
    have : (65536 : Int) = 2 ^ (i % 16 + (1 + (15 - i % 16))) := by rw [show i % 16 + (1 + (15 - i % 16)) = 16 from by omega]; rfl
    rw [this, Int.pow_add, Int.pow_add, Int.pow_one]
  have hpos := pow_pos' (B := 2) (by decide) (i % 16)
  rw [he, Int.mul_assoc, Int.add_mul_ediv_left _ _ (by omega), Int.mul_assoc]
  generalize 2 ^ (15 - i % 16) * v = u
  omega
set_option maxHeartbeats 1000000 in
theorem bit_any (x : Option Addr) (ca : Nat) (xs : List Int) (i : Nat) (w : World) (ha : Row w .i64 65536 x ca xs) (hl : xs.length ≤ 1000000) (hi : i ≤ 100000000) :
    Calls Tryz.prog 129 #[.slice x xs.length ca, .int .i64 i] w fun e w' => e = .returned (.int .i64 (val 65536 xs / 2 ^ i % 2)) ∧ w' = w := by
  have hb := bit_of_val ha.words i
  rw [hb]
  clear hb
  by_cases h : i / 16 < xs.length
  · obtain ⟨x, rfl⟩ := ha.some_of h
    obtain ⟨p, hp, hp0, hp1⟩ := ha.words.get (by decide) (i / 16)
    have hce := ha.cell x rfl (i / 16) h
    rw [hp] at hce ⊢
    clear hp
    have e1 : (i : Int).tdiv 16 = ((i / 16 : Nat) : Int) := by rw [Int.tdiv_eq_ediv_of_nonneg (by omega)]; omega
    have e2 : (i : Int).tmod 16 = ((i % 16 : Nat) : Int) := by rw [Int.tmod_eq_emod_of_nonneg (by omega)]; omega
    have e3 : ¬ ((i / 16 : Nat) : Int) ≥ (xs.length : Int) := by omega
    go_enter Tryz.func129, Tryz.ntmps129
    go_wp2
    go_ret
    exact ⟨ret_int (Int.tmod_eq_emod_of_nonneg (Int.ediv_nonneg hp0 (Int.le_of_lt (pow_pos' (by decide) _)))), rfl⟩
  · have e1 : (i : Int).tdiv 16 = ((i / 16 : Nat) : Int) := by rw [Int.tdiv_eq_ediv_of_nonneg (by omega)]; omega
    have e3 : ((i / 16 : Nat) : Int) ≥ (xs.length : Int) := by omega
    have h0 : xs[i / 16]?.getD 0 = 0 := Row.at_out h
    rw [h0]
    have e4 : (0 : Int) / 2 ^ (i % 16) % 2 = 0 := by simp
    rw [e4]
    clear e4 h0 e1
    have e5 : (xs.length : Int) ≤ (i : Int) / 16 := by omega
    go_enter Tryz.func129, Tryz.ntmps129
    go_wp2
    go_ret
    exact ⟨rfl, rfl⟩
theorem bits_down {v : Int} {k : Nat} (h0 : 0 ≤ v) (h : v < 2 ^ (k + 1)) (hb : v / 2 ^ k % 2 = 0) : v < 2 ^ k := by
  have hp := pow_pos' (B := 2) (by decide) k
  have h1 : v / 2 ^ k < 2 := Int.ediv_lt_of_lt_mul hp (by rw [Int.pow_succ] at h; omega)
  have h2 : 0 ≤ v / 2 ^ k := Int.ediv_nonneg h0 (Int.le_of_lt hp)
  have h3 : v / 2 ^ k = 0 := by omega
  have h4 := Int.lt_ediv_add_one_mul_self v hp
  rw [h3] at h4
  omega
theorem bits_top {v : Int} {k : Nat} (h0 : 0 ≤ v) (hb : ¬ v / 2 ^ k % 2 = 0) : 2 ^ k ≤ v := by
  have hp := pow_pos' (B := 2) (by decide) k
  by_cases h : 2 ^ k ≤ v
  · exact h
  · rw [Int.ediv_eq_zero_of_lt h0 (by omega)] at hb
    exact absurd rfl hb
set_option maxHeartbeats 1000000 in
theorem rBits_any (na : Bool) (x : Option Addr) (ca : Nat) (xs : List Int) (w : World) (ha : Row w .i64 65536 x ca xs) (hl : xs.length ≤ 1000000) :
    Calls Tryz.prog 98 #[.agg #[.bool na, .slice x xs.length ca]] w fun e w' => ∃ L : Nat, e = .returned (.int .i64 L) ∧ HasBits (val 65536 xs) L ∧ Below w.heap.size w w' := by
  have hv := val_nonneg (B := 65536) (by decide) ha.words
  have hv2 := val_lt (B := 65536) (by decide) ha.words
  have hp : (65536 : Int) ^ xs.length = 2 ^ (16 * xs.length) := by rw [Int.pow_mul]; rfl
  rw [hp] at hv2
  replace hv : Hid _ := hv
  replace hv2 : Hid _ := hv2
  clear hp
  have hB : Below w.heap.size w (w.alloc (.cells #[.bool na, .slice x xs.length ca] 32)) := (Below.refl _ _).alloc (Nat.le_refl _) _
  have haB := ha.next hB
  go_enter Tryz.func98, Tryz.ntmps98
  go_wp2
  go_loop [3] (fun t => ∃ k : Nat, k ≤ 16 * xs.length ∧ t = .int .i64 k ∧ Hid (val 65536 xs < 2 ^ k)) (fun t => (intOf t).toNat)
  case atStart => exact ⟨16 * xs.length, Nat.le_refl _, by simp, hv2⟩
  case round =>
    obtain ⟨k, hk, rfl, H⟩ := hrel
    cases k with
    | zero =>
      go_wp2
      go_ret
      exact ⟨0, rfl, ⟨H.out, .inl rfl⟩, hB⟩
    | succ k =>
      have hbit := bit_any x ca xs k _ haB (by omega) (by omega)
      by_cases hz : val 65536 xs / 2 ^ k % 2 = 0
      · rw [hz] at hbit
        have HD := bits_down hv.out H.out hz
        replace HD : Hid _ := HD
        replace hz : Hid _ := hz
        go_wp2_with (go_at_call 129; refine Calls.mono hbit ?_; rintro e w' ⟨rfl, rfl⟩)
        go_round
        case rel => exact ⟨k, by omega, by go_num, HD⟩
        case measure => simp [intOf]
      · have HT := bits_top hv.out hz
        have e1 : val 65536 xs / 2 ^ k % 2 = 1 := by omega
        rw [e1] at hbit
        replace HT : Hid _ := HT
        replace hz : Hid _ := hz
        replace e1 : Hid _ := e1
        go_wp2_with (go_at_call 129; refine Calls.mono hbit ?_; rintro e w' ⟨rfl, rfl⟩)
        go_ret
        exact ⟨k + 1, by go_num, ⟨H.out, .inr HT.out⟩, hB⟩
attribute [local go_sem ↓] Go.wp_at_zero Go.wp_at_succ
theorem rBits_num {w : World} {u : Value} {y : Int} {m : Nat} (hu : Rint w u y m) (hm : m ≤ 1000) :
    Calls Tryz.prog 98 #[u] w fun e w' => ∃ L : Nat, e = .returned (.int .i64 L) ∧ HasBits (y.natAbs : Int) L ∧ Below w.heap.size w w' := by
  obtain ⟨na, x, ca, xs, rfl, ha, _, rfl, hl⟩ := hu
  have hva := val_abs (B := 65536) (n := na) (by decide) ha.words
  rw [← hva]
  exact rBits_any na x ca xs w ha (by omega)
theorem rBit_num {w : World} {u : Value} {y : Int} {m : Nat} (hu : Rint w u y m) (hm : m ≤ 1000) (i : Nat) (hi : i ≤ 100000000) :
    Calls Tryz.prog 101 #[u, .int .i64 i] w fun e w' => e = .returned (.int .i64 ((y.natAbs : Int) / 2 ^ i % 2)) ∧ Below w.heap.size w w' := by
  obtain ⟨na, x, ca, xs, rfl, ha, _, rfl, hl⟩ := hu
  have hva := val_abs (B := 65536) (n := na) (by decide) ha.words
  rw [← hva]
  obtain ⟨W, hW, hbW, hlt, c0, c1, _, _⟩ := box1r w (.bool na) (.slice x xs.length ca) 32
  have k1 : Hid _ := bit_any x ca xs i W (ha.next hbW) (by omega) hi
  generalize val 65536 xs / 2 ^ i % 2 = V at *
  clear hva
  go_enter Tryz.func101, Tryz.ntmps101
  go_wp2_with fail
  rw [← hW]
  clear hW
  refine Calls.mono k1.out ?_
  rintro e w1 ⟨rfl, rfl⟩
  go_wp2
  go_ret
  exact ⟨rfl, hbW⟩
end Go.Proofs.YtmpefgemlpnbiaaGreat
namespace Go.Proofs.YtmpefgemlpnbiaaGreat
set_option linter.unusedVariables false
open Go.RowKit
attribute [local go_sem ↓] Go.wp_at_zero Go.wp_at_succ
theorem two_boxes32 (w : World) (v0 v1 v2 v3 : Value) (T : TypeId) : ∃ W, W = (w.alloc (.cells #[v0, v1] T)).alloc (.cells #[v2, v3] T) ∧ Below w.heap.size w W ∧ w.heap.size + 1 < W.heap.size ∧
    (W.cell? ⟨w.heap.size, 0, none⟩ = some v0 ∧ W.cell? ⟨w.heap.size, 1, none⟩ = some v1 ∧ W.cell? ⟨w.heap.size + 1, 0, none⟩ = some v2 ∧ W.cell? ⟨w.heap.size + 1, 1, none⟩ = some v3) ∧
    (∀ o, W.frozen? ⟨w.heap.size, o, none⟩ = false) ∧ (∀ o, W.frozen? ⟨w.heap.size + 1, o, none⟩ = false) := by
  refine ⟨_, rfl, ((Below.refl _ _).alloc (Nat.le_refl _) _).alloc (by simp) _, by simp, ⟨?_, ?_, ?_, ?_⟩, ?_, ?_⟩ <;> (try intro o) <;> simp [go_sem, World.cell?_alloc_past, World.frozen?_alloc_past]
theorem drop_le {ds : List Int} (hw : Words 65536 ds) (k : Nat) : val 65536 (ds.drop k) ≤ val 65536 ds := by
  by_cases hk : k ≤ ds.length
  · rw [val_split 65536 ds k hk]
    have h1 := val_nonneg (B := 65536) (by decide) (hw.take k)
    have h2 := val_nonneg (B := 65536) (by decide) (hw.drop k)
    have h3 := pow_mono (B := 65536) (by decide) (m := 0) (n := k) (by omega)
    rw [Int.pow_zero] at h3
    have h4 := Int.mul_le_mul_of_nonneg_right h3 h2
    omega
  · rw [List.drop_eq_nil_of_le (by omega)]
    simp [val]
    exact val_nonneg (B := 65536) (by decide) hw
set_option maxHeartbeats 4000000 in
set_option maxRecDepth 20000 in
theorem rInt64_num {w : World} {u : Value} {y : Int} {m : Nat} (hu : Rint w u y m) (hm : m ≤ 1000) :
    Calls Tryz.prog 76 #[u] w fun e w' => e = .returned (.tuple #[.int .i64 (pick64 y), .bool (fits64 y)]) ∧ Below w.heap.size w w' := by
  obtain ⟨na, x, ca, xs, rfl, ha, hna, hy, hl⟩ := hu
  obtain ⟨W, hW, hbW, hlt, c0, c1, _, _⟩ := box1r w (.bool na) (.slice x xs.length ca) 32
  have hU : Rint W (.agg #[.bool na, .slice x xs.length ca]) y m := ⟨na, x, ca, xs, rfl, ha.next hbW, hna, hy, hl⟩
  have k1 := rOf_any (-9223372036854775808) W (by decide) (by decide)
  replace k1 : Hid _ := k1
  replace hy : Hid _ := hy
  replace hna : Hid _ := hna
  go_enter Tryz.func76, Tryz.ntmps76
  go_wp2_with fail
  rw [← hW]
  clear hW
  refine Calls.mono k1.out ?_
  rintro e w1 ⟨t1, rfl, hO1, hb1⟩
  obtain ⟨n1, a1, l1, d1, rfl⟩ := hO1.rint.form
  clear k1
  have k2 := rOf_any 9223372036854775807 w1 (by decide) (by decide)
  replace k2 : Hid _ := k2
  go_wp2_with fail
  refine Calls.mono k2.out ?_
  rintro e w2 ⟨t2, rfl, hO2, hb2⟩
  obtain ⟨n2, a2, l2, d2, rfl⟩ := hO2.rint.form
  clear k2
  obtain ⟨W2, hW2, hbW2, hlW2, ⟨x0, x1, x2, x3⟩, _, _⟩ := two_boxes32 w2 (.bool n1) (.slice a1 l1 d1) (.bool n2) (.slice a2 l2 d2) 32
  have hbx := bthen (bthen hb1 hb2) hbW2
  have hby := bthen hb1 hb2
  have p0 := keep_cell hby c0
  have p1 := keep_cell hby c1
  have q1 : w.heap.size < w2.heap.size := cell_lt p0
  have q2 : w.heap.size < w2.heap.size + 1 := by omega
  have hU2 := hU.next hbx
  have hL2 := (hO1.rint.next hb2).next hbW2
  have hM2 := hO2.rint.next hbW2
  have kc1 := rCmp_num hU2 hL2 (by omega) (by decide)
  replace kc1 : Hid _ := kc1
  have z0 := keep_cell hbx c0
  have z1 := keep_cell hbx c1
  have hB2 := bthen hbW hbx
  go_wp2_with fail
  rw [← hW2]
  clear hW2 p0 p1
  refine Calls.mono kc1.out ?_
  rintro e w3 ⟨rfl, hb3⟩
  clear kc1
  have z0' := keep_cell hb3 z0
  have z1' := keep_cell hb3 z1
  have y2 := keep_cell hb3 x2
  have y3 := keep_cell hb3 x3
  have hB3 := bthen hB2 hb3
  by_cases hlo : y < -9223372036854775808
  · have e : Hid _ := fits64_no (z := y) (by omega)
    rw [cmpI_lt hlo]
    go_wp2
    go_ret2
    exact ⟨by rw [e.out.1, e.out.2]; rfl, hB3⟩
  · have hc1 : ¬ cmpI y (-9223372036854775808) < 0 := by unfold cmpI; split <;> (try split) <;> omega
    have hc1' : cmpI y (-9223372036854775808) ≤ 1 := by unfold cmpI; split <;> (try split) <;> omega
    generalize cmpI y (-9223372036854775808) = cc at *
    have kc2 := rCmp_num (hU2.next hb3) (hM2.next hb3) (by omega) (by decide)
    replace kc2 : Hid _ := kc2
    go_wp2_with fail
    refine Calls.mono kc2.out ?_
    rintro e w4 ⟨rfl, hb4⟩
    clear kc2
    have r0 := keep_cell hb4 z0'
    have r1 := keep_cell hb4 z1'
    have hB4 := bthen hB3 hb4
    have ha4 := ha.next hB4
    clear z0 z1 z0' z1' y2 y3 x0 x1 x2 x3 hU hU2 hL2 hM2 hO1 hO2 hB2 hB3 hb1 hb2 hb3 hb4 hbx hby hbW2 c0 c1
    by_cases hhi : 9223372036854775807 < y
    · have e : Hid _ := fits64_no (z := y) (by omega)
      rw [cmpI_gt hhi]
      go_wp2
      go_ret2
      exact ⟨by rw [e.out.1, e.out.2]; rfl, hB4⟩
    · have hc2 : ¬ cmpI y 9223372036854775807 > 0 := by unfold cmpI; split <;> (try split) <;> omega
      have hc2' : -1 ≤ cmpI y 9223372036854775807 := by unfold cmpI; split <;> (try split) <;> omega
      generalize cmpI y 9223372036854775807 = cd at *
      have e : Hid _ := fits64_yes (z := y) (by omega)
      have hv0 := val_nonneg (B := 65536) (by decide) ha.words
      cases na with
      | false =>
        have hyv : val 65536 xs = y := hy.out
        go_wp2
        go_loop [6, 7] (fun n i => ∃ k : Nat, k ≤ xs.length ∧ i = .int .i64 ((k : Int) - 1) ∧ n = .int .i64 (val 65536 (xs.drop k))) (fun _ i => (intOf i + 1).toNat)
        case atStart => exact ⟨xs.length, Nat.le_refl _, rfl, by rw [List.drop_length]; rfl⟩
        case round =>
          obtain ⟨k, hk, rfl, rfl⟩ := hrel
          have h0 := val_nonneg (B := 65536) (by decide) (ha.words.drop k)
          have h1 := drop_le ha.words k
          by_cases hkp : k = 0
          · subst hkp
            go_wp2
            go_ret2
            exact ⟨by rw [e.out.1, e.out.2]; simp, hB4⟩
          · obtain ⟨k, rfl⟩ : ∃ j, k = j + 1 := ⟨k - 1, by omega⟩
            have hd := val_drop 65536 xs k
            have h2 := drop_le ha.words k
            obtain ⟨p, hp, hp0, hp1⟩ := ha.words.get (by decide) k
            rw [hp] at hd
            obtain ⟨x, rfl⟩ := ha4.some_of (i := k) (by omega)
            have hce := ha4.cell x rfl k (by omega)
            rw [hp] at hce
            have e1 : ((k + 1 : Nat) : Int) - 1 = (k : Int) := by omega
            rw [e1]
            have e2 : (k : Int) < (xs.length : Int) := by omega
            have e3 : (0 : Int) ≤ (k : Int) := by omega
            generalize val 65536 (xs.drop (k + 1)) = v at *
            replace hd : Hid _ := hd
            replace hp : Hid _ := hp
            have hb1 : v * 65536 ≤ 9223372036854775807 := by have := hd.out; omega
            have hb2 : v * 65536 + p ≤ 9223372036854775807 := by have := hd.out; omega
            go_wp2
            go_round
            case rel => exact ⟨k, by omega, by go_num, congrArg (Value.int .i64) (by have := hd.out; omega)⟩
            case measure => simp [intOf]
      | true =>
        have hyv : val 65536 xs = -y := by have := hy.out; simp [num] at this; omega
        go_wp2
        go_loop [6, 7] (fun n i => ∃ k : Nat, k ≤ xs.length ∧ i = .int .i64 ((k : Int) - 1) ∧ n = .int .i64 (-val 65536 (xs.drop k))) (fun _ i => (intOf i + 1).toNat)
        case atStart => exact ⟨xs.length, Nat.le_refl _, rfl, by rw [List.drop_length]; rfl⟩
        case round =>
          obtain ⟨k, hk, rfl, rfl⟩ := hrel
          have h0 := val_nonneg (B := 65536) (by decide) (ha.words.drop k)
          have h1 := drop_le ha.words k
          by_cases hkp : k = 0
          · subst hkp
            go_wp2
            go_ret2
            exact ⟨by rw [e.out.1, e.out.2]; simp, hB4⟩
          · obtain ⟨k, rfl⟩ : ∃ j, k = j + 1 := ⟨k - 1, by omega⟩
            have hd := val_drop 65536 xs k
            have h2 := drop_le ha.words k
            obtain ⟨p, hp, hp0, hp1⟩ := ha.words.get (by decide) k
            rw [hp] at hd
            obtain ⟨x, rfl⟩ := ha4.some_of (i := k) (by omega)
            have hce := ha4.cell x rfl k (by omega)
            rw [hp] at hce
            have e1 : ((k + 1 : Nat) : Int) - 1 = (k : Int) := by omega
            rw [e1]
            have e2 : (k : Int) < (xs.length : Int) := by omega
            have e3 : (0 : Int) ≤ (k : Int) := by omega
            generalize val 65536 (xs.drop (k + 1)) = v at *
            replace hd : Hid _ := hd
            replace hp : Hid _ := hp
            have hb1 : -9223372036854775808 ≤ -v * 65536 := by have := hd.out; omega
            have hb2 : -9223372036854775808 ≤ -v * 65536 - p := by have := hd.out; omega
            have hb3 : -v * 65536 ≤ 0 := by omega
            go_wp2
            go_round
            case rel => exact ⟨k, by omega, by go_num, congrArg (Value.int .i64) (by have := hd.out; omega)⟩
            case measure => simp [intOf]
end Go.Proofs.YtmpefgemlpnbiaaGreat
namespace Go.Proofs.YtmpefgemlpnbiaaGreat
set_option linter.unusedVariables false
open Go.RowKit
attribute [local go_sem ↓] Go.wp_at_zero Go.wp_at_succ
theorem put_b2 {w : World} {b : Nat} (h : Box2 w b) (m1 : Bool) (a1 : Option Addr) (l1 c1 : Nat) : ∃ W, W = (w.setCell ⟨b, 0, none⟩ (.bool m1)).setCell ⟨b, 1, none⟩ (.slice a1 l1 c1) ∧ Chg b w W ∧ Box2 W b ∧
    (W.cell? ⟨b, 0, none⟩ = some (.bool m1) ∧ W.cell? ⟨b, 1, none⟩ = some (.slice a1 l1 c1)) := by
  obtain ⟨_, _, _, _, j0, j1, _⟩ := h.cells
  refine ⟨_, rfl, (Chg.set _ _ _ _).trans (Chg.set _ _ _ _), h.put _ _ _ _, ?_, ?_⟩
  all_goals simp [go_sem, j0, j1]
theorem boxes_near (w : World) (n1 : Bool) (a1 : Option Addr) (l1 c1 : Nat) (n2 : Bool) (a2 : Option Addr) (l2 c2 : Nat) : ∃ W, W = (w.alloc (.cells #[.bool n1, .slice a1 l1 c1, .bool n2, .slice a2 l2 c2] 34)).alloc (.cells #[.bool false, .slice none 0 0] 32) ∧ Below w.heap.size w W ∧
    (W.cell? ⟨w.heap.size, 0, none⟩ = some (.bool n1) ∧ W.cell? ⟨w.heap.size, 1, none⟩ = some (.slice a1 l1 c1) ∧ W.cell? ⟨w.heap.size, 2, none⟩ = some (.bool n2) ∧ W.cell? ⟨w.heap.size, 3, none⟩ = some (.slice a2 l2 c2)) ∧ Box2 W (w.heap.size + 1) := by
  refine ⟨_, rfl, ((Below.refl _ _).alloc (Nat.le_refl _) _).alloc (by simp) _, ⟨?_, ?_, ?_, ?_⟩, ?n0⟩
  case n0 =>
    have h := Box2.new (w.alloc (.cells #[.bool n1, .slice a1 l1 c1, .bool n2, .slice a2 l2 c2] 34)) false none 0 0 32 (by decide)
    rw [show (w.alloc (.cells #[.bool n1, .slice a1 l1 c1, .bool n2, .slice a2 l2 c2] 34)).heap.size = w.heap.size + 1 from by simp] at h
    exact h
  all_goals simp [go_sem, World.cell?_alloc_past]
theorem boxes_b2 (w : World) (n1 : Bool) (a1 : Option Addr) (l1 c1 : Nat) (n2 : Bool) (a2 : Option Addr) (l2 c2 : Nat) : ∃ W, W = (w.alloc (.cells #[.bool n1, .slice a1 l1 c1] 32)).alloc (.cells #[.bool n2, .slice a2 l2 c2] 32) ∧ Below w.heap.size w W ∧
    (W.cell? ⟨w.heap.size, 0, none⟩ = some (.bool n1) ∧ W.cell? ⟨w.heap.size, 1, none⟩ = some (.slice a1 l1 c1) ∧ W.cell? ⟨w.heap.size + 1, 0, none⟩ = some (.bool n2) ∧ W.cell? ⟨w.heap.size + 1, 1, none⟩ = some (.slice a2 l2 c2)) ∧ Box2 W w.heap.size := by
  refine ⟨_, rfl, ((Below.refl _ _).alloc (Nat.le_refl _) _).alloc (by simp) _, ⟨?_, ?_, ?_, ?_⟩, ?n0⟩
  case n0 => exact (Box2.new w n1 a1 l1 c1 32 (by decide)).next ((Below.refl _ _).alloc (Nat.le_refl _) _)
  all_goals simp [go_sem, World.cell?_alloc_past]
theorem box_b2 (w : World) (n1 : Bool) (a1 : Option Addr) (l1 c1 : Nat) : ∃ W, W = w.alloc (.cells #[.bool n1, .slice a1 l1 c1] 32) ∧ Below w.heap.size w W ∧
    (W.cell? ⟨w.heap.size, 0, none⟩ = some (.bool n1) ∧ W.cell? ⟨w.heap.size, 1, none⟩ = some (.slice a1 l1 c1)) ∧ Box2 W w.heap.size := by
  refine ⟨_, rfl, (Below.refl _ _).alloc (Nat.le_refl _) _, ⟨?_, ?_⟩, Box2.new w n1 a1 l1 c1 32 (by decide)⟩
  all_goals simp [go_sem]
theorem near_up {p q : Int} (hp : 0 ≤ p) (hq : 0 < q) (h : q < p.tmod q + p.tmod q ∨ (p.tmod q + p.tmod q = q ∧ ((p.tdiv q).natAbs : Int) / 2 ^ 0 % 2 = 1)) : near p q = p.tdiv q + 1 := by
  have e1 : p.tmod q = p % q := Int.tmod_eq_emod_of_nonneg hp
  have e2 : p.tdiv q = p / q := Int.tdiv_eq_ediv_of_nonneg hp
  have e3 := Int.ediv_nonneg hp (Int.le_of_lt hq)
  rw [e1, e2] at h
  rw [e2]
  unfold near
  rw [Int.pow_zero, Int.ediv_one] at h
  rw [if_pos (by omega)]
theorem near_stay {p q : Int} (hp : 0 ≤ p) (hq : 0 < q) (h : p.tmod q + p.tmod q < q ∨ (p.tmod q + p.tmod q = q ∧ ¬ ((p.tdiv q).natAbs : Int) / 2 ^ 0 % 2 = 1)) : near p q = p.tdiv q := by
  have e1 : p.tmod q = p % q := Int.tmod_eq_emod_of_nonneg hp
  have e2 : p.tdiv q = p / q := Int.tdiv_eq_ediv_of_nonneg hp
  have e3 := Int.ediv_nonneg hp (Int.le_of_lt hq)
  rw [e1, e2] at h
  rw [e2]
  unfold near
  rw [Int.pow_zero, Int.ediv_one] at h
  rw [if_neg (by omega)]
set_option maxRecDepth 20000 in
set_option maxHeartbeats 4000000 in
theorem nearR_num {w : World} {u : Value} {p q : Int} {m : Nat} (hu : RatR w u p q m) (hp : 0 ≤ p) (hq : 0 < q) (hm : m ≤ 900) :
    Calls Tryz.prog 100 #[u] w fun e w' => ∃ t, e = .returned t ∧ Rint w' t (near p q) (m + 3) ∧ Below w.heap.size w w' := by
  obtain ⟨n1, a1, l1, c1, n2, a2, l2, c2, rfl⟩ := hu.form
  obtain ⟨W, hW, hbW, ⟨e0, e1, e2, e3⟩, x0⟩ := boxes_near w n1 a1 l1 c1 n2 a2 l2 c2
  obtain ⟨hN, hD⟩ := (hu.next hbW).parts
  have hup : Hid (q < p.tmod q + p.tmod q ∨ (p.tmod q + p.tmod q = q ∧ ((p.tdiv q).natAbs : Int) / 2 ^ 0 % 2 = 1) → near p q = p.tdiv q + 1) := near_up hp hq
  have hst : Hid (p.tmod q + p.tmod q < q ∨ (p.tmod q + p.tmod q = q ∧ ¬ ((p.tdiv q).natAbs : Int) / 2 ^ 0 % 2 = 1) → near p q = p.tdiv q) := near_stay hp hq
  have hq0 : Hid (q ≠ 0) := by show _ ≠ _; omega
  have kQ : Hid _ := rQuo_num hN hD (by omega) (by omega) hq0.out
  generalize p.tdiv q = A at *
  generalize p.tmod q = B at *
  generalize near p q = Z at *
  clear hu hN hp hq hq0
  go_enter Tryz.func100, Tryz.ntmps100
  go_upto_region 1 with fail
  rw [← hW]
  clear hW
  go_wp2_with fail
  refine Calls.mono kQ.out ?_
  rintro e w1 ⟨t1, t2, rfl, hA, hB, b1⟩
  obtain ⟨n3, a3, l3, c3, rfl⟩ := hA.form
  obtain ⟨n4, a4, l4, c4, rfl⟩ := hB.form
  obtain ⟨W1, hW1, b2, ⟨s0, s1, s2, s3⟩, x3⟩ := boxes_b2 w1 n3 a3 l3 c3 n4 a4 l4 c4
  have b12 := bthen b1 b2
  replace hA := hA.next b2
  replace hB := hB.next b2
  replace hD := hD.next b12
  replace x0 := x0.next b12
  replace e0 := keep_cell b12 e0
  replace e1 := keep_cell b12 e1
  replace e2 := keep_cell b12 e2
  replace e3 := keep_cell b12 e3
  have hbB := bthen hbW b12
  have hg1 : w.heap.size ≤ w1.heap.size := (bthen hbW b1).size
  clear kQ b1 b2 b12 hbW
  go_upto_region 2 with fail
  rw [← hW1]
  clear hW1
  generalize w1.heap.size = g1 at *
  go_wp2_with fail
  refine Calls.mono (rAdd_num hB hB (by omega) (by omega)) ?_
  rintro e w2 ⟨t3, rfl, hC, b1⟩
  obtain ⟨n5, a5, l5, c5, rfl⟩ := hC.form
  obtain ⟨W2, hW2, b2, ⟨s4, s5⟩, _⟩ := box_b2 w2 n5 a5 l5 c5
  have b12 := bthen b1 b2
  replace hC := hC.next b2
  replace hA := hA.next b12
  replace hD := hD.next b12
  replace x0 := x0.next b12
  replace x3 := x3.next b12
  replace e0 := keep_cell b12 e0
  replace e1 := keep_cell b12 e1
  replace e2 := keep_cell b12 e2
  replace e3 := keep_cell b12 e3
  replace s0 := keep_cell b12 s0
  replace s1 := keep_cell b12 s1
  replace hbB := bthen hbB b12
  clear hB b1 b2 b12 s2 s3
  go_upto_region 3 with fail
  rw [← hW2]
  clear hW2
  generalize w2.heap.size = g2 at *
  go_wp2_with fail
  refine Calls.mono (rCmp_num hC hD (by omega) (by omega)) ?_
  rintro e w3 ⟨rfl, b1⟩
  replace hA := hA.next b1
  replace x0 := x0.next b1
  replace x3 := x3.next b1
  replace s0 := keep_cell b1 s0
  replace s1 := keep_cell b1 s1
  replace hbB := bthen hbB b1
  clear hC hD b1 e0 e1 e2 e3 s4 s5
  rcases cmpI_cases (B + B) q with ⟨hc, hv⟩ | ⟨hc, hv⟩ | ⟨hc, hv⟩ <;> rw [hv]
  · have hz : Hid _ := hst.out (.inl hc)
    clear hc hv
    obtain ⟨_, _, _, _, j0, j1, f⟩ := x0.cells
    have f0 := f 0
    have f1 := f 1
    clear f
    obtain ⟨V2, hV2, hch2, v7, u0, u1⟩ := put_b2 x0 n3 a3 l3 c3
    have hR : Hid (Rint V2 (.agg #[.bool n3, .slice a3 l3 c3]) Z (m + 3)) := by rw [hz.out]; exact (hA.chg hch2 x0.noint).mono (by omega)
    have hBV2 : Below w.heap.size w V2 := hbB.trans (hch2.below _ (by omega))
    clear hA hbB hch2 v7 x0 x3 hup hst
    go_wp2
    rw [← hV2]
    exact bodyPost_ret (v := .agg #[.bool n3, .slice a3 l3 c3]) (by simp [results, Tryz.results100, go_sem, u0, u1]) rfl ⟨_, rfl, hR.out, hBV2⟩
  · go_wp2_with fail
    refine Calls.mono (rBit_num hA (by omega) 0 (by decide)) ?_
    rintro e w9 ⟨rfl, b1⟩
    replace hA := hA.next b1
    replace x0 := x0.next b1
    replace x3 := x3.next b1
    replace s0 := keep_cell b1 s0
    replace s1 := keep_cell b1 s1
    replace hbB := bthen hbB b1
    clear b1
    by_cases hb : ((A.natAbs : Int) / 2 ^ 0 % 2 = 1)
    · have hz : Hid _ := hup.out (.inr ⟨hc, hb⟩)
      rw [hb]
      clear hc hv hb
      go_upto_region 5 with fail
      have hD0 : Below w9.heap.size w9 w9.drew := (Below.refl _ _).drew
      go_region_with (first
        | (go_at_call 28; refine Calls.mono (rOf_one _) ?_; rintro e w4 ⟨t, rfl, hO, hb4⟩; have hB4 : Below w9.heap.size w9 w4 := bthen hD0 hb4; have p0 := keep_cell hB4 s0; have p1 := keep_cell hB4 s1)
        | (go_at_call 62; refine Calls.mono (rAdd_num (hA.next hB4) hO.rint (by omega) (by decide)) ?_; rintro e w5 ⟨t, rfl, hS, hb5⟩; obtain ⟨n6, a6, l6, c6, rfl⟩ := hS.form; have hB5 : Below w9.heap.size w9 w5 := bthen hB4 hb5; have y3 := x3.next hB5; have y0 := x0.next hB5; obtain ⟨_, _, _, _, j0, j1, f⟩ := y3.cells; have f0 := f 0; have f1 := f 1; clear f))
      all_goals
        obtain ⟨V, hV, hch, v3, v0, v1⟩ := put_b2 y3 n6 a6 l6 c6
        have v5 := y0.chg hch v3
        have hS2 := (hS.chg hch y3.noint).mono (m := m + 3) (by omega)
        have hBV : Below w.heap.size w V := (bthen hbB hB5).trans (hch.below _ hg1)
        clear hO hS hb4 hb5 hB4 hB5 hA x0 x3 s0 s1 p0 p1 y3 y0 hch hbB hD0
        go_upto_region 6 with fail
        rw [← hV]
        clear hV j0 j1 f0 f1
        obtain ⟨_, _, _, _, j0, j1, f⟩ := v5.cells
        have f0 := f 0
        have f1 := f 1
        clear f
        obtain ⟨V2, hV2, hch2, v7, u0, u1⟩ := put_b2 v5 n6 a6 l6 c6
        have hR : Hid (Rint V2 (.agg #[.bool n6, .slice a6 l6 c6]) Z (m + 3)) := by rw [hz.out]; exact hS2.chg hch2 v5.noint
        have hBV2 : Below w.heap.size w V2 := hBV.trans (hch2.below _ (by omega))
        clear hS2 hBV hch2 v7 v5 v3 hup hst
        go_wp2
        rw [← hV2]
        exact bodyPost_ret (v := .agg #[.bool n6, .slice a6 l6 c6]) (by simp [results, Tryz.results100, go_sem, u0, u1]) rfl ⟨_, rfl, hR.out, hBV2⟩
    · have hz : Hid _ := hst.out (.inr ⟨hc, hb⟩)
      have hb0 : ((A.natAbs : Int) / 2 ^ 0 % 2 = 0) := by omega
      rw [hb0]
      clear hc hv hb hb0
      obtain ⟨_, _, _, _, j0, j1, f⟩ := x0.cells
      have f0 := f 0
      have f1 := f 1
      clear f
      obtain ⟨V2, hV2, hch2, v7, u0, u1⟩ := put_b2 x0 n3 a3 l3 c3
      have hR : Hid (Rint V2 (.agg #[.bool n3, .slice a3 l3 c3]) Z (m + 3)) := by rw [hz.out]; exact (hA.chg hch2 x0.noint).mono (by omega)
      have hBV2 : Below w.heap.size w V2 := hbB.trans (hch2.below _ (by omega))
      clear hA hbB hch2 v7 x0 x3 hup hst
      go_wp2
      rw [← hV2]
      exact bodyPost_ret (v := .agg #[.bool n3, .slice a3 l3 c3]) (by simp [results, Tryz.results100, go_sem, u0, u1]) rfl ⟨_, rfl, hR.out, hBV2⟩
  · have hz : Hid _ := hup.out (.inl hc)
    clear hc hv
    go_upto_region 5 with fail
    have hD0 : Below w3.heap.size w3 w3.drew := (Below.refl _ _).drew
    go_region_with (first
      | (go_at_call 28; refine Calls.mono (rOf_one _) ?_; rintro e w4 ⟨t, rfl, hO, hb4⟩; have hB4 : Below w3.heap.size w3 w4 := bthen hD0 hb4; have p0 := keep_cell hB4 s0; have p1 := keep_cell hB4 s1)
      | (go_at_call 62; refine Calls.mono (rAdd_num (hA.next hB4) hO.rint (by omega) (by decide)) ?_; rintro e w5 ⟨t, rfl, hS, hb5⟩; obtain ⟨n6, a6, l6, c6, rfl⟩ := hS.form; have hB5 : Below w3.heap.size w3 w5 := bthen hB4 hb5; have y3 := x3.next hB5; have y0 := x0.next hB5; obtain ⟨_, _, _, _, j0, j1, f⟩ := y3.cells; have f0 := f 0; have f1 := f 1; clear f))
    all_goals
      obtain ⟨V, hV, hch, v3, v0, v1⟩ := put_b2 y3 n6 a6 l6 c6
      have v5 := y0.chg hch v3
      have hS2 := (hS.chg hch y3.noint).mono (m := m + 3) (by omega)
      have hBV : Below w.heap.size w V := (bthen hbB hB5).trans (hch.below _ hg1)
      clear hO hS hb4 hb5 hB4 hB5 hA x0 x3 s0 s1 p0 p1 y3 y0 hch hbB hD0
      go_upto_region 6 with fail
      rw [← hV]
      clear hV j0 j1 f0 f1
      obtain ⟨_, _, _, _, j0, j1, f⟩ := v5.cells
      have f0 := f 0
      have f1 := f 1
      clear f
      obtain ⟨V2, hV2, hch2, v7, u0, u1⟩ := put_b2 v5 n6 a6 l6 c6
      have hR : Hid (Rint V2 (.agg #[.bool n6, .slice a6 l6 c6]) Z (m + 3)) := by rw [hz.out]; exact hS2.chg hch2 v5.noint
      have hBV2 : Below w.heap.size w V2 := hBV.trans (hch2.below _ (by omega))
      clear hS2 hBV hch2 v7 v5 v3 hup hst
      go_wp2
      rw [← hV2]
      exact bodyPost_ret (v := .agg #[.bool n6, .slice a6 l6 c6]) (by simp [results, Tryz.results100, go_sem, u0, u1]) rfl ⟨_, rfl, hR.out, hBV2⟩
end Go.Proofs.YtmpefgemlpnbiaaGreat
namespace Go.Proofs.YtmpefgemlpnbiaaGreat
set_option linter.unusedVariables false
open Go.RowKit
attribute [local go_sem ↓] Go.wp_at_zero Go.wp_at_succ
theorem near_mul {y z k : Int} (hk : 0 < k) : near (y * k) (z * k) = near y z := by
  unfold near
  rw [Int.mul_comm y k, Int.mul_comm z k, Int.mul_emod_mul_of_pos y z hk, Int.mul_ediv_mul_of_pos y z hk]
  have e1 : k * z < 2 * (k * (y % z)) ↔ z < 2 * (y % z) := by
    rw [show 2 * (k * (y % z)) = k * (2 * (y % z)) from by grind]
    exact ⟨fun h => Int.lt_of_mul_lt_mul_left h (by omega), fun h => Int.mul_lt_mul_of_pos_left h hk⟩
  have e2 : 2 * (k * (y % z)) = k * z ↔ 2 * (y % z) = z := by
    rw [show 2 * (k * (y % z)) = k * (2 * (y % z)) from by grind]
    exact ⟨fun h => Int.eq_of_mul_eq_mul_left (by omega) h, fun h => by rw [h]⟩
  simp only [e1, e2]
theorem near_low {n d p q : Int} (hd : 0 < d) (h : Low n d p q) : near p q = near n d := by
  have e1 := near_mul (y := p) (z := q) hd
  have e2 := near_mul (y := n) (z := d) h.1
  rw [← e1, ← e2, h.2.2, Int.mul_comm q d]
theorem low_pos {n d p q : Int} (hd : 0 < d) (hn : 0 ≤ n) (h : Low n d p q) : 0 ≤ p := by
  have e := h.2.2
  have h1 : 0 ≤ n * q := Int.mul_nonneg hn (Int.le_of_lt h.1)
  by_cases hp : 0 ≤ p
  · exact hp
  · have := Int.mul_neg_of_neg_of_pos (show p < 0 by omega) hd
    omega
theorem cmp_pow {p q g P Q : Int} (h : Low (scN 1 (-g)) (scD 1 (-g)) P Q) : p * Q < P * q ↔ scN p g < scD q g := by
  have hD := scD_pos (z := 1) (by decide) (-g)
  have e1 : p * Q < P * q ↔ p * scD 1 (-g) < scN 1 (-g) * q := by
    have e := h.2.2
    have a1 : p * Q * scD 1 (-g) = p * scD 1 (-g) * Q := by grind
    have a2 : P * q * scD 1 (-g) = scN 1 (-g) * q * Q := by
      have : P * q * scD 1 (-g) = P * scD 1 (-g) * q := by grind
      rw [this, e]; grind
    constructor
    · intro k
      have := Int.mul_lt_mul_of_pos_right k hD
      rw [a1, a2] at this
      exact Int.lt_of_mul_lt_mul_right this (Int.le_of_lt h.1)
    · intro k
      have := Int.mul_lt_mul_of_pos_right k h.1
      rw [← a1, ← a2] at this
      exact Int.lt_of_mul_lt_mul_right this (Int.le_of_lt hD)
  rw [e1]
  unfold scN scD
  by_cases h1 : g < 0
  · rw [if_neg (by omega), if_neg (by omega), if_pos h1, if_pos h1, Int.one_mul, Int.one_mul]
  · by_cases h2 : -g < 0
    · rw [if_pos h2, if_pos h2, if_neg h1, if_neg h1, Int.one_mul, Int.mul_one, Int.neg_neg, Int.mul_comm q]
    · obtain rfl : g = 0 := by omega
      simp
theorem Rint.bound {w : World} {v : Value} {z : Int} {m : Nat} (h : Rint w v z m) : (z.natAbs : Int) < 65536 ^ m := by
  obtain ⟨neg, a, cap, ds, hv, hr, hn, he, hl⟩ := h
  have h1 := val_lt (B := 65536) (by decide) hr.words
  have h2 := pow_mono (B := 65536) (by decide) hl
  have h3 := val_nonneg (B := 65536) (by decide) hr.words
  have h4 : (z.natAbs : Int) = Go.Proofs.YtmpefgemlpnbiaaGreat.val 65536 ds := by subst he; cases neg <;> simp [Go.Proofs.YtmpefgemlpnbiaaGreat.num] <;> omega
  omega
theorem bits_le16 {y : Int} {L m : Nat} (hb : HasBits (y.natAbs : Int) L) (h : (y.natAbs : Int) < 65536 ^ m) : L ≤ 16 * m := by
  rcases hb.2 with h0 | h0
  · omega
  · by_cases hc : L ≤ 16 * m
    · exact hc
    · have h1 : (2 : Int) ^ (16 * m) ≤ 2 ^ (L - 1) := pow_le2 (by omega)
      rw [show (65536 : Int) = 2 ^ 16 from by decide, ← Int.pow_mul] at h
      omega
/-- The second road's rounding: units, their exponent, no infinity. -/
def RoundR (p q dg least most : Int) (w : World) (v : Value) : Prop :=
  ∃ (x : Int) (t : Value) (L : Nat), IsExp p q x ∧ HasBits (near (scN p (max (x - (dg - 1)) least)) (scD q (max (x - (dg - 1)) least))) L ∧ v = .tuple #[t, .int .i64 (max (x - (dg - 1)) least), .bool (decide ((L : Int) + max (x - (dg - 1)) least ≤ most))] ∧ Rint w t (near (scN p (max (x - (dg - 1)) least)) (scD q (max (x - (dg - 1)) least))) 390
theorem roundR_of {p q dg least most : Int} {w : World} {x U : Int} {t : Value} {L : Nat} (hU : U = max (x - (dg - 1)) least) (h : IsExp p q x) (hL : HasBits (near (scN p U) (scD q U)) L) (hR : Rint w t (near (scN p U) (scD q U)) 390) {k : Bool} (hk : k = decide ((L : Int) + U ≤ most)) : RoundR p q dg least most w (.tuple #[t, .int .i64 U, .bool k]) := by
  subst hU
  subst hk
  exact ⟨x, t, L, h, hL, rfl, hR⟩
set_option maxRecDepth 20000 in
set_option maxHeartbeats 8000000 in
theorem roundR_num {w : World} {u : Value} {p q : Int} (hu : RatR w u p q 145) (hp : 0 < p) (hq : 0 < q) (dg least most : Int) (hdg : 2 ≤ dg ∧ dg ≤ 60) (hle : -1100 ≤ least ∧ least ≤ 0) (hmo : 0 ≤ most ∧ most ≤ 1100) :
    Calls Tryz.prog 57 #[u, .int .i64 dg, .int .i64 least, .int .i64 most] w fun e w' => ∃ v, e = .returned v ∧ RoundR p q dg least most w' v ∧ Below w.heap.size w w' := by
  obtain ⟨n1, a1, l1, c1, n2, a2, l2, c2, rfl⟩ := hu.form
  obtain ⟨W, hW, hbW, ⟨e0, e1, e2, e3⟩, x0⟩ := boxes_near w n1 a1 l1 c1 n2 a2 l2 c2
  have hR := hu.next hbW
  obtain ⟨hN, hD⟩ := hR.parts
  have bN : Hid _ := hN.bound
  have bD : Hid _ := hD.bound
  have hD0 : Below W.heap.size W W.drew := (Below.refl _ _).drew
  clear hu
  go_enter Tryz.func57, Tryz.ntmps57
  go_upto_region 1 with fail
  rw [← hW]
  clear hW
  go_cut [11] from 14 (fun x wc => ∃ L M : Nat, x = .int .i64 ((L : Int) - M) ∧ Hid (HasBits (p.natAbs : Int) L) ∧ Hid (HasBits (q.natAbs : Int) M) ∧ Below W.heap.size W wc)
  case first =>
    clear hR
    go_region_with (first
      | (go_at_call_of 98 (Value.slice a1 l1 c1); refine Calls.mono (rBits_num (hN.next hD0) (by decide)) ?_; rintro e w2 ⟨L, rfl, hL, hb2⟩; have hL1 := bits_le16 hL bN.out; have hB2 : Below W.heap.size W w2 := bthen hD0 hb2; have p0 := keep_cell hB2 e0; have p1 := keep_cell hB2 e1; have p2 := keep_cell hB2 e2; have p3 := keep_cell hB2 e3; replace hL : Hid _ := hL)
      | (go_at_call_of 98 (Value.slice a2 l2 c2); refine Calls.mono (rBits_num (hD.next hB2) (by decide)) ?_; rintro e w3 ⟨M, rfl, hM, hb3⟩; have hM1 := bits_le16 hM bD.out; have hB3 : Below W.heap.size W w3 := bthen hB2 hb3; replace hM : Hid _ := hM))
    all_goals
      go_wp2_with fail
      go_meet
      case rel => exact ⟨L, M, by rw [IntKind.wrap_i64]; congr 1; omega, hL, hM, hB3⟩
  case rest =>
    obtain ⟨L, M, rfl, hL, hM, hb3⟩ := hcut
    have hL1 := bits_le16 hL.out bN.out
    have hM1 := bits_le16 hM.out bD.out
    generalize wc = W3 at *
    replace e0 := keep_cell hb3 e0
    replace e1 := keep_cell hb3 e1
    replace e2 := keep_cell hb3 e2
    replace e3 := keep_cell hb3 e3
    replace x0 := x0.next hb3
    replace hR := hR.next hb3
    have hB := bthen hbW hb3
    clear hb3 hbW hD0 bN bD hN hD
    have hL0 : 0 < L := by
      rcases Nat.eq_zero_or_pos L with h | h
      · subst h; have := hL.out.1; simp at this; omega
      · exact h
    have hM0 : 0 < M := by
      rcases Nat.eq_zero_or_pos M with h | h
      · subst h; have := hM.out.1; simp at this; omega
      · exact h
    have hy1 : 2 ^ (L - 1) ≤ p ∧ p < 2 ^ L := by
      obtain ⟨h1, h2⟩ := hL.out
      rw [show (p.natAbs : Int) = p from by omega] at h1 h2
      exact ⟨by rcases h2 with h | h; · omega
                · exact h, h1⟩
    have hz1 : 2 ^ (M - 1) ≤ q ∧ q < 2 ^ M := by
      obtain ⟨h1, h2⟩ := hM.out
      rw [show (q.natAbs : Int) = q from by omega] at h1 h2
      exact ⟨by rcases h2 with h | h; · omega
                · exact h, h1⟩
    have hexp : Hid _ := isExp_guess hy1.1 hy1.2 hL0 hz1.1 hz1.2 hM0 _ rfl
    clear hL hM hy1 hz1
    generalize hg : (L : Int) - M = g at *
    have hg1 : -2320 ≤ g ∧ g ≤ 2320 := by omega
    clear hg hL0 hM0 hL1 hM1
    have hD0 : Below W3.heap.size W3 W3.drew := (Below.refl _ _).drew
    have kS : Hid (∀ (w : World) (t : Value), RatR w t 1 1 2 → Calls Tryz.prog 61 #[t, .int .i64 g] w fun e w' => ∃ t, e = .returned t ∧ LowR w' t (scN 1 (-g)) (scD 1 (-g)) 384 ∧ Below w.heap.size w w') := fun w t h => scaled_num (h.more (by decide)) (by decide) g (by omega) (by omega)
    have kC : Hid (∀ (w : World) (t t' : Value), RatR w t p q 145 → LowR w t' (scN 1 (-g)) (scD 1 (-g)) 384 → Calls Tryz.prog 99 #[t, t'] w fun e w' => ∃ c : Int, e = .returned (.int .i64 c) ∧ -1 ≤ c ∧ c ≤ 1 ∧ Hid (c < 0 ↔ scN p g < scD q g) ∧ Below w.heap.size w w') := fun w t t' h h' => by
      obtain ⟨P, Q, hP, hl⟩ := h'
      refine (CmpRat_num (h.more (k := 384) (by decide)) hP (by decide)).mono ?_
      rintro e w' ⟨rfl, hb⟩
      refine ⟨_, rfl, (cmpI_rng _ _).1, (cmpI_rng _ _).2, ?_, hb⟩
      show _ ↔ _
      rw [← cmp_pow hl]
      rcases cmpI_cases (p * Q) (P * q) with ⟨a, b⟩ | ⟨a, b⟩ | ⟨a, b⟩ <;> rw [b] <;> omega
    go_upto_region 2 with fail
    go_cut [27] from 14 (fun v wc => ∃ c : Int, v = .bool (decide (c < 0)) ∧ Hid (c < 0 ↔ scN p g < scD q g) ∧ Below W3.heap.size W3 wc)
    case first =>
      go_region_with (first
        | (go_at_call 28; refine Calls.mono (rOf_one _) ?_; rintro e w4 ⟨t, rfl, hO, hb4⟩; have hB4 : Below W3.heap.size W3 w4 := bthen hD0 hb4; have p0 := keep_cell hB4 e0; have p1 := keep_cell hB4 e1; have p2 := keep_cell hB4 e2; have p3 := keep_cell hB4 e3)
        | (go_at_call 27; refine Calls.mono (rWhole_num hO.rint) ?_; rintro e w5 ⟨t, rfl, hQ, hb5⟩; have hB5 : Below W3.heap.size W3 w5 := bthen hB4 hb5; have q0 := keep_cell hB5 e0; have q1 := keep_cell hB5 e1; have q2 := keep_cell hB5 e2; have q3 := keep_cell hB5 e3)
        | (go_at_call 61; refine Calls.mono (kS.out _ _ hQ) ?_; rintro e w6 ⟨t, rfl, hS, hb6⟩; have hB6 : Below W3.heap.size W3 w6 := bthen hB5 hb6; have o0 := keep_cell hB6 e0; have o1 := keep_cell hB6 e1; have o2 := keep_cell hB6 e2; have o3 := keep_cell hB6 e3)
        | (go_at_call 99; refine Calls.mono (kC.out _ _ _ (hR.next hB6) hS) ?_; rintro e w7 ⟨c, rfl, hc1, hc2, hc, hb7⟩; have hB7 : Below W3.heap.size W3 w7 := bthen hB6 hb7))
      all_goals
        clear hO hQ hS hb4 hb5 hb6 hb7
        go_wp2_with fail
        go_meet
        case rel => exact ⟨c, rfl, hc, hB7⟩
    case rest =>
      obtain ⟨c, rfl, hc, hb3⟩ := hcut
      generalize wc = W4 at *
      replace e0 := keep_cell hb3 e0
      replace e1 := keep_cell hb3 e1
      replace e2 := keep_cell hb3 e2
      replace e3 := keep_cell hb3 e3
      replace x0 := x0.next hb3
      replace hR := (hR.next hb3).more (k := 190) (by decide)
      replace hB := bthen hB hb3
      clear hb3 hD0 kS kC
      have kL : Hid (∀ U : Int, -2400 ≤ U → U ≤ 2400 → ∀ (w : World) (t : Value), RatR w t p q 190 → Calls Tryz.prog 61 #[t, .int .i64 (-U)] w fun e w' => ∃ t, e = .returned t ∧ LowR w' t (scN p U) (scD q U) 384 ∧ Below w.heap.size w w') := fun U h1 h2 w t h => by
        have := scaled_num h hq (-U) (by omega) (by omega)
        rw [Int.neg_neg] at this
        exact this
      have kM : Hid (∀ U : Int, ∀ (w : World) (t : Value), LowR w t (scN p U) (scD q U) 384 → Calls Tryz.prog 100 #[t] w fun e w' => ∃ t, e = .returned t ∧ Rint w' t (near (scN p U) (scD q U)) 390 ∧ Below w.heap.size w w') := fun U w t h => by
        obtain ⟨P, Q, hP, hl⟩ := h
        have hd := scD_pos hq U
        have := nearR_num hP (low_pos hd (scN_nonneg (by omega) U) hl) hl.1 (by decide)
        rw [near_low hd hl] at this
        refine this.mono ?_
        rintro e w' ⟨t, rfl, hr, hb⟩
        exact ⟨t, rfl, hr.mono (by decide), hb⟩
      have kA : Hid (∀ U : Int, 0 ≤ near (scN p U) (scD q U)) := fun U => (near_le (scN_nonneg (by omega) U) (scD_pos hq U)).1
      have kF : Hid (∀ (w : World) (x U : Int) (t : Value) (L : Nat) (k : Bool), U = max (x - (dg - 1)) least → IsExp p q x → HasBits (near (scN p U) (scD q U)) L → Rint w t (near (scN p U) (scD q U)) 390 → k = decide ((L : Int) + U ≤ most) → RoundR p q dg least most w (.tuple #[t, .int .i64 U, .bool k])) := fun w x U t L k h1 h2 h3 h4 h5 => roundR_of h1 h2 h3 h4 h5
      by_cases hcc : c < 0
      · have hx : Hid _ := hexp.out.2 (hc.out.1 hcc)
        obtain ⟨x, hxe⟩ : ∃ x, g - 1 = x := ⟨_, rfl⟩
        rw [hxe] at hx
        have hxb : -2321 ≤ x ∧ x ≤ 2320 := by omega
        clear hexp hc
        by_cases hlt : x - dg + 1 < least
        · have hwU : IntKind.i64.wrap (-(least)) = -(least) := by rw [IntKind.wrap_i64]; omega
          go_wp2_with fail
          refine Calls.mono (kL.out (least) (by omega) (by omega) _ _ hR) ?_
          rintro e w5 ⟨t5, rfl, hS, b5⟩
          go_wp2_with fail
          refine Calls.mono (kM.out (least) _ _ hS) ?_
          rintro e w6 ⟨t6, rfl, hT, b6⟩
          obtain ⟨n3, a3, l3, c3, rfl⟩ := hT.form
          obtain ⟨W6, hW6, b7, ⟨s0, s1⟩, _⟩ := box_b2 w6 n3 a3 l3 c3
          have b57 := bthen (bthen b5 b6) b7
          replace hT := hT.next b7
          replace x0 := x0.next b57
          replace hB := bthen hB b57
          have hA0 := kA.out (least)
          have hmk : Hid _ := fun w L k h1 h2 h3 => kF.out w x (least) (.agg #[.bool n3, .slice a3 l3 c3]) L k (by omega) hx.out h1 h2 h3
          generalize hNN : near (scN p (least)) (scD q (least)) = NN at *
          replace hNN : Hid _ := hNN
          clear hS hR b5 b6 b7 b57 kL kM kA kF e0 e1 e2 e3
          go_upto_region 8 with fail
          rw [← hW6]
          clear hW6
          generalize w6.heap.size = g6 at *
          go_wp2_with fail
          refine Calls.mono (rBits_num hT (by decide)) ?_
          rintro e w7 ⟨L7, rfl, hL7, b8⟩
          have hl7 := bits_le16 hL7 hT.bound
          rw [show (NN.natAbs : Int) = NN from by omega] at hL7
          replace hL7 : Hid _ := hL7
          replace hT := hT.next b8
          replace x0 := x0.next b8
          replace s0 := keep_cell b8 s0
          replace s1 := keep_cell b8 s1
          replace hB := bthen hB b8
          obtain ⟨_, _, _, _, j0, j1, f⟩ := x0.cells
          have f0 := f 0
          have f1 := f 1
          clear f
          obtain ⟨V2, hV2, hch2, v7, u0, u1⟩ := put_b2 x0 n3 a3 l3 c3
          have hBV2 : Below w.heap.size w V2 := hB.trans (hch2.below _ (by omega))
          have hTV : Hid _ := hT.chg hch2 x0.noint
          clear hT hB hch2 v7 x0 b8 hNN
          by_cases ho : (L7 : Int) + (least) > most
          · have hres : Hid _ := hmk.out V2 L7 false hL7.out hTV.out (by symm; simp; omega)
            clear hmk hL7 hTV
            go_wp2
            rw [← hV2]
            exact bodyPost_ret (v := .tuple #[.agg #[.bool n3, .slice a3 l3 c3], .int .i64 (least), .bool false]) (by simp [results, Tryz.results57, go_sem, u0, u1]) rfl ⟨_, rfl, hres.out, hBV2⟩
          · have hres : Hid _ := hmk.out V2 L7 true hL7.out hTV.out (by symm; simp; omega)
            clear hmk hL7 hTV
            go_wp2
            rw [← hV2]
            exact bodyPost_ret (v := .tuple #[.agg #[.bool n3, .slice a3 l3 c3], .int .i64 (least), .bool true]) (by simp [results, Tryz.results57, go_sem, u0, u1]) rfl ⟨_, rfl, hres.out, hBV2⟩
        · have hwU : IntKind.i64.wrap (-(x - dg + 1)) = -(x - dg + 1) := by rw [IntKind.wrap_i64]; omega
          go_wp2_with fail
          refine Calls.mono (kL.out (x - dg + 1) (by omega) (by omega) _ _ hR) ?_
          rintro e w5 ⟨t5, rfl, hS, b5⟩
          go_wp2_with fail
          refine Calls.mono (kM.out (x - dg + 1) _ _ hS) ?_
          rintro e w6 ⟨t6, rfl, hT, b6⟩
          obtain ⟨n3, a3, l3, c3, rfl⟩ := hT.form
          obtain ⟨W6, hW6, b7, ⟨s0, s1⟩, _⟩ := box_b2 w6 n3 a3 l3 c3
          have b57 := bthen (bthen b5 b6) b7
          replace hT := hT.next b7
          replace x0 := x0.next b57
          replace hB := bthen hB b57
          have hA0 := kA.out (x - dg + 1)
          have hmk : Hid _ := fun w L k h1 h2 h3 => kF.out w x (x - dg + 1) (.agg #[.bool n3, .slice a3 l3 c3]) L k (by omega) hx.out h1 h2 h3
          generalize hNN : near (scN p (x - dg + 1)) (scD q (x - dg + 1)) = NN at *
          replace hNN : Hid _ := hNN
          clear hS hR b5 b6 b7 b57 kL kM kA kF e0 e1 e2 e3
          go_upto_region 8 with fail
          rw [← hW6]
          clear hW6
          generalize w6.heap.size = g6 at *
          go_wp2_with fail
          refine Calls.mono (rBits_num hT (by decide)) ?_
          rintro e w7 ⟨L7, rfl, hL7, b8⟩
          have hl7 := bits_le16 hL7 hT.bound
          rw [show (NN.natAbs : Int) = NN from by omega] at hL7
          replace hL7 : Hid _ := hL7
          replace hT := hT.next b8
          replace x0 := x0.next b8
          replace s0 := keep_cell b8 s0
          replace s1 := keep_cell b8 s1
          replace hB := bthen hB b8
          obtain ⟨_, _, _, _, j0, j1, f⟩ := x0.cells
          have f0 := f 0
          have f1 := f 1
          clear f
          obtain ⟨V2, hV2, hch2, v7, u0, u1⟩ := put_b2 x0 n3 a3 l3 c3
          have hBV2 : Below w.heap.size w V2 := hB.trans (hch2.below _ (by omega))
          have hTV : Hid _ := hT.chg hch2 x0.noint
          clear hT hB hch2 v7 x0 b8 hNN
          by_cases ho : (L7 : Int) + (x - dg + 1) > most
          · have hres : Hid _ := hmk.out V2 L7 false hL7.out hTV.out (by symm; simp; omega)
            clear hmk hL7 hTV
            go_wp2
            rw [← hV2]
            exact bodyPost_ret (v := .tuple #[.agg #[.bool n3, .slice a3 l3 c3], .int .i64 (x - dg + 1), .bool false]) (by simp [results, Tryz.results57, go_sem, u0, u1]) rfl ⟨_, rfl, hres.out, hBV2⟩
          · have hres : Hid _ := hmk.out V2 L7 true hL7.out hTV.out (by symm; simp; omega)
            clear hmk hL7 hTV
            go_wp2
            rw [← hV2]
            exact bodyPost_ret (v := .tuple #[.agg #[.bool n3, .slice a3 l3 c3], .int .i64 (x - dg + 1), .bool true]) (by simp [results, Tryz.results57, go_sem, u0, u1]) rfl ⟨_, rfl, hres.out, hBV2⟩
      · have hx : Hid _ := hexp.out.1 (by have := hc.out; omega)
        clear hexp hc
        by_cases hlt : g - dg + 1 < least
        · have hwU : IntKind.i64.wrap (-(least)) = -(least) := by rw [IntKind.wrap_i64]; omega
          go_wp2_with fail
          refine Calls.mono (kL.out (least) (by omega) (by omega) _ _ hR) ?_
          rintro e w5 ⟨t5, rfl, hS, b5⟩
          go_wp2_with fail
          refine Calls.mono (kM.out (least) _ _ hS) ?_
          rintro e w6 ⟨t6, rfl, hT, b6⟩
          obtain ⟨n3, a3, l3, c3, rfl⟩ := hT.form
          obtain ⟨W6, hW6, b7, ⟨s0, s1⟩, _⟩ := box_b2 w6 n3 a3 l3 c3
          have b57 := bthen (bthen b5 b6) b7
          replace hT := hT.next b7
          replace x0 := x0.next b57
          replace hB := bthen hB b57
          have hA0 := kA.out (least)
          have hmk : Hid _ := fun w L k h1 h2 h3 => kF.out w g (least) (.agg #[.bool n3, .slice a3 l3 c3]) L k (by omega) hx.out h1 h2 h3
          generalize hNN : near (scN p (least)) (scD q (least)) = NN at *
          replace hNN : Hid _ := hNN
          clear hS hR b5 b6 b7 b57 kL kM kA kF e0 e1 e2 e3
          go_upto_region 8 with fail
          rw [← hW6]
          clear hW6
          generalize w6.heap.size = g6 at *
          go_wp2_with fail
          refine Calls.mono (rBits_num hT (by decide)) ?_
          rintro e w7 ⟨L7, rfl, hL7, b8⟩
          have hl7 := bits_le16 hL7 hT.bound
          rw [show (NN.natAbs : Int) = NN from by omega] at hL7
          replace hL7 : Hid _ := hL7
          replace hT := hT.next b8
          replace x0 := x0.next b8
          replace s0 := keep_cell b8 s0
          replace s1 := keep_cell b8 s1
          replace hB := bthen hB b8
          obtain ⟨_, _, _, _, j0, j1, f⟩ := x0.cells
          have f0 := f 0
          have f1 := f 1
          clear f
          obtain ⟨V2, hV2, hch2, v7, u0, u1⟩ := put_b2 x0 n3 a3 l3 c3
          have hBV2 : Below w.heap.size w V2 := hB.trans (hch2.below _ (by omega))
          have hTV : Hid _ := hT.chg hch2 x0.noint
          clear hT hB hch2 v7 x0 b8 hNN
          by_cases ho : (L7 : Int) + (least) > most
          · have hres : Hid _ := hmk.out V2 L7 false hL7.out hTV.out (by symm; simp; omega)
            clear hmk hL7 hTV
            go_wp2
            rw [← hV2]
            exact bodyPost_ret (v := .tuple #[.agg #[.bool n3, .slice a3 l3 c3], .int .i64 (least), .bool false]) (by simp [results, Tryz.results57, go_sem, u0, u1]) rfl ⟨_, rfl, hres.out, hBV2⟩
          · have hres : Hid _ := hmk.out V2 L7 true hL7.out hTV.out (by symm; simp; omega)
            clear hmk hL7 hTV
            go_wp2
            rw [← hV2]
            exact bodyPost_ret (v := .tuple #[.agg #[.bool n3, .slice a3 l3 c3], .int .i64 (least), .bool true]) (by simp [results, Tryz.results57, go_sem, u0, u1]) rfl ⟨_, rfl, hres.out, hBV2⟩
        · have hwU : IntKind.i64.wrap (-(g - dg + 1)) = -(g - dg + 1) := by rw [IntKind.wrap_i64]; omega
          go_wp2_with fail
          refine Calls.mono (kL.out (g - dg + 1) (by omega) (by omega) _ _ hR) ?_
          rintro e w5 ⟨t5, rfl, hS, b5⟩
          go_wp2_with fail
          refine Calls.mono (kM.out (g - dg + 1) _ _ hS) ?_
          rintro e w6 ⟨t6, rfl, hT, b6⟩
          obtain ⟨n3, a3, l3, c3, rfl⟩ := hT.form
          obtain ⟨W6, hW6, b7, ⟨s0, s1⟩, _⟩ := box_b2 w6 n3 a3 l3 c3
          have b57 := bthen (bthen b5 b6) b7
          replace hT := hT.next b7
          replace x0 := x0.next b57
          replace hB := bthen hB b57
          have hA0 := kA.out (g - dg + 1)
          have hmk : Hid _ := fun w L k h1 h2 h3 => kF.out w g (g - dg + 1) (.agg #[.bool n3, .slice a3 l3 c3]) L k (by omega) hx.out h1 h2 h3
          generalize hNN : near (scN p (g - dg + 1)) (scD q (g - dg + 1)) = NN at *
          replace hNN : Hid _ := hNN
          clear hS hR b5 b6 b7 b57 kL kM kA kF e0 e1 e2 e3
          go_upto_region 8 with fail
          rw [← hW6]
          clear hW6
          generalize w6.heap.size = g6 at *
          go_wp2_with fail
          refine Calls.mono (rBits_num hT (by decide)) ?_
          rintro e w7 ⟨L7, rfl, hL7, b8⟩
          have hl7 := bits_le16 hL7 hT.bound
          rw [show (NN.natAbs : Int) = NN from by omega] at hL7
          replace hL7 : Hid _ := hL7
          replace hT := hT.next b8
          replace x0 := x0.next b8
          replace s0 := keep_cell b8 s0
          replace s1 := keep_cell b8 s1
          replace hB := bthen hB b8
          obtain ⟨_, _, _, _, j0, j1, f⟩ := x0.cells
          have f0 := f 0
          have f1 := f 1
          clear f
          obtain ⟨V2, hV2, hch2, v7, u0, u1⟩ := put_b2 x0 n3 a3 l3 c3
          have hBV2 : Below w.heap.size w V2 := hB.trans (hch2.below _ (by omega))
          have hTV : Hid _ := hT.chg hch2 x0.noint
          clear hT hB hch2 v7 x0 b8 hNN
          by_cases ho : (L7 : Int) + (g - dg + 1) > most
          · have hres : Hid _ := hmk.out V2 L7 false hL7.out hTV.out (by symm; simp; omega)
            clear hmk hL7 hTV
            go_wp2
            rw [← hV2]
            exact bodyPost_ret (v := .tuple #[.agg #[.bool n3, .slice a3 l3 c3], .int .i64 (g - dg + 1), .bool false]) (by simp [results, Tryz.results57, go_sem, u0, u1]) rfl ⟨_, rfl, hres.out, hBV2⟩
          · have hres : Hid _ := hmk.out V2 L7 true hL7.out hTV.out (by symm; simp; omega)
            clear hmk hL7 hTV
            go_wp2
            rw [← hV2]
            exact bodyPost_ret (v := .tuple #[.agg #[.bool n3, .slice a3 l3 c3], .int .i64 (g - dg + 1), .bool true]) (by simp [results, Tryz.results57, go_sem, u0, u1]) rfl ⟨_, rfl, hres.out, hBV2⟩
end Go.Proofs.YtmpefgemlpnbiaaGreat
namespace Go.Proofs.YtmpefgemlpnbiaaGreat
set_option linter.unusedVariables false
open Go.RowKit
attribute [local go_sem ↓] Go.wp_at_zero Go.wp_at_succ
theorem half_step (n i : Nat) : 2 * (n / 2 ^ (i + 1)) + n / 2 ^ i % 2 = n / 2 ^ i := by
  rw [Nat.pow_succ, ← Nat.div_div_eq_div_mul]
  omega
theorem half_step' (n i : Nat) : ((n : Int) / 2 ^ i % 2) = ((n / 2 ^ i % 2 : Nat) : Int) := by
  rw [Int.natCast_emod, Int.natCast_ediv, Int.natCast_pow]
  rfl
theorem bits_len {n L : Nat} (h : HasBits (n : Int) L) : n / 2 ^ L = 0 := by
  apply Nat.div_eq_of_lt
  have := h.1
  exact_mod_cast this
set_option maxRecDepth 20000 in
set_option maxHeartbeats 4000000 in
theorem value_num {w : World} {u : Value} {n m : Nat} (hu : Rint w u (n : Int) m) (hm : m ≤ 1000) (hn : n ≤ 9007199254740992) (unit : Int) (z : Nat)
    (kL : ∀ w, Calls Tryz.prog 102 #[.float .f64 (encI n), .int .i64 unit] w fun e w' => e = .returned (.float .f64 z) ∧ w' = w) :
    Calls Tryz.prog 58 #[u, .int .i64 unit] w fun e w' => e = .returned (.float .f64 z) ∧ Below w.heap.size w w' := by
  obtain ⟨n1, a1, l1, c1, rfl⟩ := hu.form
  obtain ⟨W, hW, hbW, ⟨e0, e1⟩, _⟩ := box_b2 w n1 a1 l1 c1
  replace hu := hu.next hbW
  replace kL : Hid _ := kL
  have z0 : encI 0 = 0 := rfl
  go_enter Tryz.func58, Tryz.ntmps58
  go_wp2_with fail
  rw [← hW]
  clear hW
  refine Calls.mono (rBits_num hu hm) ?_
  rintro e w1 ⟨L, rfl, hL, b1⟩
  have hl := bits_le16 hL hu.bound
  rw [Int.natAbs_natCast] at hL
  have hL0 := bits_len hL
  replace hL : Hid _ := hL
  replace hL0 : Hid _ := hL0
  replace hu := hu.next b1
  replace e0 := keep_cell b1 e0
  replace e1 := keep_cell b1 e1
  have hB := bthen hbW b1
  clear b1 hbW hL
  go_wp2
  go_loopw [5, 6] (fun f i wr => ∃ k : Nat, k ≤ L ∧ f = .float .f64 (encI (n / 2 ^ k)) ∧ i = .int .i64 ((k : Int) - 1) ∧ Below w1.heap.size w1 wr) (fun _ i _ => (intOf i + 1).toNat)
  case atStart => exact ⟨L, Nat.le_refl _, by rw [hL0.out]; rfl, rfl, Below.refl _ _⟩
  case round =>
    obtain ⟨k, hk, rfl, rfl, hbr⟩ := hrel
    cases k with
    | zero =>
      rw [Nat.pow_zero, Nat.div_one]
      have hBr := bthen hB hbr
      go_wp2_with fail
      refine Calls.mono (kL.out _) ?_
      rintro e w2 ⟨rfl, rfl⟩
      go_wp2
      go_ret
      exact ⟨rfl, hBr⟩
    | succ k =>
      have hb : n / 2 ^ k % 2 < 2 := Nat.mod_lt _ (by decide)
      have hstep := half_step n k
      have hle := Nat.div_le_self n (2 ^ k)
      have hmul := mul_two (n := n / 2 ^ (k + 1)) (by omega)
      have hadd := add_enc (n := 2 * (n / 2 ^ (k + 1))) (b := n / 2 ^ k % 2) (by omega)
      rw [hstep] at hadd
      have hbit := int_bit _ hb
      have kb := rBit_num (hu.next hbr) hm k (by omega)
      rw [Int.natAbs_natCast, half_step'] at kb
      replace kb : Hid _ := kb
      have r0 := keep_cell hbr e0
      have r1 := keep_cell hbr e1
      clear hstep hle hL0
      generalize n / 2 ^ (k + 1) = nh at *
      generalize n / 2 ^ k % 2 = bt at *
      generalize hnk : n / 2 ^ k = nk at *
      replace hnk : Hid _ := hnk
      have hrm : ∀ w, Sem.run Tryz.prog (binOp BinOp.mul 39 (Value.float FloatKind.f64 4611686018427387904) (Value.float FloatKind.f64 (encI nh))) w = .ok (.float .f64 (encI (2 * nh))) w := fun w => run_float_arith w .mul 39 .f64 _ _ _ hmul
      have hra : ∀ w, Sem.run Tryz.prog (binOp BinOp.add 39 (Value.float FloatKind.f64 (encI (2 * nh))) (Value.float FloatKind.f64 (encI bt))) w = .ok (.float .f64 (encI nk)) w := fun w => run_float_arith w .add 39 .f64 _ _ _ hadd
      clear hmul hadd
      go_wp2_with fail
      refine Calls.mono kb.out ?_
      rintro e w2 ⟨rfl, b2⟩
      have hb2 := bthen hbr b2
      go_wp2
      go_roundw
      case rel => exact ⟨k, by omega, by rw [hnk.out], by go_num, hb2⟩
      case measure => simp [intOf]
end Go.Proofs.YtmpefgemlpnbiaaGreat
namespace Go.Proofs.YtmpefgemlpnbiaaGreat
set_option linter.unusedVariables false
open Go.RowKit
attribute [local go_sem ↓] Go.wp_at_zero Go.wp_at_succ
theorem Ldexp_zero (unit : Int) (w : World) : Calls Tryz.prog 102 #[.float .f64 (encI 0), .int .i64 unit] w fun e w' => e = .returned (.float .f64 0) ∧ w' = w := by
  show Calls Tryz.prog 102 #[.float .f64 0, .int .i64 unit] w fun e w' => e = .returned (.float .f64 0) ∧ w' = w
  apply Ldexp_call
  go_enter Tryz.func131, Tryz.ntmps131
  go_wp2
  go_ret
  exact ⟨rfl, rfl⟩
theorem sc_ge {y z e u : Int} (hz : 0 < z) (h : IsExp y z e) {k : Nat} (hu : u + k ≤ e) : scD z u * 2 ^ k ≤ scN y u := by
  obtain ⟨T, h0, h1, h2⟩ := sc_up y z u (e.natAbs + u.natAbs) (by omega)
  rw [isExp_iff y z e (e.natAbs + u.natAbs) (by omega)] at h
  have h3 := h.1
  have h4 : z * 2 ^ ((((e.natAbs + u.natAbs : Nat) : Int) + u).toNat + k) ≤ z * 2 ^ (((e.natAbs + u.natAbs : Nat) : Int) + e).toNat := Int.mul_le_mul_of_nonneg_left (pow_le2 (by omega)) (by omega)
  rw [Int.pow_add, ← Int.mul_assoc, ← h1] at h4
  rw [← h2] at h3
  have h5 := Int.le_trans h4 h3
  refine Int.le_of_mul_le_mul_right (a := T) ?_ h0
  rw [Int.mul_assoc, Int.mul_comm (2 ^ k) T, ← Int.mul_assoc]
  exact h5
theorem near_ge {y z : Int} : y / z ≤ near y z := by unfold near; split <;> omega
/-- The units of a rounding to a double. -/
theorem units64 {p q x U : Int} (hp : 0 < p) (hq : 0 < q) (hx : IsExp p q x) (hU : U = max (x - 52) (-1074)) : 0 ≤ near (scN p U) (scD q U) ∧ near (scN p U) (scD q U) ≤ 9007199254740992 ∧ (U ≠ -1074 → 4503599627370496 ≤ near (scN p U) (scD q U)) := by
  have hS0 := scN_nonneg (y := p) (by omega) U
  have hS1 := scD_pos hq U
  have hlt := sc_lt (k := 53) hq hx (u := U) (by omega)
  have hq' := quo_lt hS1 hlt
  have e53 : (2 : Int) ^ 53 = 9007199254740992 := by decide
  rw [e53] at hq'
  have hn := near_le hS0 hS1
  refine ⟨hn.1, by omega, fun hne => ?_⟩
  have hge := sc_ge (k := 52) hq hx (u := U) (by omega)
  have e52 : (2 : Int) ^ 52 = 4503599627370496 := by decide
  rw [e52] at hge
  have h1 : 4503599627370496 ≤ scN p U / scD q U := by
    rw [Int.le_ediv_iff_mul_le hS1, Int.mul_comm]
    exact hge
  have := near_ge (y := scN p U) (z := scD q U)
  omega
theorem r64_is {p q x U k : Int} (hp : 0 < p) (hq : 0 < q) (hx : IsExp p q x) (hU : U = max (x - 52) (-1074)) (h1 : 971 < U → k = 9218868437227405312) (h2 : U ≤ 971 → k = (U + 1074) * 4503599627370496 + near (scN p U) (scD q U)) : R64 p q k := by
  have hdA : dA q = q := by unfold dA; rw [if_neg (by omega)]; omega
  have hpa : (p.natAbs : Int) = p := by omega
  unfold R64
  rw [hdA, hpa]
  have e52 : (2 : Int) ^ ((53 : Int) - 1).toNat = 4503599627370496 := by decide
  have hM : max (x - (53 - 1)) (-1074) = U := by omega
  refine ⟨fun h => by omega, fun _ => ⟨x, hx, ?_, ?_⟩⟩
  · rw [hM]; exact h1
  · rw [hM, e52]
    intro h
    rw [h2 h]
    congr 2
theorem bits_ge {n : Int} {L m : Nat} (h : HasBits n L) (hn : 2 ^ m ≤ n) : m < L := by
  by_cases hc : m < L
  · exact hc
  · have := pow_le2 (m := L) (n := m) (by omega)
    have := h.1
    omega
theorem bits_lt {n : Int} {L m : Nat} (h : HasBits n L) (hL : m < L) : 2 ^ m ≤ n := by
  rcases h.2 with e | e
  · omega
  · have := pow_le2 (m := m) (n := L - 1) (by omega)
    omega
/-- Where the second road says it is a number. -/
theorem round_yes {p q x U : Int} {L : Nat} (hp : 0 < p) (hq : 0 < q) (hx : IsExp p q x) (hU : U = max (x - 52) (-1074)) (hL : HasBits (near (scN p U) (scD q U)) L) (h : (L : Int) + U ≤ 1024) : U ≤ 971 ∧ (U = 971 → near (scN p U) (scD q U) < 9007199254740992) ∧ R64 p q ((U + 1074) * 4503599627370496 + near (scN p U) (scD q U)) := by
  obtain ⟨n0, n1, n2⟩ := units64 hp hq hx hU
  have hu : U ≤ 971 := by
    by_cases hc : U ≤ 971
    · exact hc
    · have := bits_ge (m := 52) hL (n2 (by omega))
      omega
  refine ⟨hu, fun he => ?_, r64_is hp hq hx hU (fun hc => by omega) (fun _ => rfl)⟩
  by_cases hc : near (scN p U) (scD q U) < 9007199254740992
  · exact hc
  · have := bits_ge (m := 53) hL (show (9007199254740992 : Int) ≤ _ by omega)
    omega
theorem round_no {p q x U : Int} {L : Nat} (hp : 0 < p) (hq : 0 < q) (hx : IsExp p q x) (hU : U = max (x - 52) (-1074)) (hL : HasBits (near (scN p U) (scD q U)) L) (h : ¬ (L : Int) + U ≤ 1024) : R64 p q 9218868437227405312 := by
  obtain ⟨n0, n1, n2⟩ := units64 hp hq hx hU
  refine r64_is hp hq hx hU (fun _ => rfl) (fun hu => ?_)
  have h54 : L ≤ 54 := by
    by_cases hc : L ≤ 54
    · exact hc
    · have : (18014398509481984 : Int) ≤ _ := bits_lt (m := 54) hL (by omega)
      omega
  have h53 : (9007199254740992 : Int) ≤ near (scN p U) (scD q U) := bits_lt (m := 53) hL (by omega)
  have e1 : near (scN p U) (scD q U) = 9007199254740992 := by omega
  have e2 : U = 971 := by omega
  rw [e1, e2]
  decide
end Go.Proofs.YtmpefgemlpnbiaaGreat
namespace Go.Proofs.YtmpefgemlpnbiaaGreat
set_option linter.unusedVariables false
open Go.RowKit
attribute [local go_sem ↓] Go.wp_at_zero Go.wp_at_succ
theorem cut_near (neg : Bool) (n d : Nat) (h : d ≤ n.log2 + 2) : ((Ieee.Toward.even.cut neg n d : Nat) : Int) = near (n : Int) (2 ^ d) := by
  unfold Ieee.Toward.cut near
  simp only [Nat.min_eq_left h, Nat.one_shiftLeft]
  have e0 : ((2 : Int) ^ d) = ((2 ^ d : Nat) : Int) := by rw [Int.natCast_pow]; rfl
  rw [e0]
  generalize 2 ^ d = g
  rw [← Int.natCast_emod, ← Int.natCast_ediv]
  by_cases h1 : g < 2 * (n % g)
  · rw [decide_eq_true h1, if_pos (.inl (by omega))]
    simp
  · rw [decide_eq_false h1]
    by_cases h2 : g = 2 * (n % g) ∧ n / g % 2 = 1
    · have e1 : (g == 2 * (n % g)) = true := beq_iff_eq.2 h2.1
      have e2 : (n / g % 2 == 1) = true := beq_iff_eq.2 h2.2
      rw [e1, e2, if_pos (.inr ⟨by omega, by omega⟩)]
      simp
    · rw [if_neg (by omega)]
      have e1 : (g == 2 * (n % g) && n / g % 2 == 1) = false := by
        rcases Nat.eq_or_lt_of_le (Nat.zero_le 0) with _ | _
        · by_cases a : g = 2 * (n % g)
          · have b : ¬ n / g % 2 = 1 := fun b => h2 ⟨a, b⟩
            rw [show (n / g % 2 == 1) = false from beq_false_of_ne b, Bool.and_false]
          · rw [show (g == 2 * (n % g)) = false from beq_false_of_ne a, Bool.false_and]
        · omega
      rw [e1]
      simp
theorem isExp_nat {n : Nat} (h : n ≠ 0) : IsExp (n : Int) 1 (n.log2 : Int) := by
  have h1 := Nat.log2_self_le h
  have h2 := Nat.lt_log2_self (n := n)
  unfold IsExp scN scD
  rw [if_neg (by omega), if_neg (by omega), Int.one_mul, Int.toNat_natCast]
  have e0 : ((2 : Int) ^ n.log2) = ((2 ^ n.log2 : Nat) : Int) := by rw [Int.natCast_pow]; rfl
  rw [e0]
  rw [Nat.pow_succ] at h2
  omega
set_option maxHeartbeats 1000000 in
/-- Without its sign. -/
theorem int_round {n : Nat} (h : n ≠ 0) (hn : n ≤ 9223372036854775808) (neg : Bool) : ∃ k : Nat, FloatKind.f64.format.nearest neg n 0 = FloatKind.f64.format.word neg k ∧ k ≠ 0 ∧ k < 9218868437227405312 ∧ RoundIs (n : Int) 1 53 (-1074) 971 9218868437227405312 k := by
  have hl : n.log2 < 64 := by rw [Nat.log2_lt h]; show n < 18446744073709551616; omega
  have hb : FloatKind.f64.format.binade = 4503599627370496 := by decide
  have hi : FloatKind.f64.format.infRung = 9218868437227405312 := by decide
  have hlp : FloatKind.f64.format.leastPlace = -1074 := by decide
  have hfb : FloatKind.f64.format.fractionBits = 52 := by decide
  obtain ⟨U, hU⟩ : ∃ U : Int, U = (n.log2 : Int) - 52 := ⟨_, rfl⟩
  have hkept : ((Ieee.Toward.even.cut neg (n <<< (0 - U).toNat) (U - 0).toNat : Nat) : Int) = near (scN n U) (scD 1 U) := by
    rw [Nat.shiftLeft_eq]
    unfold scN scD
    by_cases hc : U < 0
    · rw [if_pos hc, if_pos hc, show (U - 0).toNat = 0 from by omega, cut_near neg _ 0 (by omega), show (0 - U).toNat = (-U).toNat from by omega, Int.natCast_mul, Int.natCast_pow]
      rfl
    · rw [if_neg hc, if_neg hc, show (0 - U).toNat = 0 from by omega, Nat.pow_zero, Nat.mul_one, cut_near neg _ _ (by omega), Int.one_mul]
      congr 2
      omega
  have hexp := isExp_nat h
  have hmax : max ((n.log2 : Int) - (53 - 1)) (-1074) = U := by omega
  have hS0 := scN_nonneg (y := (n : Int)) (by omega) U
  have hS1 := scD_pos (z := 1) (by decide) U
  have hlt := sc_lt (k := 53) (by decide) hexp (u := U) (by omega)
  have hq := quo_lt hS1 hlt
  have hnr := near_le hS0 hS1
  have e53 : (2 : Int) ^ 53 = 9007199254740992 := by decide
  rw [e53] at hq
  have hq' := hq
  have hlow : 1 ≤ near (scN (n : Int) U) (scD 1 U) := by
    have : 1 ≤ scN (n : Int) U / scD 1 U := by
      rw [Int.le_ediv_iff_mul_le hS1, Int.one_mul]
      by_cases hc : U < 0
      · unfold scN scD
        rw [if_pos hc, if_pos hc]
        have h1 := two_pos (-U).toNat
        have h2 : (1 : Int) * 1 ≤ (n : Int) * 2 ^ (-U).toNat := Int.mul_le_mul (by omega) (by omega) (by decide) (by omega)
        omega
      · unfold scN scD
        rw [if_neg hc, if_neg hc, Int.one_mul]
        have h1 := Nat.log2_self_le h
        have h2 : (2 : Int) ^ U.toNat ≤ 2 ^ n.log2 := pow_le2 (by omega)
        have e0 : ((2 : Int) ^ n.log2) = ((2 ^ n.log2 : Nat) : Int) := by rw [Int.natCast_pow]; rfl
        omega
    have : scN (n : Int) U / scD 1 U ≤ near (scN (n : Int) U) (scD 1 U) := by unfold near; split <;> omega
    omega
  generalize hK : Ieee.Toward.even.cut neg (n <<< (0 - U).toNat) (U - 0).toNat = K at *
  have hb1 : (U + 1074).toNat * 4503599627370496 + K < 9218868437227405312 := by omega
  have hb0 : (U + 1074).toNat * 4503599627370496 + K ≠ 0 := by omega
  refine ⟨(U + 1074).toNat * 4503599627370496 + K, ?_, hb0, hb1, fun h0 => by omega, fun _ => ⟨(n.log2 : Int), hexp, fun hc => by omega, fun _ => ?_⟩⟩
  · unfold Ieee.Format.nearest
    rw [if_neg h, hb, hi, hlp, hfb]
    have e2 : max ((0 : Int) + n.log2 - ((52 : Nat) : Int)) (-1074) = U := by omega
    simp only [e2]
    have e7 : (U - -1074).toNat = (U + 1074).toNat := by omega
    rw [hK, e7, Nat.min_eq_left (Nat.le_of_lt hb1)]
  · rw [hmax, ← hkept]
    have e5 : (2 : Int) ^ ((53 : Int) - 1).toNat = 4503599627370496 := by decide
    rw [e5, Int.natCast_add, Int.natCast_mul]
    have e6 : (((U + 1074).toNat : Nat) : Int) = U - -1074 := by omega
    rw [e6]
    rfl
end Go.Proofs.YtmpefgemlpnbiaaGreat
namespace Go.Proofs.YtmpefgemlpnbiaaGreat
set_option linter.unusedVariables false
open Go.RowKit
attribute [local go_sem ↓] Go.wp_at_zero Go.wp_at_succ
theorem RoundIs.uniq {y z dg least most inf r r' : Int} (hz : 0 < z) (h : RoundIs y z dg least most inf r) (h' : RoundIs y z dg least most inf r') : r = r' := by
  by_cases h0 : y = 0
  · rw [h.1 h0, h'.1 h0]
  · obtain ⟨e, he, a1, a2⟩ := h.2 h0
    obtain ⟨e', he', b1, b2⟩ := h'.2 h0
    obtain rfl := isExp_uniq hz he he'
    by_cases hc : most < max (e - (dg - 1)) least
    · rw [a1 hc, b1 hc]
    · rw [a2 (by omega), b2 (by omega)]
theorem R64.uniq {p q : Int} {k k' : Nat} (h : R64 p q k) (h' : R64 p q k') : k = k' := by
  have := RoundIs.uniq (dA_pos q) h h'
  omega
theorem R64.neg {p q r : Int} (h : R64 (-p) q r) : R64 p q r := by
  unfold R64 at *
  rw [Int.natAbs_neg] at h
  exact h
theorem round64_parts {p q : Int} {w : World} {v : Value} (hp : 0 < p) (hq : 0 < q) (h : RoundR p q 53 (-1074) 1024 w v) :
    ∃ (t : Value) (U : Int) (b : Bool) (n z : Nat), v = .tuple #[t, .int .i64 U, .bool b] ∧ Rint w t (n : Int) 390 ∧ n ≤ 9007199254740992 ∧ (b = false → R64 p q (9218868437227405312 : Nat)) ∧
      (b = true → (∀ w, Calls Tryz.prog 102 #[.float .f64 (encI n), .int .i64 U] w fun e w' => e = .returned (.float .f64 z) ∧ w' = w) ∧ R64 p q (z : Nat) ∧ z < 9218868437227405312) := by
  obtain ⟨x, t, L, hx, hL, rfl, hR⟩ := h
  obtain ⟨U, hU⟩ : ∃ U, U = max (x - (53 - 1)) (-1074) := ⟨_, rfl⟩
  rw [← hU] at hL hR ⊢
  have hU' : U = max (x - 52) (-1074) := by omega
  obtain ⟨n0, n1, n2⟩ := units64 hp hq hx hU'
  have hy := round_yes hp hq hx hU' hL
  have hno := round_no hp hq hx hU' hL
  obtain ⟨n, hn⟩ : ∃ n : Nat, near (scN p U) (scD q U) = (n : Int) := ⟨(near (scN p U) (scD q U)).toNat, by omega⟩
  rw [hn] at hR hL hy n0 n1 n2
  refine ⟨t, U, _, n, (U + 1074).toNat * 4503599627370496 + n, rfl, hR, by omega, fun hb => hno (by simpa using hb), fun hb => ?_⟩
  obtain ⟨u1, u2, u3⟩ := hy (by simpa using hb)
  have e1 : ((((U + 1074).toNat * 4503599627370496 + n : Nat)) : Int) = (U + 1074) * 4503599627370496 + n := by omega
  refine ⟨fun w => ?_, by rw [e1]; exact u3, by omega⟩
  by_cases hz : n = 0
  · subst hz
    have hu : U = -1074 := by omega
    subst hu
    exact Ldexp_zero _ w
  · exact Ldexp_enc hz (by omega) (by omega) u1 (by omega) w
theorem sgn64_pos {p q : Int} (hp : 0 ≤ p) (hq : 0 < q) (k : Nat) : sgn64 p q k = k := by
  unfold sgn64 pN
  rw [if_neg (show ¬ q < 0 by omega), if_neg (by omega)]
theorem sgn64_neg {p q : Int} (hp : p < 0) (hq : 0 < q) {k : Nat} (hk : k ≠ 0) : sgn64 p q k = k + 9223372036854775808 := by
  unfold sgn64 pN
  rw [if_neg (show ¬ q < 0 by omega), if_pos ⟨hk, hp⟩]
theorem sgn64_zero (p q : Int) : sgn64 p q 0 = 0 := by
  unfold sgn64
  rw [if_neg (by omega)]
theorem flip_up {s : Nat} (h : s < 9223372036854775808) : s ^^^ 2 ^ 63 = s + 9223372036854775808 := by
  have h1 := flip_top h
  have h2 : ((s + 9223372036854775808) ^^^ 2 ^ 63) ^^^ 2 ^ 63 = s + 9223372036854775808 := by
    rw [Nat.xor_assoc, Nat.xor_self, Nat.xor_zero]
  rw [h1] at h2
  exact h2
theorem neg_up {s : Nat} (h : s < 9223372036854775808) (w : World) : Sem.run Tryz.prog (Op.unary .neg (.float .f64 s)) w = .ok (.float .f64 (s + 9223372036854775808)) w := by
  have : Op.negFloat .f64 s = s + 9223372036854775808 := flip_up h
  show Sem.run Tryz.prog (pure (Value.float .f64 (Op.negFloat .f64 s))) w = _
  rw [this]
  rfl
theorem order_zero2 {s : Nat} (h0 : s ≠ 0) (hs : s ≤ 9218868437227405312) : (FloatKind.f64.format.order s 0 != some .eq) = true := by
  by_cases h : s = 9218868437227405312
  · subst h
    decide +kernel
  · rw [order_zero h0 (by omega)]
    rfl
theorem Rint.len {w : World} {n : Bool} {a : Option Addr} {l c : Nat} {z : Int} {m : Nat} (h : Rint w (.agg #[.bool n, .slice a l c]) z m) : (l = 0 ↔ z = 0) ∧ (n = true ↔ z < 0) ∧ l ≤ m := by
  obtain ⟨neg, a', cap, ds, hv, hr, hn, he, hl⟩ := h
  cases hv
  have h1 := val_nonneg (B := 65536) (by decide) hr.words
  cases ds with
  | nil =>
    have hn : n = false := by
      cases n with
      | false => rfl
      | true => exact absurd rfl (hn.2 rfl)
    subst hn
    subst he
    have hv0 : Go.Proofs.YtmpefgemlpnbiaaGreat.val 65536 [] = 0 := rfl
    simp [num, hv0]
  | cons d ds =>
    have h2 := nrm_val_pos (B := 65536) (by decide) hr.words hn.1 (by simp)
    subst he
    refine ⟨⟨fun h => by simp at h, fun h => ?_⟩, ?_, hl⟩
    · cases n <;> simp [num] at h <;> omega
    · cases n <;> simp [num] <;> omega
theorem box34 (w : World) (m1 : Bool) (a1 : Option Addr) (l1 c1 : Nat) (m2 : Bool) (a2 : Option Addr) (l2 c2 : Nat) : ∃ W, W = w.alloc (.cells #[.bool m1, .slice a1 l1 c1, .bool m2, .slice a2 l2 c2] 34) ∧ Below w.heap.size w W ∧ Box4 W w.heap.size ∧
    (W.cell? ⟨w.heap.size, 0, none⟩ = some (.bool m1) ∧ W.cell? ⟨w.heap.size, 1, none⟩ = some (.slice a1 l1 c1) ∧ W.cell? ⟨w.heap.size, 2, none⟩ = some (.bool m2) ∧ W.cell? ⟨w.heap.size, 3, none⟩ = some (.slice a2 l2 c2)) := by
  refine ⟨_, rfl, (Below.refl _ _).alloc (Nat.le_refl _) _, Box4.new w m1 a1 l1 c1 m2 a2 l2 c2 34 (by decide), ⟨?_, ?_, ?_, ?_⟩⟩
  all_goals simp [go_sem]
set_option maxRecDepth 20000 in
set_option maxHeartbeats 8000000 in
theorem Round64R_num {w : World} {u : Value} {p q : Int} (hu : RatR w u p q 145) (hq : 0 < q) :
    Calls Tryz.prog 16 #[u] w fun e w' => ∃ k : Nat, e = .returned (.float .f64 (sgn64 p q k)) ∧ R64 p q k ∧ Below w.heap.size w w' := by
  obtain ⟨n1, a1, l1, c1, n2, a2, l2, c2, rfl⟩ := hu.form
  obtain ⟨W, hW, hB, x0, e0, e1, e2, e3⟩ := box34 w n1 a1 l1 c1 n2 a2 l2 c2
  replace hu := hu.next hB
  obtain ⟨z0, z1, z2⟩ := hu.parts.1.len
  by_cases hp0 : p = 0
  · have hl : l1 = 0 := z0.2 hp0
    subst hp0
    subst hl
    clear z0 z1 z2 hu
    go_enter Tryz.func16, Tryz.ntmps16
    go_upto_region 1 with fail
    rw [← hW]
    clear hW
    go_wp2
    go_ret
    exact ⟨0, by rw [sgn64_zero]; rfl, ⟨fun _ => rfl, fun h => absurd rfl h⟩, hB⟩
  · have hl0 : ¬ l1 = 0 := fun h => hp0 (z0.1 h)
    have hl : ((l1 : Int) == 0) = false := by simpa using hl0
    have hl2 : (l1 == 0) = false := by simpa using hl0
    clear z0
    cases n1 with
    | true =>
      have hp : p < 0 := z1.1 rfl
      have hpn : 0 < -p := by omega
      clear z1 z2
      go_enter Tryz.func16, Tryz.ntmps16
      go_upto_region 1 with fail
      rw [← hW]
      clear hW
      go_wp2_with fail
      refine Calls.mono (NegRat_num hu) ?_
      rintro e w5 ⟨t5, rfl, hR, b5⟩
      obtain ⟨n3, a3, l3, c3, n4, a4, l4, c4, rfl⟩ := hR.form
      have z1 := x0.next b5
      obtain ⟨_, _, _, _, _, _, _, _, j0, j1, j2, j3, ff⟩ := z1.cells
      have f0 := ff 0
      have f1 := ff 1
      have f2 := ff 2
      have f3 := ff 3
      clear ff
      obtain ⟨V, hV, hch, hbx, v0, v1, v2, v3⟩ := put_one z1 n3 a3 l3 c3 n4 a4 l4 c4
      have hRV := hR.chg hch z1.noint
      have hBV := bthen hB b5
      replace hBV : Below w.heap.size w V := hBV.trans (hch.below _ (Nat.le_refl _))
      clear hR b5 hB hch hbx hu e0 e1 e2 e3 x0
      go_upto_region 6 with fail
      rw [← hV]
      clear hV j0 j1 j2 j3 f0 f1 f2 f3 z1
      have hu := hRV
      have hB := hBV
      have e0 := v0
      have e1 := v1
      have e2 := v2
      have e3 := v3
      clear hRV hBV v0 v1 v2 v3
      go_wp2_with fail
      refine Calls.mono (roundR_num hu hpn hq 53 (-1074) 1024 ⟨by decide, by decide⟩ ⟨by decide, by decide⟩ ⟨by decide, by decide⟩) ?_
      rintro e w1 ⟨v, rfl, hR, b1⟩
      obtain ⟨t, U, b, n, z, rfl, hT, hn, kf, kt⟩ := round64_parts hpn hq hR
      obtain ⟨n3, a3, l3, c3, rfl⟩ := hT.form
      obtain ⟨W3, hW3, b3, ⟨s0, s1⟩, _⟩ := box_b2 w1 n3 a3 l3 c3
      replace hT := hT.next b3
      replace hB := bthen hB (bthen b1 b3)
      clear hR b1 b3 hu e0 e1 e2 e3
      go_upto_region 7 with fail
      rw [← hW3]
      clear hW3
      generalize w1.heap.size = g3 at *
      replace hT : Hid _ := hT
      replace hn : Hid _ := hn
      go_wp2_with fail
      refine Calls.mono (InfP_any _) ?_
      rintro e w2 ⟨rfl, rfl⟩
      cases b with
      | false =>
        have hR : Hid _ := kf rfl
        clear kf kt hT
        have d0 := order_zero2 (s := 9218868437227405312) (by decide) (by decide)
        have hr : ∀ w, Sem.run Tryz.prog (Op.unary .neg (.float .f64 9218868437227405312)) w = .ok (.float .f64 18442240474082181120) w := fun w => neg_up (s := 9218868437227405312) (by decide) w
        go_wp2
        go_ret
        exact ⟨9218868437227405312, by rw [sgn64_neg hp hq (by decide)]; rfl, R64.neg hR.out, hB⟩
      | true =>
        obtain ⟨kL, hz, hlt⟩ := kt rfl
        clear kf kt
        replace hz : Hid _ := hz
        go_wp2_with fail
        refine Calls.mono (value_num hT.out (by decide) hn.out U z kL) ?_
        rintro e w3 ⟨rfl, b4⟩
        replace hB := bthen hB b4
        clear hT b4 kL hn
        by_cases hzz : z = 0
        · subst hzz
          have d0 : (FloatKind.f64.format.order 0 0 != some .eq) = false := by decide +kernel
          go_wp2
          go_ret
          exact ⟨0, by rw [sgn64_zero]; rfl, R64.neg hz.out, hB⟩
        · have d0 := order_zero2 hzz (by omega)
          have hr : ∀ w, Sem.run Tryz.prog (Op.unary .neg (.float .f64 z)) w = .ok (.float .f64 (z + 9223372036854775808)) w := fun w => neg_up (by omega) w
          have hs : Hid _ := sgn64_neg hp hq hzz
          clear hzz hlt
          go_wp2
          go_ret
          exact ⟨z, by rw [hs.out]; rfl, R64.neg hz.out, hB⟩
    | false =>
      have hp : 0 < p := by have : ¬ p < 0 := fun h => by have := z1.2 h; cases this
                            omega
      clear z1 z2
      go_enter Tryz.func16, Tryz.ntmps16
      go_upto_region 1 with fail
      rw [← hW]
      clear hW
      go_wp2_with fail
      refine Calls.mono (roundR_num hu hp hq 53 (-1074) 1024 ⟨by decide, by decide⟩ ⟨by decide, by decide⟩ ⟨by decide, by decide⟩) ?_
      rintro e w1 ⟨v, rfl, hR, b1⟩
      obtain ⟨t, U, b, n, z, rfl, hT, hn, kf, kt⟩ := round64_parts hp hq hR
      obtain ⟨n3, a3, l3, c3, rfl⟩ := hT.form
      obtain ⟨W3, hW3, b3, ⟨s0, s1⟩, _⟩ := box_b2 w1 n3 a3 l3 c3
      replace hT := hT.next b3
      replace hB := bthen hB (bthen b1 b3)
      clear hR b1 b3 hu e0 e1 e2 e3
      go_upto_region 7 with fail
      rw [← hW3]
      clear hW3
      generalize w1.heap.size = g3 at *
      replace hT : Hid _ := hT
      replace hn : Hid _ := hn
      go_wp2_with fail
      refine Calls.mono (InfP_any _) ?_
      rintro e w2 ⟨rfl, rfl⟩
      cases b with
      | false =>
        have hR : Hid _ := kf rfl
        clear kf kt hT
        go_wp2
        go_ret
        exact ⟨9218868437227405312, by rw [sgn64_pos (by omega) hq]; rfl, hR.out, hB⟩
      | true =>
        obtain ⟨kL, hz, hlt⟩ := kt rfl
        clear kf kt
        replace hz : Hid _ := hz
        go_wp2_with fail
        refine Calls.mono (value_num hT.out (by decide) hn.out U z kL) ?_
        rintro e w3 ⟨rfl, b4⟩
        replace hB := bthen hB b4
        clear hT b4 kL hn
        go_wp2
        go_ret
        exact ⟨z, by rw [sgn64_pos (by omega) hq]; rfl, hz.out, hB⟩
end Go.Proofs.YtmpefgemlpnbiaaGreat
