/- Bits of whole numbers, those below zero as two's complements without end: plain mathematics. -/
import Derived.Test.YtdcjgepgiaaaoaaMath
namespace Go.Proofs.Ytdcjgepgiaaaoaa
def tb (z : Int) (i : Nat) : Bool := decide (z / 2 ^ i % 2 = 1)
theorem tb_nat (n i : Nat) : tb (n : Int) i = n.testBit i := by
  unfold tb
  rw [Nat.testBit_eq_decide_div_mod_eq]
  have h : ((n / 2 ^ i % 2 : Nat) : Int) = (n : Int) / 2 ^ i % 2 := by simp
  rw [← h, Bool.eq_iff_iff]
  simp only [decide_eq_true_eq]
  omega
theorem two_pow_pos (n : Nat) : (0 : Int) < 2 ^ n := Int.pow_pos (by decide)
theorem tb_add (z q : Int) (i m : Nat) : tb (z + 2 ^ (i + 1 + m) * q) i = tb z i := by
  unfold tb
  have e : z + 2 ^ (i + 1 + m) * q = z + 2 ^ i * (2 * (2 ^ m * q)) := by
    rw [Int.pow_add, Int.pow_succ, Int.mul_assoc, Int.mul_assoc]
  have hp := two_pow_pos i
  rw [e, Int.add_mul_ediv_left _ _ (by omega)]
  generalize z / 2 ^ i = a
  generalize 2 ^ m * q = b
  rw [Bool.eq_iff_iff]
  simp only [decide_eq_true_eq]
  omega
theorem tb_mod (z : Int) {i N : Nat} (h : i < N) : tb (z % 2 ^ N) i = tb z i := by
  obtain ⟨m, rfl⟩ : ∃ m, N = i + 1 + m := ⟨N - i - 1, by omega⟩
  have e := Int.emod_add_mul_ediv z (2 ^ (i + 1 + m))
  have h2 := tb_add (z % 2 ^ (i + 1 + m)) (z / 2 ^ (i + 1 + m)) i m
  rw [e] at h2
  exact h2.symm
theorem tb_sign {z : Int} {m i : Nat} (h0 : -2 ^ m ≤ z) (h1 : z < 2 ^ m) (hi : m ≤ i) : tb z i = decide (z < 0) := by
  have hm : (2 : Int) ^ m ≤ 2 ^ i := pow_mono (by decide) hi
  have hp := two_pow_pos i
  unfold tb
  by_cases hz : z < 0
  · have e : z / 2 ^ i = -1 := by
      have e1 : z = (z + 2 ^ i) + 2 ^ i * (-1) := by omega
      rw [e1, Int.add_mul_ediv_left _ _ (by omega), Int.ediv_eq_zero_of_lt (by omega) (by omega)]
      omega
    rw [e]
    simp [hz]
  · rw [Int.ediv_eq_zero_of_lt (by omega) (by omega)]
    simp [hz]
theorem two_pow_gt (n : Nat) : (n : Int) < 2 ^ n := by
  have := Nat.lt_two_pow_self (n := n)
  have e : ((2 ^ n : Nat) : Int) = 2 ^ n := by simp
  omega
theorem mod_ext {z y : Int} {K : Nat} (h : ∀ i, i < K → tb z i = tb y i) : z % 2 ^ K = y % 2 ^ K := by
  have hp := two_pow_pos K
  obtain ⟨a, ha⟩ := Int.eq_ofNat_of_zero_le (Int.emod_nonneg z (b := 2 ^ K) (by omega))
  obtain ⟨b, hb⟩ := Int.eq_ofNat_of_zero_le (Int.emod_nonneg y (b := 2 ^ K) (by omega))
  have e : ((2 ^ K : Nat) : Int) = 2 ^ K := by simp
  have ha2 : a < 2 ^ K := by have := Int.emod_lt_of_pos z hp; omega
  have hb2 : b < 2 ^ K := by have := Int.emod_lt_of_pos y hp; omega
  have : a = b := by
    apply Nat.eq_of_testBit_eq
    intro i
    by_cases hi : i < K
    · rw [← tb_nat, ← tb_nat, ← ha, ← hb, tb_mod z hi, tb_mod y hi, h i hi]
    · rw [Nat.testBit_lt_two_pow (Nat.lt_of_lt_of_le ha2 (Nat.pow_le_pow_right (by decide) (by omega))), Nat.testBit_lt_two_pow (Nat.lt_of_lt_of_le hb2 (Nat.pow_le_pow_right (by decide) (by omega)))]
  rw [ha, hb, this]
theorem tb_ext {z y : Int} (h : ∀ i, tb z i = tb y i) : z = y := by
  have h1 := mod_ext (K := (z - y).natAbs) (fun i _ => h i)
  have h2 : (z - y) % 2 ^ (z - y).natAbs = 0 := by
    rw [Int.sub_emod, h1, Int.sub_self]; rfl
  have h3 := two_pow_gt (z - y).natAbs
  obtain ⟨q, hq⟩ := Int.dvd_of_emod_eq_zero h2
  generalize (2 : Int) ^ (z - y).natAbs = P at *
  by_cases hz : z = y
  · exact hz
  · exfalso
    have hq0 : q ≠ 0 := by intro e; subst e; simp at hq; omega
    rcases Int.lt_or_gt_of_ne hq0 with hq1 | hq1
    · have := Int.mul_le_mul_of_nonneg_left (show q ≤ -1 by omega) (show 0 ≤ P by omega)
      omega
    · have := Int.mul_le_mul_of_nonneg_left (show 1 ≤ q by omega) (show 0 ≤ P by omega)
      omega
theorem tb_high {R : Int} {n : Nat} (hn : 1 ≤ n) (h0 : 0 ≤ R) (h1 : R < 2 ^ n) : (tb R (n - 1) = true → 2 ^ (n - 1) ≤ R) ∧ (tb R (n - 1) = false → R < 2 ^ (n - 1)) := by
  have hp := two_pow_pos (n - 1)
  have e : (2 : Int) ^ n = 2 ^ (n - 1) * 2 := by
    conv => lhs; rw [show n = (n - 1) + 1 from by omega]
    rw [Int.pow_succ]
  have hd := Int.emod_add_mul_ediv R (2 ^ (n - 1))
  have hm := Int.emod_lt_of_pos R hp
  have hm0 := Int.emod_nonneg R (b := 2 ^ (n - 1)) (by omega)
  have hq0 : 0 ≤ R / 2 ^ (n - 1) := Int.ediv_nonneg h0 (by omega)
  have hq1 : R / 2 ^ (n - 1) < 2 := Int.ediv_lt_of_lt_mul hp (by omega)
  unfold tb
  generalize R / 2 ^ (n - 1) = q at *
  generalize (2 : Int) ^ (n - 1) = P at *
  rcases (show q = 0 ∨ q = 1 by omega) with rfl | rfl
  · simp; omega
  · simp; omega
/-- A row of bits, the last one standing for all that follow, as a number. -/
theorem sgn_bits {R : Int} {n : Nat} {v : Nat → Bool} (hn : 1 ≤ n) (h0 : 0 ≤ R) (h1 : R < 2 ^ n) (hb : ∀ i, i < n → tb R i = v i) (hc : ∀ i, n - 1 ≤ i → v i = v (n - 1)) (i : Nat) :
    tb (if tb R (n - 1) = true then R - 2 ^ n else R) i = v i := by
  obtain ⟨k1, k2⟩ := tb_high hn h0 h1
  have e : (2 : Int) ^ n = 2 ^ (n - 1) * 2 := by
    conv => lhs; rw [show n = (n - 1) + 1 from by omega]
    rw [Int.pow_succ]
  have hp := two_pow_pos (n - 1)
  have key : ∀ z : Int, z % 2 ^ n = R → -2 ^ (n - 1) ≤ z → z < 2 ^ (n - 1) → tb z i = v i := by
    intro z hz l0 l1
    by_cases hi : i < n
    · rw [← hb i hi, ← hz, tb_mod z hi]
    · rw [hc i (by omega), ← hb (n - 1) (by omega), ← hz, tb_mod z (by omega), tb_sign l0 l1 (by omega), tb_sign l0 l1 (Nat.le_refl _)]
  split
  · rename_i ht
    have := k1 ht
    refine key _ ?_ (by omega) (by omega)
    rw [show R - 2 ^ n = R + 2 ^ n * (-1) from by omega, Int.add_mul_emod_self_left, Int.emod_eq_of_lt h0 h1]
  · rename_i ht
    have := k2 (by simpa using ht)
    exact key _ (Int.emod_eq_of_lt h0 h1) (by omega) (by omega)
theorem tb_cons {d v : Int} {c : Nat} (h0 : 0 ≤ d) (h1 : d < 2 ^ c) (i : Nat) : tb (d + 2 ^ c * v) i = if i < c then tb d i else tb v (i - c) := by
  split
  · rename_i hi
    obtain ⟨m, rfl⟩ : ∃ m, c = i + 1 + m := ⟨c - i - 1, by omega⟩
    exact tb_add d v i m
  · rename_i hi
    have hp := two_pow_pos c
    unfold tb
    have e : (2 : Int) ^ i = 2 ^ c * 2 ^ (i - c) := by rw [← Int.pow_add]; congr 1; omega
    rw [e, ← Int.ediv_ediv_of_nonneg (by omega), Int.add_mul_ediv_left _ _ (by omega), Int.ediv_eq_zero_of_lt h0 h1, Int.zero_add]
/-- A number's lowest bits, one more. -/
theorem mod_more {R : Int} (n : Nat) : R % 2 ^ (n + 1) = R % 2 ^ n + (if tb R n = true then 1 else 0) * 2 ^ n := by
  have hp := two_pow_pos n
  have hd := Int.emod_add_mul_ediv R (2 ^ n)
  have hm := Int.emod_lt_of_pos R hp
  have hm0 := Int.emod_nonneg R (b := 2 ^ n) (by omega)
  have hh := Int.emod_add_mul_ediv (R / 2 ^ n) 2
  have h2 : R = (R % 2 ^ n + (R / 2 ^ n % 2) * 2 ^ n) + 2 ^ (n + 1) * (R / 2 ^ n / 2) := by
    rw [Int.pow_succ, Int.mul_assoc, Int.mul_comm (R / 2 ^ n % 2), Int.add_assoc, ← Int.mul_add, hh]
    exact hd.symm
  have hb : R / 2 ^ n % 2 = if tb R n = true then 1 else 0 := by
    unfold tb
    have := Int.emod_lt_of_pos (R / 2 ^ n) (b := 2) (by decide)
    have := Int.emod_nonneg (R / 2 ^ n) (b := 2) (by decide)
    split
    · rename_i h; simpa using h
    · rename_i h; simp at h; omega
  rw [← hb]
  conv => lhs; rw [h2]
  rw [Int.add_mul_emod_self_left]
  have e : (2 : Int) ^ (n + 1) = 2 ^ n * 2 := Int.pow_succ ..
  have := Int.emod_lt_of_pos (R / 2 ^ n) (b := 2) (by decide)
  have := Int.emod_nonneg (R / 2 ^ n) (b := 2) (by decide)
  generalize R / 2 ^ n % 2 = q at *
  refine Int.emod_eq_of_lt ?_ ?_
  · have := Int.mul_nonneg (show 0 ≤ q by omega) (Int.le_of_lt hp); omega
  · have := Int.mul_le_mul_of_nonneg_right (show q ≤ 1 by omega) (Int.le_of_lt hp); omega
end Go.Proofs.Ytdcjgepgiaaaoaa
