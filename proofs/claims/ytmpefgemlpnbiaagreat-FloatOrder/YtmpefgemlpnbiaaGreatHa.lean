/- Floats by their bits: rank, order. -/
import Derived.Test.YtmpefgemlpnbiaaGreatOps
import Derived.Laws.Externs
import Derived.Laws.FloatArith
import Derived.Laws.Bits64b
namespace Go.Proofs.YtmpefgemlpnbiaaGreat
set_option linter.unusedVariables false
open Go.RowKit
attribute [local go_sem ↓] Go.wp_at_zero Go.wp_at_succ
theorem bits64 (b : Nat) (w : World) : (callFunc 19 #[.float .f64 b]).run Tryz.prog w = .ok (.value (.int .u64 b)) w := by
  rw [run_callFunc_extern (e := Extern.MathFloatBits.float64bits) Tryz.func19 (by kernel_rfl) (by kernel_rfl) (by kernel_rfl) (by kernel_rfl)]
  rfl
theorem from64 (b : Int) (w : World) : (callFunc 21 #[.int .u64 b]).run Tryz.prog w = .ok (.value (.float .f64 b.toNat)) w := by
  rw [run_callFunc_extern (e := Extern.MathFloatBits.float64frombits) Tryz.func21 (by kernel_rfl) (by kernel_rfl) (by kernel_rfl) (by kernel_rfl)]
  rfl
theorem from32 (b : Int) (w : World) : (callFunc 59 #[.int .u32 b]).run Tryz.prog w = .ok (.value (.float .f32 b.toNat)) w := by
  rw [run_callFunc_extern (e := Extern.MathFloatBits.float32frombits) Tryz.func59 (by kernel_rfl) (by kernel_rfl) (by kernel_rfl) (by kernel_rfl)]
  rfl
theorem and_top (b : Nat) (hb : b < 18446744073709551616) : b &&& 9223372036854775808 = if 9223372036854775808 ≤ b then 9223372036854775808 else 0 := by
  have h : (9223372036854775808 : Nat) = 2 ^ 63 := by decide
  have hb' : b < 2 ^ 64 := by simpa using hb
  rw [h]
  apply Nat.eq_of_testBit_eq
  intro i
  rw [Nat.testBit_and, Nat.testBit_two_pow]
  by_cases hi : 63 = i
  · subst hi
    by_cases hc : 2 ^ 63 ≤ b
    · rw [if_pos hc, Nat.testBit_two_pow_self]
      simp
      rw [Nat.testBit_eq_decide_div_mod_eq]
      simp
      omega
    · rw [if_neg hc]
      simp
      exact Nat.testBit_lt_two_pow (by omega)
  · have e : decide (63 = i) = false := by simpa using hi
    rw [e, Bool.and_false]
    split
    · rw [Nat.testBit_two_pow]; simpa using hi
    · simp
theorem or_top (b : Nat) (hb : b < 18446744073709551616) : b ||| 9223372036854775808 = b % 9223372036854775808 + 9223372036854775808 := by
  have h : (9223372036854775808 : Nat) = 2 ^ 63 := by decide
  have hb' : b < 2 ^ 64 := by simpa using hb
  rw [h]
  have h2 : b % 2 ^ 63 + 2 ^ 63 = 2 ^ 63 * 1 + b % 2 ^ 63 := by omega
  rw [h2, Nat.two_pow_add_eq_or_of_lt (Nat.mod_lt _ (by decide))]
  apply Nat.eq_of_testBit_eq
  intro i
  simp only [Nat.testBit_or, Nat.mul_one, Nat.testBit_two_pow, Nat.testBit_mod_two_pow]
  by_cases hi : 63 = i
  · subst hi; simp
  · by_cases hl : i < 63
    · simp [hi, hl]
    · simp [hi, hl]
      exact Nat.testBit_lt_two_pow (Nat.lt_of_lt_of_le hb' (Nat.pow_le_pow_right (by decide) (by omega)))
theorem band_top (b : Nat) (hb : b < 18446744073709551616) : bits .and .u64 (b : Int) 9223372036854775808 = if 9223372036854775808 ≤ b then 9223372036854775808 else 0 := by
  have h := bits_and_u64_nat b 9223372036854775808 hb (by decide)
  rw [and_top b hb] at h
  rw [show ((9223372036854775808 : Nat) : Int) = 9223372036854775808 from rfl] at h
  rw [h]
  split <;> rfl
theorem bor_top (b : Nat) (hb : b < 18446744073709551616) : bits .or .u64 (b : Int) 9223372036854775808 = ((b % 9223372036854775808 + 9223372036854775808 : Nat) : Int) := by
  have h := bits_or_u64_nat b 9223372036854775808 hb (by decide)
  rw [or_top b hb] at h
  exact h
theorem bclr_top (b : Nat) (hb : b < 18446744073709551616) : bits .andNot .u64 (b : Int) 9223372036854775808 = ((b % 9223372036854775808 : Nat) : Int) := by
  have h1 : (BitVec.ofInt 64 (b : Int)).toNat = b := by
    rw [BitVec.ofInt_natCast, BitVec.toNat_ofNat]; exact Nat.mod_eq_of_lt (by omega)
  have h2 : (~~~ (BitVec.ofInt 64 9223372036854775808)).toNat = 2 ^ 63 - 1 := by decide
  show IntKind.u64.wrap ((BitVec.ofInt 64 (b : Int) &&& ~~~ BitVec.ofInt 64 9223372036854775808).toNat : Int) = _
  rw [BitVec.toNat_and, h1, h2, Nat.and_two_pow_sub_one_eq_mod, IntKind.wrap_u64]
  omega
theorem bxor_max (b : Nat) (hb : b < 18446744073709551616) : bits .xor .u64 IntKind.u64.max (b : Int) = ((18446744073709551615 - b : Nat) : Int) := by
  have h1 : (BitVec.ofInt 64 (b : Int)).toNat = b := by
    rw [BitVec.ofInt_natCast, BitVec.toNat_ofNat]; exact Nat.mod_eq_of_lt (by omega)
  have h2 : BitVec.ofInt 64 IntKind.u64.max = BitVec.allOnes 64 := by decide
  show IntKind.u64.wrap ((BitVec.ofInt 64 IntKind.u64.max ^^^ BitVec.ofInt 64 (b : Int)).toNat : Int) = _
  rw [h2, BitVec.allOnes_xor, BitVec.toNat_not, h1, IntKind.wrap_u64]
  omega
/-- A float's place in the order of all. -/
def rankB (b : Nat) : Nat := if 9218868437227405312 < b % 9223372036854775808 then 18446744073709551615 else if 9223372036854775808 ≤ b then 18446744073709551615 - b else b % 9223372036854775808 + 9223372036854775808
theorem isNeg_any (b : Nat) (w : World) (hb : b < 18446744073709551616) : Calls Tryz.prog 67 #[.float .f64 b] w fun e w' => e = .returned (.bool (decide (9223372036854775808 ≤ b))) ∧ w' = w := by
  have hc := bits64 b w
  have h1 := band_top b hb
  by_cases h : 9223372036854775808 ≤ b
  · rw [if_pos h] at h1
    rw [decide_eq_true h]
    clear h
    go_enter Tryz.func67, Tryz.ntmps67
    go_wp2
    go_ret
    exact ⟨rfl, rfl⟩
  · rw [if_neg h] at h1
    rw [decide_eq_false h]
    clear h
    go_enter Tryz.func67, Tryz.ntmps67
    go_wp2
    go_ret
    exact ⟨rfl, rfl⟩
theorem rankB_lt (b : Nat) (hb : b < 18446744073709551616) : rankB b < 18446744073709551616 := by
  unfold rankB
  split
  · decide
  · split <;> omega
set_option maxRecDepth 20000 in
theorem rank_any (b : Nat) (w : World) (hb : b < 18446744073709551616) : Calls Tryz.prog 71 #[.float .f64 b] w fun e w' => e = .returned (.int .u64 (rankB b)) ∧ w' = w := by
  have hc := bits64 b w
  have h1 := band_top b hb
  have h2 := bor_top b hb
  have h3 := bclr_top b hb
  have h4 := bxor_max b hb
  unfold rankB
  generalize hm : b % 9223372036854775808 = m at *
  have hml : m < 9223372036854775808 := by omega
  replace hm : Hid _ := hm
  by_cases h0 : 9218868437227405312 < m
  · rw [if_pos h0]
    have d0 : decide ((m : Int) > 9218868437227405312) = true := by simpa using (by omega : (9218868437227405312 : Int) < m)
    go_enter Tryz.func71, Tryz.ntmps71
    go_wp2
    go_ret
    exact ⟨rfl, rfl⟩
  · rw [if_neg h0]
    by_cases h : 9223372036854775808 ≤ b
    · rw [if_pos h] at h1 ⊢
      go_enter Tryz.func71, Tryz.ntmps71
      go_wp2
      go_ret
      exact ⟨rfl, rfl⟩
    · rw [if_neg h] at h1 ⊢
      go_enter Tryz.func71, Tryz.ntmps71
      go_wp2
      go_ret
      exact ⟨by simp, rfl⟩
theorem nat_beq (x y : Nat) : ((x : Int) == (y : Int)) = decide (x = y) := by by_cases h : x = y <;> simp [h] <;> omega
theorem nat_blt (x y : Nat) : decide ((x : Int) < (y : Int)) = decide (x < y) := by by_cases h : x < y <;> simp [h] <;> omega
theorem same_any (a b : Nat) (w : World) (ha : a < 18446744073709551616) (hb : b < 18446744073709551616) : Calls Tryz.prog 33 #[.float .f64 a, .float .f64 b] w fun e w' => e = .returned (.bool (decide (rankB a = rankB b))) ∧ w' = w := by
  have k1 : Hid _ := rank_any a w ha
  have k2 : Hid _ := rank_any b w hb
  generalize hx : rankB a = x at *
  generalize hy : rankB b = y at *
  clear hx hy
  go_enter Tryz.func33, Tryz.ntmps33
  go_wp2_with fail
  refine Calls.mono k1.out ?_
  rintro e w1 ⟨rfl, rfl⟩
  go_wp2_with fail
  refine Calls.mono k2.out ?_
  rintro e w2 ⟨rfl, rfl⟩
  go_wp2
  go_ret
  exact ⟨by rw [← nat_beq]; rfl, rfl⟩
theorem less_any (a b : Nat) (w : World) (ha : a < 18446744073709551616) (hb : b < 18446744073709551616) : Calls Tryz.prog 35 #[.float .f64 a, .float .f64 b] w fun e w' => e = .returned (.bool (decide (rankB a < rankB b))) ∧ w' = w := by
  have k1 : Hid _ := rank_any a w ha
  have k2 : Hid _ := rank_any b w hb
  generalize hx : rankB a = x at *
  generalize hy : rankB b = y at *
  clear hx hy
  go_enter Tryz.func35, Tryz.ntmps35
  go_wp2_with fail
  refine Calls.mono k1.out ?_
  rintro e w1 ⟨rfl, rfl⟩
  go_wp2_with fail
  refine Calls.mono k2.out ?_
  rintro e w2 ⟨rfl, rfl⟩
  go_wp2
  go_ret
  exact ⟨by rw [← nat_blt]; rfl, rfl⟩
end Go.Proofs.YtmpefgemlpnbiaaGreat
