/- FloatHalf: what lies between two floats, rounded. -/
import Derived.Test.YtmpefgemlpnbiaaGreatMpm
namespace Go.Proofs.YtmpefgemlpnbiaaGreat
set_option linter.unusedVariables false
open Go.RowKit
theorem near_floor {y z c : Int} (hz : 0 < z) (h1 : c * z ≤ y) (h2 : y < (c + 1) * z) : (2 * y < (2 * c + 1) * z → near y z = c) ∧ ((2 * c + 1) * z < 2 * y → near y z = c + 1) := by
  have hq : y / z = c := by
    apply Int.le_antisymm
    · have := (Int.ediv_lt_iff_lt_mul hz).2 h2
      omega
    · exact (Int.le_ediv_iff_mul_le hz).2 h1
  have hr : y % z = y - c * z := by
    have := Int.emod_def y z
    rw [hq, Int.mul_comm z c] at this
    exact this
  have e1 : (2 * c + 1) * z = 2 * (c * z) + z := by grind
  unfold near
  rw [hq, hr, e1]
  generalize c * z = m at *
  constructor
  · intro h
    rw [if_neg (by omega)]
  · intro h
    rw [if_pos (by omega)]
theorem exp_at {y z e v : Int} {E : Nat} (hz : 0 < z) (hv : y * 2 ^ E = v * z) (h : IsExp y z e) : (∀ m : Nat, (2 : Int) ^ m ≤ v → (m : Int) ≤ e + E) ∧ (∀ n : Nat, v < 2 ^ n → e + E < n) := by
  obtain ⟨K, hK⟩ : ∃ K : Nat, K = e.natAbs := ⟨_, rfl⟩
  rw [isExp_iff y z e K (by omega)] at h
  obtain ⟨A, hA⟩ : ∃ A : Nat, (A : Int) = K + e := ⟨(K + e).toNat, by omega⟩
  rw [show ((K : Int) + e).toNat = A from by omega] at h
  have t := two_pos E
  have tk := two_pos K
  have e1 : y * 2 ^ K * 2 ^ E = v * 2 ^ K * z := by
    rw [show y * 2 ^ K * 2 ^ E = y * 2 ^ E * 2 ^ K from by grind, hv]; grind
  have h1 : (2 : Int) ^ A * 2 ^ E ≤ v * 2 ^ K := by
    have := Int.mul_le_mul_of_nonneg_right h.1 (Int.le_of_lt t)
    rw [e1, show z * 2 ^ A * 2 ^ E = 2 ^ A * 2 ^ E * z from by grind] at this
    exact Int.le_of_mul_le_mul_right this hz
  have h2 : v * 2 ^ K < (2 : Int) ^ (A + 1) * 2 ^ E := by
    have := Int.mul_lt_mul_of_pos_right h.2 t
    rw [e1, show z * 2 ^ (A + 1) * 2 ^ E = 2 ^ (A + 1) * 2 ^ E * z from by grind] at this
    exact Int.lt_of_mul_lt_mul_right this (by omega)
  rw [← Int.pow_add] at h1 h2
  constructor
  · intro m hm
    have h3 : (2 : Int) ^ m * 2 ^ K ≤ v * 2 ^ K := Int.mul_le_mul_of_nonneg_right hm (by omega)
    rw [← Int.pow_add] at h3
    by_cases hc : (m : Int) ≤ e + E
    · exact hc
    · have := pow_le2 (m := A + 1 + E) (n := m + K) (by omega)
      omega
  · intro n hn
    have h4 : v * 2 ^ K < 2 ^ n * 2 ^ K := Int.mul_lt_mul_of_pos_right hn tk
    rw [← Int.pow_add] at h4
    by_cases hc : e + E < n
    · exact hc
    · have := pow_le2 (m := n + K) (n := A + E) (by omega)
      omega
theorem round_between {s : Nat} (hs : s < 9218868437227405312) {p q H : Int} (hp : 0 < p) (hq : 0 < q) {E : Nat} (hE : E = 1201) (hv : p * 2 ^ E = H * q) {B : Int} (hB : B = 2 ^ ((E : Int) + dgU s).toNat)
    (h1 : (dgC s : Int) * B ≤ H) (h2 : H < ((dgC s : Int) + 1) * B) {k : Int} (hk : RoundIs p q 53 (-1074) 971 9218868437227405312 k) :
    (2 * H < (2 * (dgC s : Int) + 1) * B → k = s) ∧ ((2 * (dgC s : Int) + 1) * B < 2 * H → k = s + 1) := by
  obtain ⟨u1, u2⟩ := dgU_lt s hs
  have hcl := dgC_lt s
  have hrung := rung_of hs
  obtain ⟨e, he, _, hr⟩ := hk.2 (by omega)
  obtain ⟨b1, b2⟩ := exp_at hq hv he
  have hB0 : 0 < B := by rw [hB]; exact two_pos _
  have hH0 : 1 ≤ H := by
    by_cases hc : 1 ≤ H
    · exact hc
    · have t1 : 0 < p * 2 ^ E := Int.mul_pos hp (two_pos E)
      have t2 : H * q ≤ 0 := Int.mul_nonpos_of_nonpos_of_nonneg (by omega) (by omega)
      omega
  have hU : max (e - (53 - 1)) (-1074) = dgU s := by
    by_cases hsub : s / 4503599627370496 = 0
    · have hu : dgU s = -1074 := by unfold dgU; rw [if_pos hsub]
      have hc : dgC s < 4503599627370496 := by unfold dgC; rw [if_pos hsub]; omega
      have h3 := b2 (52 + ((E : Int) + dgU s).toNat) (by
        rw [Int.pow_add, ← hB]
        have : ((dgC s : Int) + 1) * B ≤ 2 ^ 52 * B := Int.mul_le_mul_of_nonneg_right (by show _ ≤ (4503599627370496 : Int); omega) (by omega)
        omega)
      omega
    · have hc : 4503599627370496 ≤ dgC s := by unfold dgC; rw [if_neg hsub]; omega
      have h3 := b2 (53 + ((E : Int) + dgU s).toNat) (by
        rw [Int.pow_add, ← hB]
        have : ((dgC s : Int) + 1) * B ≤ 2 ^ 53 * B := Int.mul_le_mul_of_nonneg_right (by show _ ≤ (9007199254740992 : Int); omega) (by omega)
        omega)
      have h4 := b1 (52 + ((E : Int) + dgU s).toNat) (by
        rw [Int.pow_add, ← hB]
        have : 2 ^ 52 * B ≤ (dgC s : Int) * B := Int.mul_le_mul_of_nonneg_right (by show (4503599627370496 : Int) ≤ _; omega) (by omega)
        omega)
      omega
  rw [hU] at hr
  have hk' := hr u2
  have hS := scD_pos hq (dgU s)
  obtain ⟨T, t0, t1, t2⟩ := sc_up p q (dgU s) E (by omega)
  rw [← hB] at t1
  rw [hv] at t2
  have cmp : ∀ x : Int, (x * scD q (dgU s)) * T = x * B * q := fun x => by rw [Int.mul_assoc, t1]; grind
  have f1 : (dgC s : Int) * scD q (dgU s) ≤ scN p (dgU s) := by
    apply Int.le_of_mul_le_mul_right _ t0
    rw [cmp, t2]
    exact Int.mul_le_mul_of_nonneg_right h1 (by omega)
  have f2 : scN p (dgU s) < ((dgC s : Int) + 1) * scD q (dgU s) := by
    apply Int.lt_of_mul_lt_mul_right _ (Int.le_of_lt t0)
    rw [cmp, t2]
    exact Int.mul_lt_mul_of_pos_right h2 hq
  obtain ⟨g1, g2⟩ := near_floor hS f1 f2
  have e5 : (2 : Int) ^ ((53 : Int) - 1).toNat = 4503599627370496 := by decide
  rw [e5] at hk'
  constructor
  · intro h
    rw [g1 ?_] at hk'
    · omega
    · apply Int.lt_of_mul_lt_mul_right _ (Int.le_of_lt t0)
      rw [cmp, Int.mul_assoc, t2, ← Int.mul_assoc]
      exact Int.mul_lt_mul_of_pos_right h hq
  · intro h
    rw [g2 ?_] at hk'
    · omega
    · apply Int.lt_of_mul_lt_mul_right _ (Int.le_of_lt t0)
      rw [cmp, Int.mul_assoc 2, t2, ← Int.mul_assoc]
      exact Int.mul_lt_mul_of_pos_right h hq
theorem rgV_dg (s : Nat) : (rgV s : Int) = (dgC s : Int) * 2 ^ (dgU s + 1074).toNat := by
  unfold rgV dgC dgU
  by_cases h : s < 4503599627370496
  · rw [if_pos h, if_pos (by omega), if_pos (by omega)]
    show _ = _ * (1 : Int)
    omega
  · rw [if_neg h, if_neg (by omega), if_neg (by omega), Int.natCast_mul, Int.natCast_pow]
    congr 2
    omega
theorem rgV_succ (s : Nat) : (rgV (s + 1) : Int) = ((dgC s : Int) + 1) * 2 ^ (dgU s + 1074).toNat := by
  by_cases h : (s + 1) / 4503599627370496 = s / 4503599627370496
  · rw [rgV_dg (s + 1)]
    have e1 : dgU (s + 1) = dgU s := by unfold dgU; rw [h]
    have e2 : dgC (s + 1) = dgC s + 1 := by unfold dgC; rw [h]; split <;> omega
    rw [e1, e2]
    rfl
  · have e0 : s % 4503599627370496 = 4503599627370495 := by omega
    have e3 : (s + 1) / 4503599627370496 = s / 4503599627370496 + 1 := by omega
    have e4 : (s + 1) % 4503599627370496 = 0 := by omega
    rw [rgV_dg (s + 1)]
    have c1 : dgC (s + 1) = 4503599627370496 := by unfold dgC; rw [e3, e4, if_neg (by omega)]
    have u1 : dgU (s + 1) = ((s / 4503599627370496 : Nat) : Int) - 1074 := by unfold dgU; rw [e3, if_neg (by omega)]; omega
    by_cases hz : s / 4503599627370496 = 0
    · have c2 : dgC s = 4503599627370495 := by unfold dgC; rw [if_pos hz, e0]
      have u2 : dgU s = -1074 := by unfold dgU; rw [if_pos hz]
      rw [c1, u1, c2, u2, hz]
      rfl
    · have c2 : dgC s = 9007199254740991 := by unfold dgC; rw [if_neg hz, e0]
      have u2 : dgU s = ((s / 4503599627370496 : Nat) : Int) - 1 - 1074 := by unfold dgU; rw [if_neg hz]; omega
      rw [c1, u1, c2, u2]
      obtain ⟨x, hx⟩ : ∃ x, s / 4503599627370496 = x + 1 := ⟨s / 4503599627370496 - 1, by omega⟩
      rw [hx, show (((x + 1 : Nat) : Int) - 1074 + 1074).toNat = x + 1 from by omega, show (((x + 1 : Nat) : Int) - 1 - 1074 + 1074).toNat = x from by omega, Int.pow_succ]
      generalize (2 : Int) ^ x = z
      omega
/-- Half way between two floats, and a hair to either side. -/
theorem half_round {s : Nat} (hs : s < 9218868437227405312) {p q h : Int} (hq : 0 < q) {E G : Nat} (hE : E = 1201) (hG : G = 126) (h0 : -1 ≤ h) (h1 : h ≤ 1) (hp0 : 0 ≤ p) (hv : p * 2 ^ E = (((rgV s : Int) + rgV (s + 1)) * 2 ^ G + 2 * h) * q) {k : Int} (hk : RoundIs p q 53 (-1074) 971 9218868437227405312 k) :
    (h = -1 → k = s) ∧ (h = 1 → k = s + 1) := by
  obtain ⟨u1, u2⟩ := dgU_lt s hs
  rw [rgV_dg, rgV_succ] at hv
  obtain ⟨D, hD⟩ : ∃ D : Int, D = 2 ^ (dgU s + 1074).toNat := ⟨_, rfl⟩
  have hD0 : 0 < D := by rw [hD]; exact two_pos _
  rw [← hD] at hv
  obtain ⟨g, hg⟩ : ∃ g : Int, g = 2 ^ G := ⟨_, rfl⟩
  have hg0 : 4 ≤ g := by rw [hg, hG]; decide
  rw [← hg] at hv
  obtain ⟨B, hB⟩ : ∃ B : Int, B = 2 ^ ((E : Int) + dgU s).toNat := ⟨_, rfl⟩
  have hBD : B = 2 * (D * g) := by
    rw [hB, hD, hg, show ((E : Int) + dgU s).toNat = (dgU s + 1074).toNat + G + 1 from by omega, Int.pow_succ, Int.pow_add]
    omega
  obtain ⟨m, hm⟩ : ∃ m : Int, m = D * g := ⟨_, rfl⟩
  have hm4 : 4 ≤ m := by
    rw [hm]
    have : 1 * 4 ≤ D * g := Int.mul_le_mul (by omega) hg0 (by decide) (by omega)
    omega
  obtain ⟨c, hc⟩ : ∃ c : Int, c = (dgC s : Int) := ⟨_, rfl⟩
  have hc0 : 0 ≤ c := by omega
  rw [← hc] at hv
  obtain ⟨H, hH⟩ : ∃ H : Int, H = (c * D + (c + 1) * D) * g + 2 * h := ⟨_, rfl⟩
  rw [← hH] at hv
  have hH2 : H = 2 * (c * m) + m + 2 * h := by
    rw [hH, hm]
    grind
  have hcm : 0 ≤ c * m := Int.mul_nonneg hc0 (by omega)
  have hH1 : 0 < H := by omega
  have hp : 0 < p := by
    by_cases hc : 0 < p
    · exact hc
    · have e : p = 0 := by omega
      have t1 : 0 < H * q := Int.mul_pos hH1 hq
      rw [← hv, e, Int.zero_mul] at t1
      omega
  have e1 : (dgC s : Int) * B = 2 * (c * m) := by rw [← hc, hBD, ← hm]; grind
  have e2 : ((dgC s : Int) + 1) * B = 2 * (c * m) + 2 * m := by rw [← hc, hBD, ← hm]; grind
  have e3 : (2 * (dgC s : Int) + 1) * B = 4 * (c * m) + 2 * m := by rw [← hc, hBD, ← hm]; grind
  obtain ⟨r1, r2⟩ := round_between hs hp hq hE hv hB (by rw [e1]; omega) (by rw [e2]; omega) hk
  rw [e3] at r1 r2
  exact ⟨fun hh => r1 (by omega), fun hh => r2 (by omega)⟩
end Go.Proofs.YtmpefgemlpnbiaaGreat
namespace Go.Proofs.YtmpefgemlpnbiaaGreat
set_option linter.unusedVariables false
open Go.RowKit
attribute [local go_sem ↓] Go.wp_at_zero Go.wp_at_succ
theorem read_fin {b : Nat} (hb : b < 18446744073709551616) (hs : b % 9223372036854775808 < 9218868437227405312) : FloatKind.f64.format.read b = .number (decide (9223372036854775808 ≤ b)) (dgC (b % 9223372036854775808)) (dgU (b % 9223372036854775808)) := by
  by_cases h : 9223372036854775808 ≤ b
  · have e : b = b % 9223372036854775808 + 9223372036854775808 := by omega
    rw [decide_eq_true h]
    have := read_neg hs
    rw [← e] at this
    exact this
  · have e : b % 9223372036854775808 = b := by omega
    rw [decide_eq_false h, e]
    rw [e] at hs
    exact read_pos hs
theorem read_inf : FloatKind.f64.format.read 9218868437227405312 = .infinity false := by decide +kernel
theorem order_binf {b : Nat} (hb : b < 18446744073709551616) (hs : b % 9223372036854775808 < 9218868437227405312) : FloatKind.f64.format.order b 9218868437227405312 = some .lt ∧ FloatKind.f64.format.order 9218868437227405312 b = some .gt := by
  unfold Ieee.Format.order
  rw [read_fin hb hs, read_inf]
  exact ⟨rfl, rfl⟩
theorem order_b0 {b : Nat} (hb : b < 18446744073709551616) (hs : b % 9223372036854775808 < 9218868437227405312) : FloatKind.f64.format.order b 0 = some (if b % 9223372036854775808 = 0 then .eq else if 9223372036854775808 ≤ b then .lt else .gt) := by
  by_cases h0 : b % 9223372036854775808 = 0
  · rw [if_pos h0]
    have : b = 0 ∨ b = 9223372036854775808 := by omega
    rcases this with rfl | rfl <;> decide +kernel
  · rw [if_neg h0]
    by_cases h : 9223372036854775808 ≤ b
    · rw [if_pos h]
      unfold Ieee.Format.order
      rw [read_fin hb hs, read_pos (show (0 : Nat) < 9218868437227405312 by decide), decide_eq_true h]
      obtain ⟨_, hc⟩ := dgC_log h0
      have hz : dgC 0 = 0 := rfl
      rw [hz]
      simp only [Ieee.Datum.order, Ieee.signed, Bool.false_eq_true, if_false, if_true]
      rw [Nat.zero_shiftLeft, Nat.shiftLeft_eq]
      have hp := Nat.two_pow_pos (dgU (b % 9223372036854775808) - min (dgU (b % 9223372036854775808)) (dgU 0)).toNat
      have hpos : 0 < dgC (b % 9223372036854775808) * 2 ^ (dgU (b % 9223372036854775808) - min (dgU (b % 9223372036854775808)) (dgU 0)).toNat := Nat.mul_pos (by omega) hp
      generalize dgC (b % 9223372036854775808) * 2 ^ (dgU (b % 9223372036854775808) - min (dgU (b % 9223372036854775808)) (dgU 0)).toNat = a at *
      congr 1
      simp only [compare, compareOfLessAndEq]
      rw [if_pos (by omega)]
    · have e : b % 9223372036854775808 = b := by omega
      rw [e] at hs h0
      rw [if_neg h]
      exact order_zero h0 hs
theorem IsNaN_any (b : Nat) (w : World) (hb : b < 18446744073709551616) : Calls Tryz.prog 60 #[.float .f64 b] w fun e w' => e = .returned (.bool (decide (9218868437227405312 < b % 9223372036854775808))) ∧ w' = w := by
  have ho := order_self b hb
  by_cases h : 9218868437227405312 < b % 9223372036854775808
  · rw [if_pos h] at ho
    rw [decide_eq_true h]
    have d0 : (FloatKind.f64.format.order b b != some .eq) = true := by rw [ho]; rfl
    clear h ho
    go_enter Tryz.func60, Tryz.ntmps60
    go_wp2
    go_ret
    exact ⟨rfl, rfl⟩
  · rw [if_neg h] at ho
    rw [decide_eq_false h]
    have d0 : (FloatKind.f64.format.order b b != some .eq) = false := by rw [ho]; rfl
    clear h ho
    go_enter Tryz.func60, Tryz.ntmps60
    go_wp2
    go_ret
    exact ⟨rfl, rfl⟩
theorem Copysign1 (w : World) : Calls Tryz.prog 42 #[.float .f64 1, .float .f64 9218868437227405312] w fun e w' => e = .returned (.float .f64 1) ∧ w' = w := by
  have hf := from64
  have hc := bits64
  have h1 : bits .andNot .u64 1 9223372036854775808 = 1 := by decide +kernel
  have h2 : bits .and .u64 9218868437227405312 9223372036854775808 = 0 := by decide +kernel
  have h3 : bits .or .u64 1 0 = 1 := by decide +kernel
  go_enter Tryz.func42, Tryz.ntmps42
  go_wp2
  go_ret
  exact ⟨rfl, rfl⟩
/-- The next float above. -/
def nextW (b : Nat) : Nat := if b % 9223372036854775808 = 0 then 1 else if 9223372036854775808 ≤ b then b - 1 else b + 1
theorem Nextafter_any (b : Nat) (w : World) (hb : b < 18446744073709551616) (hs : b % 9223372036854775808 < 9218868437227405312) : Calls Tryz.prog 22 #[.float .f64 b, .float .f64 9218868437227405312] w fun e w' => e = .returned (.float .f64 (nextW b)) ∧ w' = w := by
  have hf := from64
  have hc := bits64
  have k1 : Hid _ := fun w => IsNaN_any b w hb
  have k2 : Hid _ := fun w => IsNaN_any 9218868437227405312 w (by decide)
  rw [decide_eq_false (show ¬ 9218868437227405312 < b % 9223372036854775808 by omega)] at k1
  rw [decide_eq_false (show ¬ 9218868437227405312 < 9218868437227405312 % 9223372036854775808 by decide)] at k2
  obtain ⟨o1, o2⟩ := order_binf hb hs
  have o3 := order_b0 hb hs
  have d1 : (FloatKind.f64.format.order b 9218868437227405312 == some .eq) = false := by rw [o1]; rfl
  have d2 : (FloatKind.f64.format.order 9218868437227405312 b == some .gt) = true := by rw [o2]; rfl
  by_cases h0 : b % 9223372036854775808 = 0
  · rw [if_pos h0] at o3
    have d3 : (FloatKind.f64.format.order b 0 == some .eq) = true := by rw [o3]; rfl
    have hr : nextW b = 1 := by unfold nextW; rw [if_pos h0]
    rw [hr]
    clear o1 o2 o3 hr hb hs h0
    go_enter Tryz.func22, Tryz.ntmps22
    go_wp2_with fail
    refine Calls.mono (k1.out _) ?_
    rintro e w1 ⟨rfl, rfl⟩
    go_wp2_with fail
    refine Calls.mono (k2.out _) ?_
    rintro e w2 ⟨rfl, rfl⟩
    go_wp2_with fail
    refine Calls.mono (Copysign1 _) ?_
    rintro e w3 ⟨rfl, rfl⟩
    go_wp2
    go_ret
    exact ⟨rfl, rfl⟩
  · rw [if_neg h0] at o3
    by_cases h : 9223372036854775808 ≤ b
    · rw [if_pos h] at o3
      have d3 : (FloatKind.f64.format.order b 0 == some .eq) = false := by rw [o3]; rfl
      have d4 : (FloatKind.f64.format.order b 0 == some .gt) = false := by rw [o3]; rfl
      have hr : nextW b = b - 1 := by unfold nextW; rw [if_neg h0, if_pos h]
      have hwr : IntKind.u64.wrap ((b : Int) - 1) = ((b - 1 : Nat) : Int) := by rw [IntKind.wrap_u64]; omega
      rw [hr]
      clear o1 o2 o3 hr hs h0
      go_enter Tryz.func22, Tryz.ntmps22
      go_wp2_with fail
      refine Calls.mono (k1.out _) ?_
      rintro e w1 ⟨rfl, rfl⟩
      go_wp2_with fail
      refine Calls.mono (k2.out _) ?_
      rintro e w2 ⟨rfl, rfl⟩
      go_wp2
      go_ret
      exact ⟨by congr 2, rfl⟩
    · rw [if_neg h] at o3
      have d3 : (FloatKind.f64.format.order b 0 == some .eq) = false := by rw [o3]; rfl
      have d4 : (FloatKind.f64.format.order b 0 == some .gt) = true := by rw [o3]; rfl
      have hr : nextW b = b + 1 := by unfold nextW; rw [if_neg h0, if_neg h]
      have hwr : IntKind.u64.wrap ((b : Int) + 1) = ((b + 1 : Nat) : Int) := by rw [IntKind.wrap_u64]; omega
      rw [hr]
      clear o1 o2 o3 hr hs h0
      go_enter Tryz.func22, Tryz.ntmps22
      go_wp2_with fail
      refine Calls.mono (k1.out _) ?_
      rintro e w1 ⟨rfl, rfl⟩
      go_wp2_with fail
      refine Calls.mono (k2.out _) ?_
      rintro e w2 ⟨rfl, rfl⟩
      go_wp2
      go_ret
      exact ⟨by congr 2, rfl⟩
/-- Whatever else it is handed. -/
theorem Nextafter_some (b : Nat) (w : World) (hb : b < 18446744073709551616) (hs : ¬ b % 9223372036854775808 < 9218868437227405312) : Calls Tryz.prog 22 #[.float .f64 b, .float .f64 9218868437227405312] w fun e w' => ∃ g : Nat, g < 18446744073709551616 ∧ e = .returned (.float .f64 g) ∧ w' = w := by
  have hf := from64
  have hc := bits64
  have k1 : Hid _ := fun w => IsNaN_any b w hb
  have k2 : Hid _ := fun w => IsNaN_any 9218868437227405312 w (by decide)
  rw [decide_eq_false (show ¬ 9218868437227405312 < 9218868437227405312 % 9223372036854775808 by decide)] at k2
  by_cases hn : 9218868437227405312 < b % 9223372036854775808
  · rw [decide_eq_true hn] at k1
    clear hn hs
    go_enter Tryz.func22, Tryz.ntmps22
    go_wp2_with fail
    refine Calls.mono (k1.out _) ?_
    rintro e w1 ⟨rfl, rfl⟩
    go_wp2_with fail
    refine Calls.mono (NaN_any _) ?_
    rintro e w2 ⟨rfl, rfl⟩
    go_wp2
    go_ret
    exact ⟨9221120237041090561, by decide, rfl, rfl⟩
  · rw [decide_eq_false hn] at k1
    have hbb : b = 9218868437227405312 ∨ b = 18442240474082181120 := by omega
    clear hn hs hb
    rcases hbb with rfl | rfl
    · have d1 : (FloatKind.f64.format.order 9218868437227405312 9218868437227405312 == some .eq) = true := by decide +kernel
      go_enter Tryz.func22, Tryz.ntmps22
      go_wp2_with fail
      refine Calls.mono (k1.out _) ?_
      rintro e w1 ⟨rfl, rfl⟩
      go_wp2_with fail
      refine Calls.mono (k2.out _) ?_
      rintro e w2 ⟨rfl, rfl⟩
      go_wp2
      go_ret
      exact ⟨9218868437227405312, by decide, rfl, rfl⟩
    · have d1 : (FloatKind.f64.format.order 18442240474082181120 9218868437227405312 == some .eq) = false := by decide +kernel
      have d2 : (FloatKind.f64.format.order 9218868437227405312 18442240474082181120 == some .gt) = true := by decide +kernel
      have d3 : (FloatKind.f64.format.order 18442240474082181120 0 == some .eq) = false := by decide +kernel
      have d4 : (FloatKind.f64.format.order 18442240474082181120 0 == some .gt) = false := by decide +kernel
      go_enter Tryz.func22, Tryz.ntmps22
      go_wp2_with fail
      refine Calls.mono (k1.out _) ?_
      rintro e w1 ⟨rfl, rfl⟩
      go_wp2_with fail
      refine Calls.mono (k2.out _) ?_
      rintro e w2 ⟨rfl, rfl⟩
      go_wp2
      go_ret
      exact ⟨18442240474082181119, by decide, rfl, rfl⟩
end Go.Proofs.YtmpefgemlpnbiaaGreat
namespace Go.Proofs.YtmpefgemlpnbiaaGreat
set_option linter.unusedVariables false
open Go.RowKit
attribute [local go_sem ↓] Go.wp_at_zero Go.wp_at_succ
/-- A float's worth, with its sign, in units of 2^-1074. -/
def sv (b : Nat) : Int := if 9223372036854775808 ≤ b then -(rgV (b % 9223372036854775808) : Int) else rgV (b % 9223372036854775808)
theorem sv_low {b : Nat} (hb : b < 18446744073709551616) (hs : b % 9223372036854775808 < 9218868437227405312) {P Q : Int} (h : Low (exN b) (exD b) P Q) : Low (sv b) (2 ^ 1074) P Q := by
  obtain ⟨e1, e2⟩ := exN_sign b hb
  obtain ⟨T, t0, t1, t2⟩ := ex_val _ hs
  obtain ⟨hq, hg, he⟩ := h
  refine ⟨hq, hg, ?_⟩
  have e3 : exN b * T = sv b := by
    rw [e1]
    unfold sv
    split
    · rw [Int.neg_mul, t1]
    · exact t1
  have e4 : exD b * T = 2 ^ 1074 := by rw [e2]; exact t2
  rw [← e4, ← e3, ← Int.mul_assoc, he]
  grind
theorem low_as {n d N D p q : Int} (hd : 0 < d) (h : Low n d p q) (e : n * D = N * d) : Low N D p q := by
  obtain ⟨hq, hg, he⟩ := h
  refine ⟨hq, hg, ?_⟩
  have : p * D * d = N * q * d := by
    rw [show p * D * d = p * d * D from by grind, he, show n * q * D = n * D * q from by grind, e]
    grind
  exact Int.eq_of_mul_eq_mul_right (by omega) this
theorem low_sum {N1 N2 D p1 q1 p2 q2 P Q : Int} (h1 : Low N1 D p1 q1) (h2 : Low N2 D p2 q2) (h : Low (pN (p1 * q2 + p2 * q1) (q1 * q2)) (pD (q1 * q2)) P Q) : Low (N1 + N2) D P Q := by
  have hq : 0 < q1 * q2 := Int.mul_pos h1.1 h2.1
  rw [pN_pos hq, pD_of hq] at h
  refine low_as hq h ?_
  have e1 := h1.2.2
  have e2 := h2.2.2
  rw [show (p1 * q2 + p2 * q1) * D = p1 * D * q2 + p2 * D * q1 from by grind, e1, e2]
  grind
theorem low_half {N1 D p1 q1 P Q : Int} (h1 : Low N1 D p1 q1) (h : Low (pN (p1 * 1) (q1 * 2)) (pD (q1 * 2)) P Q) : Low N1 (D * 2) P Q := by
  have hq : 0 < q1 * 2 := Int.mul_pos h1.1 (by decide)
  rw [pN_pos hq, pD_of hq] at h
  refine low_as hq h ?_
  rw [show p1 * 1 * (D * 2) = p1 * D * 2 from by grind, h1.2.2]
  grind
theorem low_hair {d D P Q : Int} (hD : 0 < D) (h : Low (pN (1 * d) (D * 1)) (pD (D * 1)) P Q) : Low d D P Q := by
  rw [Int.one_mul, Int.mul_one, pN_pos hD, pD_of hD] at h
  exact h
theorem low_up {N D P Q k : Int} (h : Low N D P Q) : Low (N * k) (D * k) P Q := by
  obtain ⟨hq, hg, he⟩ := h
  refine ⟨hq, hg, ?_⟩
  rw [← Int.mul_assoc, he]
  grind
theorem sv_lt {b : Nat} (hs : b % 9223372036854775808 < 9218868437227405312) {E : Nat} (hE : E = 2098) : (sv b).natAbs < 2 ^ E := by
  have h : rgV (b % 9223372036854775808) < 2 ^ E := by
    unfold rgV
    split
    · have : (2 : Nat) ^ 52 ≤ 2 ^ E := Nat.pow_le_pow_right (by decide) (by omega)
      omega
    · generalize b % 9223372036854775808 = s at *
      have h1 : (2 : Nat) ^ (53 + (s / 4503599627370496 - 1)) ≤ 2 ^ E := Nat.pow_le_pow_right (by decide) (by omega)
      rw [Nat.pow_add] at h1
      have h2 := Nat.two_pow_pos (s / 4503599627370496 - 1)
      have h3 : (4503599627370496 + s % 4503599627370496) * 2 ^ (s / 4503599627370496 - 1) < 2 ^ 53 * 2 ^ (s / 4503599627370496 - 1) := Nat.mul_lt_mul_of_pos_right (by show _ < 9007199254740992; omega) h2
      omega
  unfold sv
  split <;> omega
theorem two_cast (n : Nat) : ((2 ^ n : Nat) : Int) = 2 ^ n := by rw [Int.natCast_pow]; rfl
theorem low_fit {N D P Q : Int} {E : Nat} (hD : 0 < D) (h : Low N D P Q) (h1 : (N.natAbs : Int) < 2 ^ E) (h2 : D < 2 ^ E) : (P.natAbs : Int) < 2 ^ E ∧ (Q.natAbs : Int) < 2 ^ E := by
  obtain ⟨l1, l2⟩ := low_le hD h
  have := h.1
  omega
theorem pw1200 : pwN (-1200) = 1 ∧ pwD (-1200) = 2 ^ 1200 := by
  unfold pwN pwD
  exact ⟨rfl, rfl⟩
theorem pow_j1 {a b c : Nat} (h : c = a + 1 + b) : (2 : Int) ^ a * 2 * 2 ^ b = 2 ^ c := by rw [h, Int.pow_add, Int.pow_succ]
theorem pow_j2 {a c : Nat} (h : c = a + 1) : (2 : Int) ^ a * 2 = 2 ^ c := by rw [h, Int.pow_succ]
theorem half_all {N1 d P1 Q1 P2 Q2 P Q : Int} {E : Nat} (hE : E = 1201) (h1 : Low N1 (2 ^ 1074 * 2) P1 Q1) (h2 : Low d (2 ^ 1200) P2 Q2) (h : Low (pN (P1 * Q2 + P2 * Q1) (Q1 * Q2)) (pD (Q1 * Q2)) P Q) : Low (N1 * 2 ^ 126 + d * 2) (2 ^ E) P Q := by
  have a1 := low_up (k := 2 ^ 126) h1
  have a2 := low_up (k := 2) h2
  rw [pow_j1 (c := E) (by omega)] at a1
  rw [pow_j2 (c := E) (by omega)] at a2
  exact low_sum a1 a2 h
theorem half_main {s : Nat} (hs : s < 9218868437227405312) {P Q h N1 : Int} {E : Nat} (hE : E = 1201) (h0 : -1 ≤ h) (h1 : h ≤ 1) (hN : N1 = ((rgV s : Int) + rgV (s + 1)) * 2 ^ 126 + h * 2) (e : (P.natAbs : Int) * 2 ^ E = N1 * Q) (hq : 0 < Q) {k : Nat} (hk : R64 P Q k) : (h = -1 → k = s) ∧ (h = 1 → k = s + 1) := by
  have hdA : dA Q = Q := by unfold dA; rw [if_neg (by omega)]; omega
  unfold R64 at hk
  rw [hdA] at hk
  subst hN
  rw [Int.mul_comm h 2] at e
  obtain ⟨r1, r2⟩ := half_round hs hq hE rfl h0 h1 (by omega) e hk
  exact ⟨fun x => by have := r1 x; omega, fun x => by have := r2 x; omega⟩
theorem sum_pos {s : Nat} {h : Int} (h0 : -1 ≤ h) (h1 : h ≤ 1) {G : Nat} (hG : G = 126) : 0 < ((rgV s : Int) + rgV (s + 1)) * 2 ^ G + h * 2 := by
  have h2 : 1 ≤ rgV (s + 1) := Nat.pos_of_ne_zero (rgV_pos (by omega))
  have h3 : (4 : Int) ≤ 2 ^ G := by rw [hG]; decide
  have h4 : 1 * 4 ≤ ((rgV s : Int) + rgV (s + 1)) * 2 ^ G := Int.mul_le_mul (by omega) h3 (by decide) (by omega)
  omega
theorem low_sgn {N D P Q : Int} (hD : 0 < D) (h : Low N D P Q) : (0 < N → 0 < P) ∧ (N < 0 → P < 0) := by
  obtain ⟨hq, _, he⟩ := h
  constructor
  · intro hn
    by_cases hp : 0 < P
    · exact hp
    · have a := Int.mul_pos hn hq
      have b := Int.mul_nonpos_of_nonpos_of_nonneg (show P ≤ 0 by omega) (Int.le_of_lt hD)
      omega
  · intro hn
    by_cases hp : P < 0
    · exact hp
    · have a := Int.mul_neg_of_neg_of_pos hn hq
      have b := Int.mul_nonneg (show 0 ≤ P by omega) (Int.le_of_lt hD)
      omega
theorem order_same {b : Nat} (hb : b < 18446744073709551616) (hs : b % 9223372036854775808 < 9218868437227405312) : FloatKind.f64.format.order b b = some .eq := by
  rw [order_self b hb, if_neg (by omega)]
theorem half_ends {b : Nat} (hb : b < 18446744073709551616) (hs : b % 9223372036854775808 < 9218868437227405312) (hg : nextW b % 9223372036854775808 < 9218868437227405312) {P Q h : Int} {E : Nat} (hE : E = 1201) (h0 : -1 ≤ h) (h1 : h ≤ 1) (hl : Low ((sv b + sv (nextW b)) * 2 ^ 126 + h * 2) (2 ^ E) P Q) {k : Nat} (hk : R64 P Q k) :
    (h = 1 → FloatKind.f64.format.order (sgn64 P Q k) (nextW b) = some .eq) ∧ (h = -1 → FloatKind.f64.format.order (sgn64 P Q k) b = some .eq) := by
  have hq := hl.1
  have he := hl.2.2
  obtain ⟨sg1, sg2⟩ := low_sgn (two_pos E) hl
  by_cases hz : b % 9223372036854775808 = 0
  · have hn : nextW b = 1 := by unfold nextW; rw [if_pos hz]
    have s0 : sv b = 0 := by unfold sv; rw [hz]; split <;> rfl
    have s1 : sv 1 = 1 := rfl
    rw [hn, s0, s1] at he sg1
    have hsum := sum_pos (s := 0) h0 h1 (G := 126) rfl
    have hr0 : ((rgV 0 : Nat) : Int) = 0 := rfl
    have hr1 : ((rgV (0 + 1) : Nat) : Int) = 1 := rfl
    rw [hr0, hr1] at hsum
    have hp := sg1 hsum
    obtain ⟨r1, r2⟩ := half_main (s := 0) (by decide) hE h0 h1 (N1 := (0 + 1) * 2 ^ 126 + h * 2) (by rw [hr0, hr1]) (by rw [show (P.natAbs : Int) = P from by omega]; exact he) hq hk
    rw [sgn64_pos (by omega) hq, hn]
    constructor
    · intro x
      rw [r2 x]
      decide +kernel
    · intro x
      rw [r1 x]
      have : b = 0 ∨ b = 9223372036854775808 := by omega
      rcases this with rfl | rfl <;> decide +kernel
  · by_cases hc : 9223372036854775808 ≤ b
    · have hn : nextW b = b - 1 := by unfold nextW; rw [if_neg hz, if_pos hc]
      obtain ⟨t, ht⟩ : ∃ t, b = t + 1 + 9223372036854775808 := ⟨b - 1 - 9223372036854775808, by omega⟩
      have s0 : sv b = -(rgV (t + 1) : Int) := by unfold sv; rw [if_pos hc, show b % 9223372036854775808 = t + 1 from by omega]
      have s1 : sv (nextW b) = -(rgV t : Int) := by
        rw [hn]
        unfold sv
        rw [if_pos (by omega), show (b - 1) % 9223372036854775808 = t from by omega]
      rw [s0, s1] at he sg2
      have hsum := sum_pos (s := t) (h := -h) (by omega) (by omega) (G := 126) rfl
      obtain ⟨A, hA⟩ : ∃ A : Int, A = 2 ^ 126 := ⟨_, rfl⟩
      rw [← hA] at he sg2 hsum
      have e1 : (-(rgV (t + 1) : Int) + -(rgV t : Int)) * A + h * 2 = -(((rgV t : Int) + rgV (t + 1)) * A + -h * 2) := by grind
      rw [e1] at he sg2
      have hp := sg2 (by omega)
      obtain ⟨r1, r2⟩ := half_main (s := t) (h := -h) (by omega) hE (by omega) (by omega) (N1 := ((rgV t : Int) + rgV (t + 1)) * A + -h * 2) (by rw [hA]) (by rw [show (P.natAbs : Int) = -P from by omega, Int.neg_mul, he, Int.neg_mul, Int.neg_neg]) hq hk
      constructor
      · intro x
        have hkt := r1 (by omega)
        rw [hn]
        by_cases ht0 : t = 0
        · rw [hkt, ht0, sgn64_zero, show b - 1 = 9223372036854775808 from by omega]
          decide +kernel
        · rw [sgn64_neg hp hq (by omega), hkt, show t + 9223372036854775808 = b - 1 from by omega]
          exact order_same (by omega) (by omega)
      · intro x
        have hkt := r2 (by omega)
        rw [sgn64_neg hp hq (by omega), hkt, ← ht]
        exact order_same hb hs
    · have hn : nextW b = b + 1 := by unfold nextW; rw [if_neg hz, if_neg hc]
      have hbm : b % 9223372036854775808 = b := by omega
      have hbs : b < 9218868437227405312 := by omega
      have s0 : sv b = (rgV b : Int) := by unfold sv; rw [if_neg hc, hbm]
      have s1 : sv (nextW b) = (rgV (b + 1) : Int) := by
        rw [hn]
        unfold sv
        rw [if_neg (by omega), show (b + 1) % 9223372036854775808 = b + 1 from by omega]
      rw [s0, s1] at he sg1
      have hsum := sum_pos (s := b) h0 h1 (G := 126) rfl
      have hp := sg1 hsum
      obtain ⟨r1, r2⟩ := half_main (s := b) hbs hE h0 h1 (N1 := ((rgV b : Int) + rgV (b + 1)) * 2 ^ 126 + h * 2) rfl (by rw [show (P.natAbs : Int) = P from by omega]; exact he) hq hk
      rw [sgn64_pos (by omega) hq, hn]
      constructor
      · intro x
        rw [r2 x]
        exact order_same (by omega) (by omega)
      · intro x
        rw [r1 x]
        exact order_same hb hs
end Go.Proofs.YtmpefgemlpnbiaaGreat
namespace Go.Proofs.YtmpefgemlpnbiaaGreat
set_option linter.unusedVariables false
open Go.RowKit
attribute [local go_sem ↓] Go.wp_at_zero Go.wp_at_succ
theorem RefAns.form {w : World} {t : Value} {b : Nat} (h : RefAns w t b) : ∃ n1 a1 l1 c1 n2 a2 l2 c2, t = .agg #[.bool n1, .slice a1 l1 c1, .bool n2, .slice a2 l2 c2] := by
  by_cases hs : b % 9223372036854775808 < 9218868437227405312
  · exact (h.1 hs).form
  · exact (h.2 hs).form
theorem FracE.small {w : World} {v : Value} {p q : Int} {n : Nat} (h : FracE w v p q n) {E : Nat} (hE : E = 2240) (hp : (p.natAbs : Int) < 2 ^ E) (hq : (q.natAbs : Int) < 2 ^ E) : FracE w v p q 70 := by
  refine h.tight 70 ?_ ?_
  · rw [show (4294967296 : Int) = 2 ^ 32 from by decide, ← Int.pow_mul, show 32 * 70 = E from by omega]; exact hp
  · rw [show (4294967296 : Int) = 2 ^ 32 from by decide, ← Int.pow_mul, show 32 * 70 = E from by omega]; exact hq
theorem half_sizes {b g : Nat} (hs : b % 9223372036854775808 < 9218868437227405312) (hg : g % 9223372036854775808 < 9218868437227405312) {E a c : Nat} (hE : E = 2240) (ha : a = 2098) (hc : c = 126) : ((sv b + sv g).natAbs : Int) < 2 ^ E ∧ (2 : Int) ^ 1074 < 2 ^ E ∧ (2 : Int) ^ 1074 * 2 < 2 ^ E ∧ (2 : Int) ^ 1200 < 2 ^ E ∧ (1 : Int) < 2 ^ E ∧ (∀ h : Int, -1 ≤ h → h ≤ 1 → (((sv b + sv g) * 2 ^ c + h * 2).natAbs : Int) < 2 ^ E) ∧ (2 : Int) ^ 1201 < 2 ^ E := by
  have a1 := sv_lt hs ha
  have a2 := sv_lt hg ha
  have lt : ∀ a : Nat, a < E → (2 : Int) ^ a < 2 ^ E := fun a ha => by
    have h1 : (2 : Int) ^ (a + 1) ≤ 2 ^ E := pow_le2 (by omega)
    have h2 := two_pos a
    rw [Int.pow_succ] at h1
    omega
  have c0 := two_cast a
  generalize sv b = x at *
  generalize sv g = y at *
  obtain ⟨X, hX⟩ : ∃ X : Int, X = 2 ^ a := ⟨_, rfl⟩
  rw [← hX] at c0
  have b1 : (x.natAbs : Int) < X := by rw [← c0]; exact_mod_cast a1
  have b2 : (y.natAbs : Int) < X := by rw [← c0]; exact_mod_cast a2
  have hsum : ((x + y).natAbs : Int) < X * 2 := by omega
  have hX2 : X * 2 = 2 ^ (a + 1) := by rw [hX, ← Int.pow_succ]
  clear a1 a2 c0 b1 b2
  refine ⟨?_, lt _ (by omega), ?_, lt _ (by omega), ?_, ?_, lt _ (by omega)⟩
  · have := lt (a + 1) (by omega)
    omega
  · rw [← Int.pow_succ]
    exact lt _ (by omega)
  · exact lt 0 (by omega)
  · intro h h0 h1
    obtain ⟨A, hA⟩ : ∃ A : Int, A = 2 ^ c := ⟨_, rfl⟩
    have hA0 : 4 ≤ A := by rw [hA, hc]; decide
    have k1 := lt (a + 1 + c + 1) (by omega)
    rw [Int.pow_succ, Int.pow_add, ← hX2, ← hA] at k1
    rw [← hA]
    have e1 : (((x + y) * A).natAbs : Int) = ((x + y).natAbs : Int) * A := by
      rw [Int.natAbs_mul, Int.natCast_mul]
      congr 1
      omega
    have e2 : ((x + y).natAbs : Int) * A < X * 2 * A := Int.mul_lt_mul_of_pos_right hsum (by omega)
    have e3 : 1 * 4 ≤ X * 2 * A := Int.mul_le_mul (by omega) hA0 (by decide) (by omega)
    generalize (x + y) * A = m at *
    generalize X * 2 * A = M at *
    generalize ((x + y).natAbs : Int) * A = m' at *
    generalize (2 : Int) ^ E = Z at *
    clear hX hX2 lt hE ha hc
    omega
theorem step_shut {P : Program} {ops : Array Oper} {Q : Exit → Act → World → Prop} {V : Nat → Value → World → Prop} {N : Nat} {w : World} {o : Oper} (g d e : Nat) (p : Bool) (h : o.guard = some (g, p)) (hd : (ops[g]?).bind (·.dst) = some d) (hl : (o.looksAt ops).contains d = true) (hv : ∀ v w, V d v w → v ≠ .bool p) (he : o.dst = some e) (hu : ∀ w, V e undef w) : StepOk P ops Q V N w o := by
  intro b w' hs hB hb K hK
  have hne := hv _ _ (look hb d hl)
  have hw : Region.wanted o (yielded ops b.tmps) = false := by
    unfold Region.wanted
    rw [h]
    show (yielded ops b.tmps g == some p) = false
    rw [beq_eq_false_iff_ne]
    intro hy
    unfold yielded at hy
    rw [hd] at hy
    simp only [Option.bind_some] at hy
    rw [Array.getD_eq_getD_getElem?] at hne
    split at hy
    · rename_i c hc
      cases hy
      rw [hc] at hne
      exact hne rfl
    · cases hy
  rw [if_neg (by rw [hw]; decide)]
  exact hK undef w' (Below.refl _ _) (dst_eq he (hu _))
theorem guard_open {ops : Array Oper} {V : Nat → Value → World → Prop} {o : Oper} (g d : Nat) (p : Bool) (h : o.guard = some (g, p)) (hd : (ops[g]?).bind (·.dst) = some d) (hl : (o.looksAt ops).contains d = true) (hv : ∀ v w, V d v w → v = .bool p) : GuardOk ops V o := by
  intro b w' hb
  have := hv _ _ (look hb d hl)
  simp [Region.wanted, h, yielded_of hd this]
def hfM (G : Nat) (R : Value) (A b g : Nat) (t : Nat) (v : Value) (w : World) : Prop := match t with
  | 2 => v = .int .i64 (-1)
  | 6 => v = .bool true
  | 7 => v = .bool true
  | 8 => v = .float .f64 b
  | 9 => v = .float .f64 g
  | 14 => v = .pointer (some ⟨G, 0, none⟩)
  | 15 => v = .float .f64 A
  | 63 => v = .bool true
  | 64 => v = .bool true
  | 65 => v = .float .f64 A
  | 66 => v = .int .u64 A
  | 67 => v = R
  | 68 => v = .float .f64 A
  | 69 => v = .int .u64 A
  | 70 => v = .bool true
  | 71 => v = .bool true
  | 72 => v = .bool true
  | 73 => v = .int .i64 (-1)
  | 74 => v = .bool true
  | 75 => v = .bool true
  | 79 => v = .bool true
  | 80 => v = .bool true
  | 83 => v = .bool true
  | 84 => v = .bool true
  | 85 => v = .bool true
  | 86 => v = .int .i64 (-1)
  | 87 => v = .bool false
  | 88 => v = .bool false
  | 89 => v = .float .f64 A
  | 90 => v = .float .f64 b
  | 91 => v = .bool true
  | 92 => v = .bool true
  | 93 => v = .bool true
  | _ => True
theorem hfM_next (G : Nat) (R : Value) (A b g : Nat) (t : Nat) (v : Value) (w w' : World) (hb : Below w.heap.size w w') (h : hfM G R A b g t v w) : hfM G R A b g t v w' := h
def hfZ (G : Nat) (R : Value) (A b g : Nat) (t : Nat) (v : Value) (w : World) : Prop := match t with
  | 2 => v = .int .i64 0
  | 6 => v = .bool true
  | 7 => v = .bool true
  | 8 => v = .float .f64 b
  | 9 => v = .float .f64 g
  | 14 => v = .pointer (some ⟨G, 0, none⟩)
  | 15 => v = .float .f64 A
  | 63 => v = .bool true
  | 64 => v = .bool true
  | 65 => v = .float .f64 A
  | 66 => v = .int .u64 A
  | 67 => v = R
  | 68 => v = .float .f64 A
  | 69 => v = .int .u64 A
  | 70 => v = .bool true
  | 71 => v = .bool true
  | 72 => v = .bool true
  | 73 => v = .int .i64 0
  | 74 => v = .bool true
  | 75 => v = .bool true
  | 79 => v = .bool true
  | 80 => v = .bool true
  | 83 => v = .bool true
  | 84 => v = .bool true
  | 85 => v = .bool true
  | 86 => v = .int .i64 0
  | 87 => v = .bool true
  | 88 => v = .bool true
  | 92 => v = .bool true
  | 93 => v = .bool true
  | _ => True
theorem hfZ_next (G : Nat) (R : Value) (A b g : Nat) (t : Nat) (v : Value) (w w' : World) (hb : Below w.heap.size w w') (h : hfZ G R A b g t v w) : hfZ G R A b g t v w' := h
def hfP (G : Nat) (R : Value) (A b g : Nat) (t : Nat) (v : Value) (w : World) : Prop := match t with
  | 2 => v = .int .i64 1
  | 6 => v = .bool true
  | 7 => v = .bool true
  | 8 => v = .float .f64 b
  | 9 => v = .float .f64 g
  | 14 => v = .pointer (some ⟨G, 0, none⟩)
  | 15 => v = .float .f64 A
  | 63 => v = .bool true
  | 64 => v = .bool true
  | 65 => v = .float .f64 A
  | 66 => v = .int .u64 A
  | 67 => v = R
  | 68 => v = .float .f64 A
  | 69 => v = .int .u64 A
  | 70 => v = .bool true
  | 71 => v = .bool true
  | 72 => v = .bool true
  | 73 => v = .int .i64 1
  | 74 => v = .bool false
  | 75 => v = .bool false
  | 76 => v = .float .f64 A
  | 77 => v = .float .f64 g
  | 78 => v = .bool true
  | 79 => v = .bool true
  | 80 => v = .bool true
  | 83 => v = .bool true
  | 84 => v = .bool true
  | 85 => v = .bool true
  | 86 => v = .int .i64 1
  | 87 => v = .bool true
  | 88 => v = .bool true
  | 92 => v = .bool true
  | 93 => v = .bool true
  | _ => True
theorem hfP_next (G : Nat) (R : Value) (A b g : Nat) (t : Nat) (v : Value) (w w' : World) (hb : Below w.heap.size w w') (h : hfP G R A b g t v w) : hfP G R A b g t v w' := h
set_option maxRecDepth 20000 in
set_option maxHeartbeats 8000000 in
theorem floatHalf_any (b : Nat) (up : Bool) (h : Int) (w : World) (hb : b < 18446744073709551616) :
    Calls Tryz.prog 4 #[.int .u64 b, .bool up, .int .i64 h] w fun e w' => e = .returned (.bool true) ∧ Below w.heap.size w w' := by
  have hf := from64
  by_cases hs : b % 9223372036854775808 < 9218868437227405312
  · have hok : exOk b = true := by unfold exOk; exact decide_eq_true hs
    have kx : Hid _ := fun w => Exact24_num b w hb
    rw [hok] at kx
    have hg0 : nextW b < 18446744073709551616 := by unfold nextW; split <;> (try split) <;> omega
    have ky : Hid _ := fun w => Exact24_num (nextW b) w hg0
    by_cases hg : nextW b % 9223372036854775808 < 9218868437227405312
    · have hok2 : exOk (nextW b) = true := by unfold exOk; exact decide_eq_true hg
      rw [hok2] at ky
      have hends : Hid (∀ (P Q : Int) (k : Nat), -1 ≤ h → h ≤ 1 → Low ((sv b + sv (nextW b)) * 2 ^ 126 + h * 2) (2 ^ 1201) P Q → R64 P Q k → (h = 1 → FloatKind.f64.format.order (sgn64 P Q k) (nextW b) = some .eq) ∧ (h = -1 → FloatKind.f64.format.order (sgn64 P Q k) b = some .eq)) := fun P Q k h0 h1 hl hk => half_ends hb hs hg rfl h0 h1 hl hk
      have hsz : Hid _ := half_sizes hs hg (E := 2240) (a := 2098) (c := 126) rfl rfl rfl
      have svb : Hid (∀ P Q, Low (exN b) (exD b) P Q → Low (sv b) (2 ^ 1074) P Q) := fun P Q hl => sv_low hb hs hl
      have svg : Hid (∀ P Q, Low (exN (nextW b)) (exD (nextW b)) P Q → Low (sv (nextW b)) (2 ^ 1074) P Q) := fun P Q hl => sv_low hg0 hg hl
      go_enter Tryz.func4, Tryz.ntmps4
      go_wp2_with fail
      refine Calls.mono (begun_said w) ?_
      rintro e w1 ⟨rfl, b1⟩
      go_wp2_with fail
      refine Calls.mono (InfP_any _) ?_
      rintro e w2 ⟨rfl, rfl⟩
      go_wp2_with fail
      refine Calls.mono (Nextafter_any b _ hb hs) ?_
      rintro e w3 ⟨rfl, rfl⟩
      go_wp2_with fail
      refine Calls.mono (kx.out _) ?_
      rintro e w4 ⟨t4, rfl, hX, b4⟩
      obtain ⟨n1, a1, l1, c1, n2, a2, l2, c2, rfl⟩ := hX.form
      obtain ⟨W4, hW4, b5, x0, e0, e1, e2, e3⟩ := box34 w4 n1 a1 l1 c1 n2 a2 l2 c2
      replace hX := refAns_next hX b5
      have hB := bthen b1 (bthen b4 b5)
      clear b1 b4 b5 kx
      go_upto_region 5 with fail
      rw [← hW4]
      clear hW4
      generalize w4.heap.size = G4 at *
      go_wp2_with fail
      refine Calls.mono (ky.out _) ?_
      rintro e w5 ⟨t5, rfl, hY, b6⟩
      obtain ⟨n3, a3, l3, c3, n4, a4, l4, c4, rfl⟩ := hY.form
      obtain ⟨W5, hW5, b7, x1, r0, r1, r2, r3⟩ := box34 w5 n3 a3 l3 c3 n4 a4 l4 c4
      have b67 := bthen b6 b7
      replace hX := refAns_next hX b67
      replace hY := refAns_next hY b7
      replace e0 := keep_cell b67 e0
      replace e1 := keep_cell b67 e1
      replace e2 := keep_cell b67 e2
      replace e3 := keep_cell b67 e3
      replace hB := bthen hB b67
      clear b6 b7 b67 ky x0
      go_upto_region 6 with fail
      rw [← hW5]
      clear hW5
      generalize w5.heap.size = G5 at *
      replace hX := hX.1 hs
      replace hY := hY.1 hg
      clear hok hok2 hg0 hg hs hb
      generalize nextW b = g at *
      by_cases hlo : h < -1
      · have d1 : decide (h < -1) = true := decide_eq_true hlo
        clear hX hY hends hsz svb svg
        go_wp2
        go_ret
        exact ⟨rfl, hB⟩
      · have d1 : decide (h < -1) = false := decide_eq_false hlo
        by_cases hhi : h > 1
        · have d2 : decide (h > 1) = true := decide_eq_true hhi
          clear hX hY hends hsz svb svg
          go_wp2
          go_ret
          exact ⟨rfl, hB⟩
        · have d2 : decide (h > 1) = false := decide_eq_false hhi
          obtain ⟨P1, Q1, hX, lx⟩ := hX
          obtain ⟨P2, Q2, hY, ly⟩ := hY
          replace lx := svb.out _ _ lx
          replace ly := svg.out _ _ ly
          have hl1 : Hid (Low _ _ P1 Q1) := lx
          have hl2 : Hid (Low _ _ P2 Q2) := ly
          have hz : Hid (Q1 * Q2 ≠ 0) := by have := Int.mul_pos lx.1 ly.1; show _ ≠ _; omega
          clear lx ly svb svg
          go_wp2_with fail
          refine Calls.mono (AddRat_num hX hY (by decide) hz.out) ?_
          rintro e w6 ⟨t6, rfl, ⟨S, Sq, hS, ls⟩, b6⟩
          have hls : Hid (Low (sv b + sv g) (2 ^ 1074) S Sq) := low_sum hl1.out hl2.out ls
          replace hS := hS.fit 140 (E := 2240) rfl (low_fit (two_pos _) hls.out hsz.out.1 hsz.out.2.1).1 (low_fit (two_pos _) hls.out hsz.out.1 hsz.out.2.1).2
          clear hX hY ls hl1 hl2 hz
          go_wp2_with fail
          refine Calls.mono (rOf_any 2 _ (by decide) (by decide)) ?_
          rintro e w7 ⟨t7, rfl, hO, b7⟩
          go_wp2_with fail
          refine Calls.mono (rWhole_num hO.rint) ?_
          rintro e w8 ⟨t8, rfl, hQ, b8⟩
          have hz : Hid (Sq * 2 ≠ 0) := by have := hls.out.1; show _ ≠ _; omega
          go_wp2_with fail
          refine Calls.mono (QuoRat_num (hS.next (bthen b7 b8)) (hQ.more (by decide)) (by decide) hz.out) ?_
          rintro e w9 ⟨t9, rfl, ⟨T, Tq, hT, lt⟩, b9⟩
          have hlt : Hid (Low (sv b + sv g) (2 ^ 1074 * 2) T Tq) := low_half hls.out lt
          have hD2 : (0 : Int) < 2 ^ 1074 * 2 := Int.mul_pos (two_pos _) (by decide)
          replace hT := hT.fit 140 (E := 2240) rfl (low_fit hD2 hlt.out hsz.out.1 hsz.out.2.2.1).1 (low_fit hD2 hlt.out hsz.out.1 hsz.out.2.2.1).2
          clear hS hO hQ lt hz hls hD2
          have qS := hB.size
          obtain ⟨n5, a5, l5, c5, n6, a6, l6, c6, rfl⟩ := hT.form
          obtain ⟨W9, hW9, b10, x2, s0, s1, s2, s3⟩ := box34 w9 n5 a5 l5 c5 n6 a6 l6 c6
          replace hT := hT.next b10
          replace hB := bthen hB (bthen b6 (bthen b7 (bthen b8 (bthen b9 b10))))
          have hG9 : w.heap.size ≤ w9.heap.size := by
            have q1 := hB.size
            have q2 : W9.heap.size = w9.heap.size + 1 := by rw [hW9]; simp
            have := (bthen b6 (bthen b7 (bthen b8 b9))).size
            have := x1.noint.lt
            omega
          clear b6 b7 b8 b9 b10 e0 e1 e2 e3 r0 r1 r2 r3 x1
          go_upto_region 9 with fail
          rw [← hW9]
          clear hW9
          generalize w9.heap.size = G9 at *
          have hD0 : Below W9.heap.size W9 W9.drew := (Below.refl _ _).drew
          obtain ⟨pn, pd⟩ := pw1200
          replace pn : Hid _ := pn
          replace pd : Hid _ := pd
          go_cut [] from 53 (fun wc => ∃ (n7 : Bool) (a7 : Option Addr) (l7 c7 : Nat) (n8 : Bool) (a8 : Option Addr) (l8 c8 : Nat), wc.cell? ⟨G9, 0, none⟩ = some (.bool n7) ∧ wc.cell? ⟨G9, 1, none⟩ = some (.slice a7 l7 c7) ∧ wc.cell? ⟨G9, 2, none⟩ = some (.bool n8) ∧ wc.cell? ⟨G9, 3, none⟩ = some (.slice a8 l8 c8) ∧ Below w.heap.size w wc ∧ ∃ P Q, RatR wc (.agg #[.bool n7, .slice a7 l7 c7, .bool n8, .slice a8 l8 c8]) P Q 140 ∧ Hid (Low ((sv b + sv g) * 2 ^ 126 + h * 2) (2 ^ 1201) P Q))
          case first =>
            go_region_with (first
              | (go_at_call 13; refine Calls.mono (power_num (-1200) _ (by decide) (by decide)) ?_; rintro e v1 ⟨t, rfl, hP, hb1⟩; have hB1 : Below W9.heap.size W9 v1 := bthen hD0 hb1; rw [pn.out, pd.out] at hP; have p0 := keep_cell hB1 s0; have p1 := keep_cell hB1 s1; have p2 := keep_cell hB1 s2; have p3 := keep_cell hB1 s3)
              | (go_at_call 28; refine Calls.mono (rOf_any h _ (by omega) (by omega)) ?_; rintro e v2 ⟨t, rfl, hO, hb2⟩; have hB2 : Below W9.heap.size W9 v2 := bthen hB1 hb2; have q0 := keep_cell hB2 s0; have q1 := keep_cell hB2 s1; have q2 := keep_cell hB2 s2; have q3 := keep_cell hB2 s3)
              | (go_at_call 27; refine Calls.mono (rWhole_num hO.rint) ?_; rintro e v3 ⟨t, rfl, hQ, hb3⟩; have hB3 : Below W9.heap.size W9 v3 := bthen hB2 hb3; have u0 := keep_cell hB3 s0; have u1 := keep_cell hB3 s1; have u2 := keep_cell hB3 s2; have u3 := keep_cell hB3 s3)
              | (go_at_call 11; refine Calls.mono (MulRat_num (hP.next (bthen hb2 hb3)) (hQ.more (by decide)) (by decide) (by show (2 : Int) ^ 1200 * 1 ≠ 0; have := two_pos 1200; omega)) ?_; rintro e v4 ⟨t, rfl, hM, hb4⟩; have hB4 : Below W9.heap.size W9 v4 := bthen hB3 hb4; have o0 := keep_cell hB4 s0; have o1 := keep_cell hB4 s1; have o2 := keep_cell hB4 s2; have o3 := keep_cell hB4 s3; obtain ⟨M, Mq, hM, lm⟩ := hM; replace lm : Hid _ := low_hair (two_pos _) lm; replace hM := hM.fit 140 (E := 2240) rfl (low_fit (two_pos _) lm.out (by have := hsz.out.2.2.2.2.1; omega) hsz.out.2.2.2.1).1 (low_fit (two_pos _) lm.out (by have := hsz.out.2.2.2.2.1; omega) hsz.out.2.2.2.1).2; have hz : Hid (Tq * Mq ≠ 0) := (by have := Int.mul_pos hlt.out.1 lm.out.1; show _ ≠ _; omega))
              | (go_at_call 26; refine Calls.mono (AddRat_num (hT.next hB4) hM (by decide) hz.out) ?_; rintro e v5 ⟨t, rfl, hA, hb5⟩; have hB5 : Below W9.heap.size W9 v5 := bthen hB4 hb5; obtain ⟨P, Q, hA, la⟩ := hA; replace la : Hid _ := half_all (E := 1201) rfl hlt.out lm.out la; replace hA := hA.fit 140 (E := 2240) rfl (low_fit (two_pos _) la.out (hsz.out.2.2.2.2.2.1 h (by omega) (by omega)) hsz.out.2.2.2.2.2.2).1 (low_fit (two_pos _) la.out (hsz.out.2.2.2.2.2.1 h (by omega) (by omega)) hsz.out.2.2.2.2.2.2).2; obtain ⟨n7, a7, l7, c7, n8, a8, l8, c8, rfl⟩ := hA.form; have y0 := x2.next hB5; obtain ⟨_, _, _, _, _, _, _, _, j0, j1, j2, j3, f⟩ := y0.cells; have f0 := f 0; have f1 := f 1; have f2 := f 2; have f3 := f 3; clear f))
            all_goals
              obtain ⟨V, hV, hch, hbx, v0, v1', v2', v3'⟩ := put_one y0 n7 a7 l7 c7 n8 a8 l8 c8
              have hAV : Hid _ := hA.chg hch y0.noint
              have hBV : Below w.heap.size w V := (bthen hB hB5).trans (hch.below _ hG9)
              clear hA hM hP hO hQ hT lm hz hch hbx hb1 hb2 hb3 hb4 hb5 hB1 hB2 hB3 hB4 hB5 hlt
              go_wp2
              rw [← hV]
              go_meet
              case rel => exact ⟨n7, a7, l7, c7, n8, a8, l8, c8, v0, v1', v2', v3', hBV, P, Q, hAV.out, la⟩
          case rest =>
            obtain ⟨n7, a7, l7, c7, n8, a8, l8, c8, v0, v1, v2, v3, hBc, P, Q, hR, la⟩ := hcut
            clear hT hB s0 s1 s2 s3 x2 hlt pn pd hD0
            have qQ : 0 < Q := la.out.1
            have hsm := low_fit (two_pos _) la.out (hsz.out.2.2.2.2.2.1 h (by omega) (by omega)) hsz.out.2.2.2.2.2.2
            replace hsm : Hid _ := hsm
            go_upto_region 10 with fail
            go_wp2_with fail
            refine Calls.mono (ToRat_num hR (by decide)) ?_
            rintro e w10 ⟨t10, rfl, hF, b10⟩
            replace hF := hF.small rfl hsm.out.1 hsm.out.2
            go_wp2_with fail
            refine Calls.mono (Round64_num hF.frac (by decide)) ?_
            rintro e w11 ⟨k, rfl, hk, b11⟩
            have b12 := bthen b10 b11
            replace hR := hR.next b12
            replace v0 := keep_cell b12 v0
            replace v1 := keep_cell b12 v1
            replace v2 := keep_cell b12 v2
            replace v3 := keep_cell b12 v3
            replace hBc := bthen hBc b12
            obtain ⟨hE1, hE2⟩ := hends.out P Q k (by omega) (by omega) la.out hk
            have kR : Hid (∀ w', Below w11.heap.size w11 w' → Calls Tryz.prog 16 #[.agg #[.bool n7, .slice a7 l7 c7, .bool n8, .slice a8 l8 c8]] w' fun e w'' => e = .returned (.float .f64 (sgn64 P Q k)) ∧ Below w'.heap.size w' w'') := fun w' hw => by
              refine (Round64R_num ((hR.next hw).more (by decide)) qQ).mono ?_
              rintro e w'' ⟨k', rfl, hk', hb'⟩
              rw [R64.uniq hk' hk]
              exact ⟨rfl, hb'⟩
            generalize sgn64 P Q k = A at *
            replace hE1 : Hid _ := hE1
            replace hE2 : Hid _ := hE2
            have hc := bits64
            have hD0 : Below w11.heap.size w11 w11.drew := (Below.refl _ _).drew
            clear hF hk b10 b11 b12 hR hends hsz hsm la qQ
            have h3 : h = -1 ∨ h = 0 ∨ h = 1 := by omega
            clear d1 d2 hlo hhi
            go_upto_region 11 with fail
            rcases h3 with rfl | rfl | rfl
            · have d3 : (FloatKind.f64.format.order A b == some .eq) = true := by rw [hE2.out rfl]; rfl
              clear hE1 hE2
              refine wp_region_typed (hfM G9 (.agg #[.bool n7, .slice a7 l7 c7, .bool n8, .slice a8 l8 c8]) A b g) [2, 7, 8, 9, 14, 15] 94 (by kernel_rfl) (by kernel_rfl) rfl (hfM_next _ _ _ _ _) ?hstart ?hstep ?hend
              case hstart =>
                intro t ht
                simp only [List.mem_cons, List.not_mem_nil, or_false] at ht
                rcases ht with rfl | rfl | rfl | rfl | rfl | rfl <;> rfl
              case hstep =>
                refine steps_cons ?s0 (steps_cons ?s1 (steps_cons ?s2 (steps_cons ?s3 (steps_cons ?s4 (steps_cons ?s5 (steps_cons ?s6 (steps_cons ?s7 (steps_cons ?s8 (steps_cons ?s9 (steps_cons ?s10 (steps_cons ?s11 (steps_cons ?s12 (steps_cons ?s13 (steps_cons ?s14 (steps_cons ?s15 (steps_cons ?s16 (steps_cons ?s17 (steps_cons ?s18 (steps_cons ?s19 (steps_cons ?s20 (steps_cons ?s21 (steps_cons ?s22 (steps_cons ?s23 (steps_cons ?s24 (steps_cons ?s25 (steps_cons ?s26 (steps_cons ?s27 (steps_cons ?s28 (steps_cons ?s29 (steps_cons ?s30 (steps_cons ?s31 (steps_nil))))))))))))))))))))))))))))))))
                case s0 => exact step_move 7 63 rfl rfl (guard_none rfl) (by kernel_rfl) (fun v w h => h)
                case s1 => exact step_move 63 64 rfl rfl (guard_none rfl) (by kernel_rfl) (fun v w h => h)
                case s2 => exact step_move 15 65 rfl rfl (guard_open 1 64 true rfl (by kernel_rfl) (by kernel_rfl) (fun v w h => h)) (by kernel_rfl) (fun v w h => h)
                case s3 =>
                  refine StepOk.of (guard_open 1 64 true rfl (by kernel_rfl) (by kernel_rfl) (fun v w h => h)) fun b' w' hsz hW hl K hK => ?_
                  clear hsz
                  unfold Oper.wp
                  have e65 : b'.tmps[65]?.getD undef = .float .f64 A := getD' (look hl 65 (by kernel_rfl))
                  go_simp
                  exact hK _ _ (Below.refl _ _) (dst_eq rfl rfl)
                case s4 => exact StepOk.of (guard_open 1 64 true rfl (by kernel_rfl) (by kernel_rfl) (fun v w h => h)) fun b w' hsz hW hl K hK => ld34 (keep_cell hW v0) (keep_cell hW v1) (keep_cell hW v2) (keep_cell hW v3) 14 rfl (look hl 14 (by kernel_rfl)) (hK _ _ (Below.refl _ _) (dst_eq rfl rfl))
                case s5 => exact step_call1 16 67 68 _ (by kernel_rfl) rfl rfl (guard_open 1 64 true rfl (by kernel_rfl) (by kernel_rfl) (fun v w h => h)) (by kernel_rfl) (fun v w' hB' hv => by subst hv; exact (kR.out _ hB').mono fun e w'' h => ⟨_, h.1, rfl, h.2⟩)
                case s6 =>
                  refine StepOk.of (guard_open 1 64 true rfl (by kernel_rfl) (by kernel_rfl) (fun v w h => h)) fun b' w' hsz hW hl K hK => ?_
                  clear hsz
                  unfold Oper.wp
                  have e68 : b'.tmps[68]?.getD undef = .float .f64 A := getD' (look hl 68 (by kernel_rfl))
                  go_simp
                  exact hK _ _ (Below.refl _ _) (dst_eq rfl rfl)
                case s7 =>
                  refine StepOk.of (guard_open 1 64 true rfl (by kernel_rfl) (by kernel_rfl) (fun v w h => h)) fun b' w' hsz hW hl K hK => ?_
                  clear hsz
                  unfold Oper.wp
                  have e66 : b'.tmps[66]?.getD undef = .int .u64 A := getD' (look hl 66 (by kernel_rfl))
                  have e69 : b'.tmps[69]?.getD undef = .int .u64 A := getD' (look hl 69 (by kernel_rfl))
                  go_simp
                  exact hK _ _ (Below.refl _ _) (dst_eq rfl rfl)
                case s8 =>
                  refine StepOk.of (guard_none rfl) fun b' w' hsz hW hl K hK => ?_
                  clear hsz
                  unfold Oper.wp
                  have e64 : b'.tmps[64]?.getD undef = .bool true := getD' (look hl 64 (by kernel_rfl))
                  have e70 : b'.tmps[70]?.getD undef = .bool true := getD' (look hl 70 (by kernel_rfl))
                  go_simp
                  exact hK _ _ (Below.refl _ _) (dst_eq rfl rfl)
                case s9 => exact step_move 71 72 rfl rfl (guard_none rfl) (by kernel_rfl) (fun v w h => h)
                case s10 => exact step_move 2 73 rfl rfl (guard_open 9 72 true rfl (by kernel_rfl) (by kernel_rfl) (fun v w h => h)) (by kernel_rfl) (fun v w h => h)
                case s11 =>
                  refine StepOk.of (guard_open 9 72 true rfl (by kernel_rfl) (by kernel_rfl) (fun v w h => h)) fun b' w' hsz hW hl K hK => ?_
                  clear hsz
                  unfold Oper.wp
                  have e73 : b'.tmps[73]?.getD undef = .int .i64 (-1) := getD' (look hl 73 (by kernel_rfl))
                  go_simp
                  exact hK _ _ (Below.refl _ _) (dst_eq rfl rfl)
                case s12 => exact step_move 74 75 rfl rfl (guard_open 9 72 true rfl (by kernel_rfl) (by kernel_rfl) (fun v w h => h)) (by kernel_rfl) (fun v w h => h)
                case s13 => exact step_shut 12 75 76 false rfl (by kernel_rfl) (by kernel_rfl) (fun v w h => by rw [show v = .bool true from h]; intro hh; cases hh) rfl (fun w => trivial)
                case s14 => exact step_shut 12 75 77 false rfl (by kernel_rfl) (by kernel_rfl) (fun v w h => by rw [show v = .bool true from h]; intro hh; cases hh) rfl (fun w => trivial)
                case s15 => exact step_shut 12 75 78 false rfl (by kernel_rfl) (by kernel_rfl) (fun v w h => by rw [show v = .bool true from h]; intro hh; cases hh) rfl (fun w => trivial)
                case s16 =>
                  refine StepOk.of (guard_open 9 72 true rfl (by kernel_rfl) (by kernel_rfl) (fun v w h => h)) fun b' w' hsz hW hl K hK => ?_
                  clear hsz
                  unfold Oper.wp
                  have e75 : b'.tmps[75]?.getD undef = .bool true := getD' (look hl 75 (by kernel_rfl))
                  go_simp
                  exact hK _ _ (Below.refl _ _) (dst_eq rfl rfl)
                case s17 => exact step_move 79 80 rfl rfl (guard_open 9 72 true rfl (by kernel_rfl) (by kernel_rfl) (fun v w h => h)) (by kernel_rfl) (fun v w h => h)
                case s18 => exact step_shut 17 80 81 false rfl (by kernel_rfl) (by kernel_rfl) (fun v w h => by rw [show v = .bool true from h]; intro hh; cases hh) rfl (fun w => trivial)
                case s19 => exact step_shut 17 80 82 false rfl (by kernel_rfl) (by kernel_rfl) (fun v w h => by rw [show v = .bool true from h]; intro hh; cases hh) rfl (fun w => trivial)
                case s20 =>
                  refine StepOk.of (guard_open 9 72 true rfl (by kernel_rfl) (by kernel_rfl) (fun v w h => h)) fun b' w' hsz hW hl K hK => ?_
                  clear hsz
                  unfold Oper.wp
                  have e80 : b'.tmps[80]?.getD undef = .bool true := getD' (look hl 80 (by kernel_rfl))
                  go_simp
                  exact hK _ _ (Below.refl _ _) (dst_eq rfl rfl)
                case s21 =>
                  refine StepOk.of (guard_none rfl) fun b' w' hsz hW hl K hK => ?_
                  clear hsz
                  unfold Oper.wp
                  have e72 : b'.tmps[72]?.getD undef = .bool true := getD' (look hl 72 (by kernel_rfl))
                  have e83 : b'.tmps[83]?.getD undef = .bool true := getD' (look hl 83 (by kernel_rfl))
                  go_simp
                  exact hK _ _ (Below.refl _ _) (dst_eq rfl rfl)
                case s22 => exact step_move 84 85 rfl rfl (guard_none rfl) (by kernel_rfl) (fun v w h => h)
                case s23 => exact step_move 2 86 rfl rfl (guard_open 22 85 true rfl (by kernel_rfl) (by kernel_rfl) (fun v w h => h)) (by kernel_rfl) (fun v w h => h)
                case s24 =>
                  refine StepOk.of (guard_open 22 85 true rfl (by kernel_rfl) (by kernel_rfl) (fun v w h => h)) fun b' w' hsz hW hl K hK => ?_
                  clear hsz
                  unfold Oper.wp
                  have e86 : b'.tmps[86]?.getD undef = .int .i64 (-1) := getD' (look hl 86 (by kernel_rfl))
                  go_simp
                  exact hK _ _ (Below.refl _ _) (dst_eq rfl rfl)
                case s25 => exact step_move 87 88 rfl rfl (guard_open 22 85 true rfl (by kernel_rfl) (by kernel_rfl) (fun v w h => h)) (by kernel_rfl) (fun v w h => h)
                case s26 => exact step_move 15 89 rfl rfl (guard_open 25 88 false rfl (by kernel_rfl) (by kernel_rfl) (fun v w h => h)) (by kernel_rfl) (fun v w h => h)
                case s27 => exact step_move 8 90 rfl rfl (guard_open 25 88 false rfl (by kernel_rfl) (by kernel_rfl) (fun v w h => h)) (by kernel_rfl) (fun v w h => h)
                case s28 =>
                  refine StepOk.of (guard_open 25 88 false rfl (by kernel_rfl) (by kernel_rfl) (fun v w h => h)) fun b' w' hsz hW hl K hK => ?_
                  clear hsz
                  unfold Oper.wp
                  have e89 : b'.tmps[89]?.getD undef = .float .f64 A := getD' (look hl 89 (by kernel_rfl))
                  have e90 : b'.tmps[90]?.getD undef = .float .f64 b := getD' (look hl 90 (by kernel_rfl))
                  go_simp
                  exact hK _ _ (Below.refl _ _) (dst_eq rfl rfl)
                case s29 =>
                  refine StepOk.of (guard_open 22 85 true rfl (by kernel_rfl) (by kernel_rfl) (fun v w h => h)) fun b' w' hsz hW hl K hK => ?_
                  clear hsz
                  unfold Oper.wp
                  have e88 : b'.tmps[88]?.getD undef = .bool false := getD' (look hl 88 (by kernel_rfl))
                  have e91 : b'.tmps[91]?.getD undef = .bool true := getD' (look hl 91 (by kernel_rfl))
                  go_simp
                  exact hK _ _ (Below.refl _ _) (dst_eq rfl rfl)
                case s30 =>
                  refine StepOk.of (guard_none rfl) fun b' w' hsz hW hl K hK => ?_
                  clear hsz
                  unfold Oper.wp
                  have e85 : b'.tmps[85]?.getD undef = .bool true := getD' (look hl 85 (by kernel_rfl))
                  have e92 : b'.tmps[92]?.getD undef = .bool true := getD' (look hl 92 (by kernel_rfl))
                  go_simp
                  exact hK _ _ (Below.refl _ _) (dst_eq rfl rfl)
                case s31 => exact step_assign 93 6 rfl rfl (guard_none rfl) (by kernel_rfl) (fun v w h => h)
              case hend =>
                intro b' w' hs hd hW hv
                have h0 : b'.tmps.getD 6 undef = .bool true := hv 6 (.inr ⟨31, _, rfl, rfl⟩)
                rw [Array.getD_eq_getD_getElem?] at h0
                go_wp2
                exact bodyPost_ret (v := .bool true) (by simp [results, Tryz.results4, go_sem, h0]) hd ⟨rfl, bthen hBc hW⟩
            · clear hE1 hE2
              refine wp_region_typed (hfZ G9 (.agg #[.bool n7, .slice a7 l7 c7, .bool n8, .slice a8 l8 c8]) A b g) [2, 7, 8, 9, 14, 15] 94 (by kernel_rfl) (by kernel_rfl) rfl (hfZ_next _ _ _ _ _) ?hstart ?hstep ?hend
              case hstart =>
                intro t ht
                simp only [List.mem_cons, List.not_mem_nil, or_false] at ht
                rcases ht with rfl | rfl | rfl | rfl | rfl | rfl <;> rfl
              case hstep =>
                refine steps_cons ?s0 (steps_cons ?s1 (steps_cons ?s2 (steps_cons ?s3 (steps_cons ?s4 (steps_cons ?s5 (steps_cons ?s6 (steps_cons ?s7 (steps_cons ?s8 (steps_cons ?s9 (steps_cons ?s10 (steps_cons ?s11 (steps_cons ?s12 (steps_cons ?s13 (steps_cons ?s14 (steps_cons ?s15 (steps_cons ?s16 (steps_cons ?s17 (steps_cons ?s18 (steps_cons ?s19 (steps_cons ?s20 (steps_cons ?s21 (steps_cons ?s22 (steps_cons ?s23 (steps_cons ?s24 (steps_cons ?s25 (steps_cons ?s26 (steps_cons ?s27 (steps_cons ?s28 (steps_cons ?s29 (steps_cons ?s30 (steps_cons ?s31 (steps_nil))))))))))))))))))))))))))))))))
                case s0 => exact step_move 7 63 rfl rfl (guard_none rfl) (by kernel_rfl) (fun v w h => h)
                case s1 => exact step_move 63 64 rfl rfl (guard_none rfl) (by kernel_rfl) (fun v w h => h)
                case s2 => exact step_move 15 65 rfl rfl (guard_open 1 64 true rfl (by kernel_rfl) (by kernel_rfl) (fun v w h => h)) (by kernel_rfl) (fun v w h => h)
                case s3 =>
                  refine StepOk.of (guard_open 1 64 true rfl (by kernel_rfl) (by kernel_rfl) (fun v w h => h)) fun b' w' hsz hW hl K hK => ?_
                  clear hsz
                  unfold Oper.wp
                  have e65 : b'.tmps[65]?.getD undef = .float .f64 A := getD' (look hl 65 (by kernel_rfl))
                  go_simp
                  exact hK _ _ (Below.refl _ _) (dst_eq rfl rfl)
                case s4 => exact StepOk.of (guard_open 1 64 true rfl (by kernel_rfl) (by kernel_rfl) (fun v w h => h)) fun b w' hsz hW hl K hK => ld34 (keep_cell hW v0) (keep_cell hW v1) (keep_cell hW v2) (keep_cell hW v3) 14 rfl (look hl 14 (by kernel_rfl)) (hK _ _ (Below.refl _ _) (dst_eq rfl rfl))
                case s5 => exact step_call1 16 67 68 _ (by kernel_rfl) rfl rfl (guard_open 1 64 true rfl (by kernel_rfl) (by kernel_rfl) (fun v w h => h)) (by kernel_rfl) (fun v w' hB' hv => by subst hv; exact (kR.out _ hB').mono fun e w'' h => ⟨_, h.1, rfl, h.2⟩)
                case s6 =>
                  refine StepOk.of (guard_open 1 64 true rfl (by kernel_rfl) (by kernel_rfl) (fun v w h => h)) fun b' w' hsz hW hl K hK => ?_
                  clear hsz
                  unfold Oper.wp
                  have e68 : b'.tmps[68]?.getD undef = .float .f64 A := getD' (look hl 68 (by kernel_rfl))
                  go_simp
                  exact hK _ _ (Below.refl _ _) (dst_eq rfl rfl)
                case s7 =>
                  refine StepOk.of (guard_open 1 64 true rfl (by kernel_rfl) (by kernel_rfl) (fun v w h => h)) fun b' w' hsz hW hl K hK => ?_
                  clear hsz
                  unfold Oper.wp
                  have e66 : b'.tmps[66]?.getD undef = .int .u64 A := getD' (look hl 66 (by kernel_rfl))
                  have e69 : b'.tmps[69]?.getD undef = .int .u64 A := getD' (look hl 69 (by kernel_rfl))
                  go_simp
                  exact hK _ _ (Below.refl _ _) (dst_eq rfl rfl)
                case s8 =>
                  refine StepOk.of (guard_none rfl) fun b' w' hsz hW hl K hK => ?_
                  clear hsz
                  unfold Oper.wp
                  have e64 : b'.tmps[64]?.getD undef = .bool true := getD' (look hl 64 (by kernel_rfl))
                  have e70 : b'.tmps[70]?.getD undef = .bool true := getD' (look hl 70 (by kernel_rfl))
                  go_simp
                  exact hK _ _ (Below.refl _ _) (dst_eq rfl rfl)
                case s9 => exact step_move 71 72 rfl rfl (guard_none rfl) (by kernel_rfl) (fun v w h => h)
                case s10 => exact step_move 2 73 rfl rfl (guard_open 9 72 true rfl (by kernel_rfl) (by kernel_rfl) (fun v w h => h)) (by kernel_rfl) (fun v w h => h)
                case s11 =>
                  refine StepOk.of (guard_open 9 72 true rfl (by kernel_rfl) (by kernel_rfl) (fun v w h => h)) fun b' w' hsz hW hl K hK => ?_
                  clear hsz
                  unfold Oper.wp
                  have e73 : b'.tmps[73]?.getD undef = .int .i64 0 := getD' (look hl 73 (by kernel_rfl))
                  go_simp
                  exact hK _ _ (Below.refl _ _) (dst_eq rfl rfl)
                case s12 => exact step_move 74 75 rfl rfl (guard_open 9 72 true rfl (by kernel_rfl) (by kernel_rfl) (fun v w h => h)) (by kernel_rfl) (fun v w h => h)
                case s13 => exact step_shut 12 75 76 false rfl (by kernel_rfl) (by kernel_rfl) (fun v w h => by rw [show v = .bool true from h]; intro hh; cases hh) rfl (fun w => trivial)
                case s14 => exact step_shut 12 75 77 false rfl (by kernel_rfl) (by kernel_rfl) (fun v w h => by rw [show v = .bool true from h]; intro hh; cases hh) rfl (fun w => trivial)
                case s15 => exact step_shut 12 75 78 false rfl (by kernel_rfl) (by kernel_rfl) (fun v w h => by rw [show v = .bool true from h]; intro hh; cases hh) rfl (fun w => trivial)
                case s16 =>
                  refine StepOk.of (guard_open 9 72 true rfl (by kernel_rfl) (by kernel_rfl) (fun v w h => h)) fun b' w' hsz hW hl K hK => ?_
                  clear hsz
                  unfold Oper.wp
                  have e75 : b'.tmps[75]?.getD undef = .bool true := getD' (look hl 75 (by kernel_rfl))
                  go_simp
                  exact hK _ _ (Below.refl _ _) (dst_eq rfl rfl)
                case s17 => exact step_move 79 80 rfl rfl (guard_open 9 72 true rfl (by kernel_rfl) (by kernel_rfl) (fun v w h => h)) (by kernel_rfl) (fun v w h => h)
                case s18 => exact step_shut 17 80 81 false rfl (by kernel_rfl) (by kernel_rfl) (fun v w h => by rw [show v = .bool true from h]; intro hh; cases hh) rfl (fun w => trivial)
                case s19 => exact step_shut 17 80 82 false rfl (by kernel_rfl) (by kernel_rfl) (fun v w h => by rw [show v = .bool true from h]; intro hh; cases hh) rfl (fun w => trivial)
                case s20 =>
                  refine StepOk.of (guard_open 9 72 true rfl (by kernel_rfl) (by kernel_rfl) (fun v w h => h)) fun b' w' hsz hW hl K hK => ?_
                  clear hsz
                  unfold Oper.wp
                  have e80 : b'.tmps[80]?.getD undef = .bool true := getD' (look hl 80 (by kernel_rfl))
                  go_simp
                  exact hK _ _ (Below.refl _ _) (dst_eq rfl rfl)
                case s21 =>
                  refine StepOk.of (guard_none rfl) fun b' w' hsz hW hl K hK => ?_
                  clear hsz
                  unfold Oper.wp
                  have e72 : b'.tmps[72]?.getD undef = .bool true := getD' (look hl 72 (by kernel_rfl))
                  have e83 : b'.tmps[83]?.getD undef = .bool true := getD' (look hl 83 (by kernel_rfl))
                  go_simp
                  exact hK _ _ (Below.refl _ _) (dst_eq rfl rfl)
                case s22 => exact step_move 84 85 rfl rfl (guard_none rfl) (by kernel_rfl) (fun v w h => h)
                case s23 => exact step_move 2 86 rfl rfl (guard_open 22 85 true rfl (by kernel_rfl) (by kernel_rfl) (fun v w h => h)) (by kernel_rfl) (fun v w h => h)
                case s24 =>
                  refine StepOk.of (guard_open 22 85 true rfl (by kernel_rfl) (by kernel_rfl) (fun v w h => h)) fun b' w' hsz hW hl K hK => ?_
                  clear hsz
                  unfold Oper.wp
                  have e86 : b'.tmps[86]?.getD undef = .int .i64 0 := getD' (look hl 86 (by kernel_rfl))
                  go_simp
                  exact hK _ _ (Below.refl _ _) (dst_eq rfl rfl)
                case s25 => exact step_move 87 88 rfl rfl (guard_open 22 85 true rfl (by kernel_rfl) (by kernel_rfl) (fun v w h => h)) (by kernel_rfl) (fun v w h => h)
                case s26 => exact step_shut 25 88 89 false rfl (by kernel_rfl) (by kernel_rfl) (fun v w h => by rw [show v = .bool true from h]; intro hh; cases hh) rfl (fun w => trivial)
                case s27 => exact step_shut 25 88 90 false rfl (by kernel_rfl) (by kernel_rfl) (fun v w h => by rw [show v = .bool true from h]; intro hh; cases hh) rfl (fun w => trivial)
                case s28 => exact step_shut 25 88 91 false rfl (by kernel_rfl) (by kernel_rfl) (fun v w h => by rw [show v = .bool true from h]; intro hh; cases hh) rfl (fun w => trivial)
                case s29 =>
                  refine StepOk.of (guard_open 22 85 true rfl (by kernel_rfl) (by kernel_rfl) (fun v w h => h)) fun b' w' hsz hW hl K hK => ?_
                  clear hsz
                  unfold Oper.wp
                  have e88 : b'.tmps[88]?.getD undef = .bool true := getD' (look hl 88 (by kernel_rfl))
                  go_simp
                  exact hK _ _ (Below.refl _ _) (dst_eq rfl rfl)
                case s30 =>
                  refine StepOk.of (guard_none rfl) fun b' w' hsz hW hl K hK => ?_
                  clear hsz
                  unfold Oper.wp
                  have e85 : b'.tmps[85]?.getD undef = .bool true := getD' (look hl 85 (by kernel_rfl))
                  have e92 : b'.tmps[92]?.getD undef = .bool true := getD' (look hl 92 (by kernel_rfl))
                  go_simp
                  exact hK _ _ (Below.refl _ _) (dst_eq rfl rfl)
                case s31 => exact step_assign 93 6 rfl rfl (guard_none rfl) (by kernel_rfl) (fun v w h => h)
              case hend =>
                intro b' w' hs hd hW hv
                have h0 : b'.tmps.getD 6 undef = .bool true := hv 6 (.inr ⟨31, _, rfl, rfl⟩)
                rw [Array.getD_eq_getD_getElem?] at h0
                go_wp2
                exact bodyPost_ret (v := .bool true) (by simp [results, Tryz.results4, go_sem, h0]) hd ⟨rfl, bthen hBc hW⟩
            · have d3 : (FloatKind.f64.format.order A g == some .eq) = true := by rw [hE1.out rfl]; rfl
              clear hE1 hE2
              refine wp_region_typed (hfP G9 (.agg #[.bool n7, .slice a7 l7 c7, .bool n8, .slice a8 l8 c8]) A b g) [2, 7, 8, 9, 14, 15] 94 (by kernel_rfl) (by kernel_rfl) rfl (hfP_next _ _ _ _ _) ?hstart ?hstep ?hend
              case hstart =>
                intro t ht
                simp only [List.mem_cons, List.not_mem_nil, or_false] at ht
                rcases ht with rfl | rfl | rfl | rfl | rfl | rfl <;> rfl
              case hstep =>
                refine steps_cons ?s0 (steps_cons ?s1 (steps_cons ?s2 (steps_cons ?s3 (steps_cons ?s4 (steps_cons ?s5 (steps_cons ?s6 (steps_cons ?s7 (steps_cons ?s8 (steps_cons ?s9 (steps_cons ?s10 (steps_cons ?s11 (steps_cons ?s12 (steps_cons ?s13 (steps_cons ?s14 (steps_cons ?s15 (steps_cons ?s16 (steps_cons ?s17 (steps_cons ?s18 (steps_cons ?s19 (steps_cons ?s20 (steps_cons ?s21 (steps_cons ?s22 (steps_cons ?s23 (steps_cons ?s24 (steps_cons ?s25 (steps_cons ?s26 (steps_cons ?s27 (steps_cons ?s28 (steps_cons ?s29 (steps_cons ?s30 (steps_cons ?s31 (steps_nil))))))))))))))))))))))))))))))))
                case s0 => exact step_move 7 63 rfl rfl (guard_none rfl) (by kernel_rfl) (fun v w h => h)
                case s1 => exact step_move 63 64 rfl rfl (guard_none rfl) (by kernel_rfl) (fun v w h => h)
                case s2 => exact step_move 15 65 rfl rfl (guard_open 1 64 true rfl (by kernel_rfl) (by kernel_rfl) (fun v w h => h)) (by kernel_rfl) (fun v w h => h)
                case s3 =>
                  refine StepOk.of (guard_open 1 64 true rfl (by kernel_rfl) (by kernel_rfl) (fun v w h => h)) fun b' w' hsz hW hl K hK => ?_
                  clear hsz
                  unfold Oper.wp
                  have e65 : b'.tmps[65]?.getD undef = .float .f64 A := getD' (look hl 65 (by kernel_rfl))
                  go_simp
                  exact hK _ _ (Below.refl _ _) (dst_eq rfl rfl)
                case s4 => exact StepOk.of (guard_open 1 64 true rfl (by kernel_rfl) (by kernel_rfl) (fun v w h => h)) fun b w' hsz hW hl K hK => ld34 (keep_cell hW v0) (keep_cell hW v1) (keep_cell hW v2) (keep_cell hW v3) 14 rfl (look hl 14 (by kernel_rfl)) (hK _ _ (Below.refl _ _) (dst_eq rfl rfl))
                case s5 => exact step_call1 16 67 68 _ (by kernel_rfl) rfl rfl (guard_open 1 64 true rfl (by kernel_rfl) (by kernel_rfl) (fun v w h => h)) (by kernel_rfl) (fun v w' hB' hv => by subst hv; exact (kR.out _ hB').mono fun e w'' h => ⟨_, h.1, rfl, h.2⟩)
                case s6 =>
                  refine StepOk.of (guard_open 1 64 true rfl (by kernel_rfl) (by kernel_rfl) (fun v w h => h)) fun b' w' hsz hW hl K hK => ?_
                  clear hsz
                  unfold Oper.wp
                  have e68 : b'.tmps[68]?.getD undef = .float .f64 A := getD' (look hl 68 (by kernel_rfl))
                  go_simp
                  exact hK _ _ (Below.refl _ _) (dst_eq rfl rfl)
                case s7 =>
                  refine StepOk.of (guard_open 1 64 true rfl (by kernel_rfl) (by kernel_rfl) (fun v w h => h)) fun b' w' hsz hW hl K hK => ?_
                  clear hsz
                  unfold Oper.wp
                  have e66 : b'.tmps[66]?.getD undef = .int .u64 A := getD' (look hl 66 (by kernel_rfl))
                  have e69 : b'.tmps[69]?.getD undef = .int .u64 A := getD' (look hl 69 (by kernel_rfl))
                  go_simp
                  exact hK _ _ (Below.refl _ _) (dst_eq rfl rfl)
                case s8 =>
                  refine StepOk.of (guard_none rfl) fun b' w' hsz hW hl K hK => ?_
                  clear hsz
                  unfold Oper.wp
                  have e64 : b'.tmps[64]?.getD undef = .bool true := getD' (look hl 64 (by kernel_rfl))
                  have e70 : b'.tmps[70]?.getD undef = .bool true := getD' (look hl 70 (by kernel_rfl))
                  go_simp
                  exact hK _ _ (Below.refl _ _) (dst_eq rfl rfl)
                case s9 => exact step_move 71 72 rfl rfl (guard_none rfl) (by kernel_rfl) (fun v w h => h)
                case s10 => exact step_move 2 73 rfl rfl (guard_open 9 72 true rfl (by kernel_rfl) (by kernel_rfl) (fun v w h => h)) (by kernel_rfl) (fun v w h => h)
                case s11 =>
                  refine StepOk.of (guard_open 9 72 true rfl (by kernel_rfl) (by kernel_rfl) (fun v w h => h)) fun b' w' hsz hW hl K hK => ?_
                  clear hsz
                  unfold Oper.wp
                  have e73 : b'.tmps[73]?.getD undef = .int .i64 1 := getD' (look hl 73 (by kernel_rfl))
                  go_simp
                  exact hK _ _ (Below.refl _ _) (dst_eq rfl rfl)
                case s12 => exact step_move 74 75 rfl rfl (guard_open 9 72 true rfl (by kernel_rfl) (by kernel_rfl) (fun v w h => h)) (by kernel_rfl) (fun v w h => h)
                case s13 => exact step_move 15 76 rfl rfl (guard_open 12 75 false rfl (by kernel_rfl) (by kernel_rfl) (fun v w h => h)) (by kernel_rfl) (fun v w h => h)
                case s14 => exact step_move 9 77 rfl rfl (guard_open 12 75 false rfl (by kernel_rfl) (by kernel_rfl) (fun v w h => h)) (by kernel_rfl) (fun v w h => h)
                case s15 =>
                  refine StepOk.of (guard_open 12 75 false rfl (by kernel_rfl) (by kernel_rfl) (fun v w h => h)) fun b' w' hsz hW hl K hK => ?_
                  clear hsz
                  unfold Oper.wp
                  have e76 : b'.tmps[76]?.getD undef = .float .f64 A := getD' (look hl 76 (by kernel_rfl))
                  have e77 : b'.tmps[77]?.getD undef = .float .f64 g := getD' (look hl 77 (by kernel_rfl))
                  go_simp
                  exact hK _ _ (Below.refl _ _) (dst_eq rfl rfl)
                case s16 =>
                  refine StepOk.of (guard_open 9 72 true rfl (by kernel_rfl) (by kernel_rfl) (fun v w h => h)) fun b' w' hsz hW hl K hK => ?_
                  clear hsz
                  unfold Oper.wp
                  have e75 : b'.tmps[75]?.getD undef = .bool false := getD' (look hl 75 (by kernel_rfl))
                  have e78 : b'.tmps[78]?.getD undef = .bool true := getD' (look hl 78 (by kernel_rfl))
                  go_simp
                  exact hK _ _ (Below.refl _ _) (dst_eq rfl rfl)
                case s17 => exact step_move 79 80 rfl rfl (guard_open 9 72 true rfl (by kernel_rfl) (by kernel_rfl) (fun v w h => h)) (by kernel_rfl) (fun v w h => h)
                case s18 => exact step_shut 17 80 81 false rfl (by kernel_rfl) (by kernel_rfl) (fun v w h => by rw [show v = .bool true from h]; intro hh; cases hh) rfl (fun w => trivial)
                case s19 => exact step_shut 17 80 82 false rfl (by kernel_rfl) (by kernel_rfl) (fun v w h => by rw [show v = .bool true from h]; intro hh; cases hh) rfl (fun w => trivial)
                case s20 =>
                  refine StepOk.of (guard_open 9 72 true rfl (by kernel_rfl) (by kernel_rfl) (fun v w h => h)) fun b' w' hsz hW hl K hK => ?_
                  clear hsz
                  unfold Oper.wp
                  have e80 : b'.tmps[80]?.getD undef = .bool true := getD' (look hl 80 (by kernel_rfl))
                  go_simp
                  exact hK _ _ (Below.refl _ _) (dst_eq rfl rfl)
                case s21 =>
                  refine StepOk.of (guard_none rfl) fun b' w' hsz hW hl K hK => ?_
                  clear hsz
                  unfold Oper.wp
                  have e72 : b'.tmps[72]?.getD undef = .bool true := getD' (look hl 72 (by kernel_rfl))
                  have e83 : b'.tmps[83]?.getD undef = .bool true := getD' (look hl 83 (by kernel_rfl))
                  go_simp
                  exact hK _ _ (Below.refl _ _) (dst_eq rfl rfl)
                case s22 => exact step_move 84 85 rfl rfl (guard_none rfl) (by kernel_rfl) (fun v w h => h)
                case s23 => exact step_move 2 86 rfl rfl (guard_open 22 85 true rfl (by kernel_rfl) (by kernel_rfl) (fun v w h => h)) (by kernel_rfl) (fun v w h => h)
                case s24 =>
                  refine StepOk.of (guard_open 22 85 true rfl (by kernel_rfl) (by kernel_rfl) (fun v w h => h)) fun b' w' hsz hW hl K hK => ?_
                  clear hsz
                  unfold Oper.wp
                  have e86 : b'.tmps[86]?.getD undef = .int .i64 1 := getD' (look hl 86 (by kernel_rfl))
                  go_simp
                  exact hK _ _ (Below.refl _ _) (dst_eq rfl rfl)
                case s25 => exact step_move 87 88 rfl rfl (guard_open 22 85 true rfl (by kernel_rfl) (by kernel_rfl) (fun v w h => h)) (by kernel_rfl) (fun v w h => h)
                case s26 => exact step_shut 25 88 89 false rfl (by kernel_rfl) (by kernel_rfl) (fun v w h => by rw [show v = .bool true from h]; intro hh; cases hh) rfl (fun w => trivial)
                case s27 => exact step_shut 25 88 90 false rfl (by kernel_rfl) (by kernel_rfl) (fun v w h => by rw [show v = .bool true from h]; intro hh; cases hh) rfl (fun w => trivial)
                case s28 => exact step_shut 25 88 91 false rfl (by kernel_rfl) (by kernel_rfl) (fun v w h => by rw [show v = .bool true from h]; intro hh; cases hh) rfl (fun w => trivial)
                case s29 =>
                  refine StepOk.of (guard_open 22 85 true rfl (by kernel_rfl) (by kernel_rfl) (fun v w h => h)) fun b' w' hsz hW hl K hK => ?_
                  clear hsz
                  unfold Oper.wp
                  have e88 : b'.tmps[88]?.getD undef = .bool true := getD' (look hl 88 (by kernel_rfl))
                  go_simp
                  exact hK _ _ (Below.refl _ _) (dst_eq rfl rfl)
                case s30 =>
                  refine StepOk.of (guard_none rfl) fun b' w' hsz hW hl K hK => ?_
                  clear hsz
                  unfold Oper.wp
                  have e85 : b'.tmps[85]?.getD undef = .bool true := getD' (look hl 85 (by kernel_rfl))
                  have e92 : b'.tmps[92]?.getD undef = .bool true := getD' (look hl 92 (by kernel_rfl))
                  go_simp
                  exact hK _ _ (Below.refl _ _) (dst_eq rfl rfl)
                case s31 => exact step_assign 93 6 rfl rfl (guard_none rfl) (by kernel_rfl) (fun v w h => h)
              case hend =>
                intro b' w' hs hd hW hv
                have h0 : b'.tmps.getD 6 undef = .bool true := hv 6 (.inr ⟨31, _, rfl, rfl⟩)
                rw [Array.getD_eq_getD_getElem?] at h0
                go_wp2
                exact bodyPost_ret (v := .bool true) (by simp [results, Tryz.results4, go_sem, h0]) hd ⟨rfl, bthen hBc hW⟩
    · have hok2 : exOk (nextW b) = false := by unfold exOk; exact decide_eq_false hg
      rw [hok2] at ky
      go_enter Tryz.func4, Tryz.ntmps4
      go_wp2_with fail
      refine Calls.mono (begun_said w) ?_
      rintro e w1 ⟨rfl, b1⟩
      go_wp2_with fail
      refine Calls.mono (InfP_any _) ?_
      rintro e w2 ⟨rfl, rfl⟩
      go_wp2_with fail
      refine Calls.mono (Nextafter_any b _ hb hs) ?_
      rintro e w3 ⟨rfl, rfl⟩
      go_wp2_with fail
      refine Calls.mono (kx.out _) ?_
      rintro e w4 ⟨t4, rfl, hX, b4⟩
      obtain ⟨n1, a1, l1, c1, n2, a2, l2, c2, rfl⟩ := hX.form
      obtain ⟨W4, hW4, b5, x0, e0, e1, e2, e3⟩ := box34 w4 n1 a1 l1 c1 n2 a2 l2 c2
      replace hX := refAns_next hX b5
      have hB := bthen b1 (bthen b4 b5)
      clear b1 b4 b5 kx
      go_upto_region 5 with fail
      rw [← hW4]
      clear hW4
      generalize w4.heap.size = G4 at *
      go_wp2_with fail
      refine Calls.mono (ky.out _) ?_
      rintro e w5 ⟨t5, rfl, hY, b6⟩
      obtain ⟨n3, a3, l3, c3, n4, a4, l4, c4, rfl⟩ := hY.form
      obtain ⟨W5, hW5, b7, x1, r0, r1, r2, r3⟩ := box34 w5 n3 a3 l3 c3 n4 a4 l4 c4
      have b67 := bthen b6 b7
      replace hX := refAns_next hX b67
      replace hY := refAns_next hY b7
      replace e0 := keep_cell b67 e0
      replace e1 := keep_cell b67 e1
      replace e2 := keep_cell b67 e2
      replace e3 := keep_cell b67 e3
      replace hB := bthen hB b67
      clear b6 b7 b67 ky x0
      go_upto_region 6 with fail
      rw [← hW5]
      clear hW5
      generalize w5.heap.size = G5 at *
      clear hX hY hok hok2 hg hg0 hs
      go_wp2
      go_ret
      exact ⟨rfl, hB⟩
  · have hok : exOk b = false := by unfold exOk; exact decide_eq_false hs
    have kx : Hid _ := fun w => Exact24_num b w hb
    rw [hok] at kx
    go_enter Tryz.func4, Tryz.ntmps4
    go_wp2_with fail
    refine Calls.mono (begun_said w) ?_
    rintro e w1 ⟨rfl, b1⟩
    go_wp2_with fail
    refine Calls.mono (InfP_any _) ?_
    rintro e w2 ⟨rfl, rfl⟩
    go_wp2_with fail
    refine Calls.mono (Nextafter_some b _ hb hs) ?_
    rintro e w3 ⟨g, hg, rfl, rfl⟩
    have ky : Hid _ := fun w => Exact24_num g w hg
    clear hs
    go_wp2_with fail
    refine Calls.mono (kx.out _) ?_
    rintro e w4 ⟨t4, rfl, hX, b4⟩
    obtain ⟨n1, a1, l1, c1, n2, a2, l2, c2, rfl⟩ := hX.form
    obtain ⟨W4, hW4, b5, x0, e0, e1, e2, e3⟩ := box34 w4 n1 a1 l1 c1 n2 a2 l2 c2
    replace hX := refAns_next hX b5
    have hB := bthen b1 (bthen b4 b5)
    clear b1 b4 b5 kx
    go_upto_region 5 with fail
    rw [← hW4]
    clear hW4
    generalize w4.heap.size = G4 at *
    go_wp2_with fail
    refine Calls.mono (ky.out _) ?_
    rintro e w5 ⟨t5, rfl, hY, b6⟩
    obtain ⟨n3, a3, l3, c3, n4, a4, l4, c4, rfl⟩ := hY.form
    obtain ⟨W5, hW5, b7, x1, r0, r1, r2, r3⟩ := box34 w5 n3 a3 l3 c3 n4 a4 l4 c4
    have b67 := bthen b6 b7
    replace hX := refAns_next hX b67
    replace hY := refAns_next hY b7
    replace e0 := keep_cell b67 e0
    replace e1 := keep_cell b67 e1
    replace e2 := keep_cell b67 e2
    replace e3 := keep_cell b67 e3
    replace hB := bthen hB b67
    clear b6 b7 b67 ky x0
    go_upto_region 6 with fail
    rw [← hW5]
    clear hW5
    generalize w5.heap.size = G5 at *
    clear hX hY hok
    go_wp2
    go_ret
    exact ⟨rfl, hB⟩
end Go.Proofs.YtmpefgemlpnbiaaGreat
