/- The order of floats and their ranks. -/
import Derived.Test.YtmpefgemlpnbiaaGreatHmm
import Derived.Test.YtmpefgemlpnbiaaGreatJbm
namespace Go.Proofs.YtmpefgemlpnbiaaGreat
set_option linter.unusedVariables false
open Go.RowKit
attribute [local go_sem ↓] Go.wp_at_zero Go.wp_at_succ
/-- A finite float's size, in the least unit, by its rung. -/
def rgV (s : Nat) : Nat := if s < 4503599627370496 then s else (4503599627370496 + s % 4503599627370496) * 2 ^ (s / 4503599627370496 - 1)
theorem rgV_mono {a b : Nat} (h : a ≤ b) : rgV a ≤ rgV b := by
  unfold rgV
  by_cases ha : a < 4503599627370496
  · rw [if_pos ha]
    by_cases hb : b < 4503599627370496
    · rw [if_pos hb]; exact h
    · rw [if_neg hb]
      have h1 : 1 ≤ 2 ^ (b / 4503599627370496 - 1) := Nat.one_le_two_pow
      have h2 : (4503599627370496 + b % 4503599627370496) * 1 ≤ (4503599627370496 + b % 4503599627370496) * 2 ^ (b / 4503599627370496 - 1) := Nat.mul_le_mul_left _ h1
      omega
  · have hb : ¬ b < 4503599627370496 := by omega
    rw [if_neg ha, if_neg hb]
    have hq : a / 4503599627370496 ≤ b / 4503599627370496 := Nat.div_le_div_right h
    rcases Nat.lt_or_ge (a / 4503599627370496) (b / 4503599627370496) with hlt | hge
    · have hr := Nat.mod_lt a (show 0 < 4503599627370496 by decide)
      have h1 : (4503599627370496 + a % 4503599627370496) * 2 ^ (a / 4503599627370496 - 1) ≤ (4503599627370496 * 2) * 2 ^ (a / 4503599627370496 - 1) := Nat.mul_le_mul_right _ (by omega)
      have h2 : 4503599627370496 * 2 * 2 ^ (a / 4503599627370496 - 1) = 4503599627370496 * 2 ^ (a / 4503599627370496) := by
        rw [Nat.mul_assoc, ← Nat.pow_succ']
        congr 2
        have : 1 ≤ a / 4503599627370496 := by omega
        omega
      have h3 : 4503599627370496 * 2 ^ (a / 4503599627370496) ≤ (4503599627370496 + b % 4503599627370496) * 2 ^ (b / 4503599627370496 - 1) := Nat.mul_le_mul (by omega) (Nat.pow_le_pow_right (by decide) (by omega))
      omega
    · have he : a / 4503599627370496 = b / 4503599627370496 := by omega
      rw [he]
      exact Nat.mul_le_mul_right _ (by omega)
/-- What a word reads as. -/
theorem read_double (x : Nat) (hx : x < 18446744073709551616) : FloatKind.f64.format.read x = (if x % 9223372036854775808 < 4503599627370496 then .number (decide (9223372036854775808 ≤ x)) (x % 9223372036854775808) (-1074) else if x % 9223372036854775808 < 9218868437227405312 then .number (decide (9223372036854775808 ≤ x)) (4503599627370496 + x % 9223372036854775808 % 4503599627370496) (-1074 + (x % 9223372036854775808 / 4503599627370496 - 1 : Nat)) else if x % 9223372036854775808 = 9218868437227405312 then .infinity (decide (9223372036854775808 ≤ x)) else .nan (decide (9223372036854775808 ≤ x)) (x % 9223372036854775808 - 9218868437227405312)) := by
  have hs : FloatKind.f64.format.signWeight = 9223372036854775808 := by decide
  have hb : FloatKind.f64.format.binade = 4503599627370496 := by decide
  have hi : FloatKind.f64.format.infRung = 9218868437227405312 := by decide
  have hl : FloatKind.f64.format.leastPlace = -1074 := by decide
  have hn : (x / 9223372036854775808 % 2 == 1) = decide (9223372036854775808 ≤ x) := by
    by_cases h : 9223372036854775808 ≤ x
    · rw [decide_eq_true h]; simp; omega
    · rw [decide_eq_false h]; simp; omega
  unfold Ieee.Format.read
  simp only [hs, hb, hi, hl, hn]
theorem num_val {s : Nat} (h : s < 9218868437227405312) : ∃ (m : Nat) (i : Int), -1074 ≤ i ∧ (∀ neg, (if s < 4503599627370496 then Ieee.Datum.number neg s (-1074) else if s < 9218868437227405312 then .number neg (4503599627370496 + s % 4503599627370496) (-1074 + (s / 4503599627370496 - 1 : Nat)) else if s = 9218868437227405312 then .infinity neg else .nan neg (s - 9218868437227405312)) = .number neg m i) ∧ m * 2 ^ (i + 1074).toNat = rgV s := by
  by_cases h1 : s < 4503599627370496
  · refine ⟨s, -1074, by decide, fun neg => by rw [if_pos h1], ?_⟩
    unfold rgV
    rw [if_pos h1]
    simp
  · refine ⟨4503599627370496 + s % 4503599627370496, -1074 + (s / 4503599627370496 - 1 : Nat), by omega, fun neg => by rw [if_neg h1, if_pos h], ?_⟩
    unfold rgV
    rw [if_neg h1]
    congr 2
    omega
theorem cmp_lt (a b : Int) : compare a b = .lt ↔ a < b := by
  simp only [compare, compareOfLessAndEq]
  split
  · simp; assumption
  · split <;> simp <;> omega
theorem shl_scale {m n : Nat} {i j : Int} (hi : -1074 ≤ i) (hj : -1074 ≤ j) : ∃ T : Nat, 0 < T ∧ (m <<< (i - min i j).toNat) * T = m * 2 ^ (i + 1074).toNat ∧ (n <<< (j - min i j).toNat) * T = n * 2 ^ (j + 1074).toNat := by
  refine ⟨2 ^ (min i j + 1074).toNat, Nat.two_pow_pos _, ?_, ?_⟩
  · rw [Nat.shiftLeft_eq, Nat.mul_assoc, ← Nat.pow_add]
    congr 2
    omega
  · rw [Nat.shiftLeft_eq, Nat.mul_assoc, ← Nat.pow_add]
    congr 2
    omega
theorem order_lt {x y : Nat} (hx : x < 18446744073709551616) (hy : y < 18446744073709551616) (h : FloatKind.f64.format.order x y = some .lt) : rankB x < rankB y := by
  unfold Ieee.Format.order at h
  rw [read_double x hx, read_double y hy] at h
  unfold rankB
  have hxm : x = x % 9223372036854775808 + (if 9223372036854775808 ≤ x then 9223372036854775808 else 0) := by split <;> omega
  have hym : y = y % 9223372036854775808 + (if 9223372036854775808 ≤ y then 9223372036854775808 else 0) := by split <;> omega
  have hsl : x % 9223372036854775808 < 9223372036854775808 := Nat.mod_lt _ (by decide)
  have htl : y % 9223372036854775808 < 9223372036854775808 := Nat.mod_lt _ (by decide)
  generalize x % 9223372036854775808 = s at *
  generalize y % 9223372036854775808 = t at *
  by_cases hs : s < 9218868437227405312
  · obtain ⟨m, i, hi, hm, hV⟩ := num_val hs
    rw [hm] at h
    rw [if_neg (show ¬ 9218868437227405312 < s by omega)]
    by_cases ht : t < 9218868437227405312
    · obtain ⟨n, j, hj, hn, hW⟩ := num_val ht
      rw [hn] at h
      rw [if_neg (show ¬ 9218868437227405312 < t by omega)]
      simp only [Ieee.Datum.order, Option.some.injEq, cmp_lt] at h
      unfold Ieee.signed at h
      obtain ⟨T, hT, e1, e2⟩ := shl_scale (m := m) (n := n) hi hj
      rw [hV] at e1
      rw [hW] at e2
      generalize m <<< (i - min i j).toNat = a at *
      generalize n <<< (j - min i j).toNat = b at *
      have key1 : a < b → s < t := fun hab => by
        by_cases hc : s < t
        · exact hc
        · have := rgV_mono (a := t) (b := s) (by omega)
          have h2 := Nat.mul_lt_mul_of_pos_right hab hT
          omega
      have key2 : b < a → t < s := fun hab => by
        by_cases hc : t < s
        · exact hc
        · have := rgV_mono (a := s) (b := t) (by omega)
          have h2 := Nat.mul_lt_mul_of_pos_right hab hT
          omega
      by_cases nx : 9223372036854775808 ≤ x <;> by_cases ny : 9223372036854775808 ≤ y <;> simp only [nx, ny, decide_true, decide_false, if_true, if_false, Bool.false_eq_true] at h hxm hym ⊢
      · have := key2 (by omega)
        omega
      · omega
      · omega
      · have := key1 (by omega)
        omega
    · by_cases ht2 : t = 9218868437227405312
      · rw [if_neg (by omega), if_neg (by omega), if_pos ht2] at h
        simp only [Ieee.Datum.order, Option.some.injEq] at h
        rw [if_neg (show ¬ 9218868437227405312 < t by omega)]
        by_cases ny : 9223372036854775808 ≤ y
        · simp [ny] at h
        · rw [if_neg ny]
          split <;> omega
      · rw [if_neg (by omega), if_neg (by omega), if_neg ht2] at h
        simp [Ieee.Datum.order] at h
  · by_cases hs2 : s = 9218868437227405312
    · rw [if_neg (by omega), if_neg (by omega), if_pos hs2] at h
      rw [if_neg (show ¬ 9218868437227405312 < s by omega)]
      by_cases ht : t < 9218868437227405312
      · obtain ⟨n, j, hj, hn, hW⟩ := num_val ht
        rw [hn] at h
        simp only [Ieee.Datum.order, Option.some.injEq] at h
        rw [if_neg (show ¬ 9218868437227405312 < t by omega)]
        by_cases nx : 9223372036854775808 ≤ x
        · rw [if_pos nx]
          simp only [nx, if_true] at hxm
          split
          · rename_i ny
            simp only [ny, if_true] at hym
            omega
          · omega
        · simp [nx] at h
      · by_cases ht2 : t = 9218868437227405312
        · rw [if_neg (by omega), if_neg (by omega), if_pos ht2] at h
          simp only [Ieee.Datum.order, Option.some.injEq] at h
          rw [if_neg (show ¬ 9218868437227405312 < t by omega)]
          by_cases nx : 9223372036854775808 ≤ x <;> by_cases ny : 9223372036854775808 ≤ y <;> simp [nx, ny] at h
          · rw [if_pos nx, if_neg ny]
            omega
          · exact absurd h (by decide)
        · rw [if_neg (by omega), if_neg (by omega), if_neg ht2] at h
          simp [Ieee.Datum.order] at h
    · rw [if_neg (by omega), if_neg (by omega), if_neg hs2] at h
      simp [Ieee.Datum.order] at h
end Go.Proofs.YtmpefgemlpnbiaaGreat
namespace Go.Proofs.YtmpefgemlpnbiaaGreat
set_option linter.unusedVariables false
open Go.RowKit
attribute [local go_sem ↓] Go.wp_at_zero Go.wp_at_succ
/-- No number. -/
def isNaN (b : Nat) : Prop := 9218868437227405312 < b % 9223372036854775808
theorem order_self (b : Nat) (hb : b < 18446744073709551616) : FloatKind.f64.format.order b b = if 9218868437227405312 < b % 9223372036854775808 then none else some .eq := by
  unfold Ieee.Format.order
  rw [read_double b hb]
  generalize b % 9223372036854775808 = s at *
  by_cases hs : s < 9218868437227405312
  · obtain ⟨m, i, hi, hm, hV⟩ := num_val hs
    rw [hm, if_neg (by omega)]
    simp [Ieee.Datum.order, compare, compareOfLessAndEq]
  · by_cases hs2 : s = 9218868437227405312
    · rw [if_neg (by omega), if_neg (by omega), if_pos hs2, if_neg (by omega)]
      simp [Ieee.Datum.order, compare, compareOfLessAndEq]
    · rw [if_neg (by omega), if_neg (by omega), if_neg hs2, if_pos (by omega)]
      simp [Ieee.Datum.order]
theorem rankB_same {a b : Nat} (ha : a < 18446744073709551616) (hb : b < 18446744073709551616) : rankB a = rankB b ↔ (a = b ∨ (9218868437227405312 < a % 9223372036854775808 ∧ 9218868437227405312 < b % 9223372036854775808)) := by
  unfold rankB
  constructor
  · intro h
    by_cases h1 : 9218868437227405312 < a % 9223372036854775808 <;> by_cases h2 : 9218868437227405312 < b % 9223372036854775808
    · exact .inr ⟨h1, h2⟩
    · rw [if_pos h1, if_neg h2] at h
      split at h <;> omega
    · rw [if_neg h1, if_pos h2] at h
      split at h <;> omega
    · rw [if_neg h1, if_neg h2] at h
      left
      split at h <;> split at h <;> omega
  · rintro (rfl | ⟨h1, h2⟩)
    · rfl
    · rw [if_pos h1, if_pos h2]
def rankR (b : Nat) : Int := (rankB b : Int) - 9223372036854775808
theorem band_low (b : Nat) (hb : b < 18446744073709551616) : bits .and .u64 (b : Int) 9223372036854775807 = ((b % 9223372036854775808 : Nat) : Int) := by
  have h := bits_and_u64_nat b 9223372036854775807 hb (by decide)
  rw [show (9223372036854775807 : Nat) = 2 ^ 63 - 1 from by decide, Nat.and_two_pow_sub_one_eq_mod] at h
  exact h
set_option maxRecDepth 20000 in
theorem rankR_any (b : Nat) (w : World) (hb : b < 18446744073709551616) : Calls Tryz.prog 72 #[.float .f64 b] w fun e w' => e = .returned (.int .i64 (rankR b)) ∧ w' = w := by
  have hc := bits64
  have ho := order_self b hb
  have h1 := band_low b hb
  have hr : Hid (rankR b = (rankB b : Int) - 9223372036854775808) := rfl
  unfold rankB at hr
  have h63 : (b : Int) / 9223372036854775808 = if 9223372036854775808 ≤ b then 1 else 0 := by split <;> omega
  have hsl : b % 9223372036854775808 < 9223372036854775808 := Nat.mod_lt _ (by decide)
  have hbs : Hid (b = b % 9223372036854775808 + (if 9223372036854775808 ≤ b then 9223372036854775808 else 0)) := by show _ = _; split <;> omega
  generalize rankR b = R at *
  generalize hs : b % 9223372036854775808 = s at *
  replace hs : Hid _ := hs
  by_cases h0 : 9218868437227405312 < s
  · rw [if_pos h0] at ho
    have eR : Hid (R = 9223372036854775807) := by show _ = _; rw [hr.out, if_pos h0]; decide
    have d0 : (FloatKind.f64.format.order b b != some .eq) = true := by rw [ho]; rfl
    clear ho
    go_enter Tryz.func72, Tryz.ntmps72
    go_wp2
    go_ret
    exact ⟨by rw [eR.out]; rfl, rfl⟩
  · rw [if_neg h0] at ho
    have d0 : (FloatKind.f64.format.order b b != some .eq) = false := by rw [ho]; rfl
    clear ho
    by_cases h : 9223372036854775808 ≤ b
    · rw [if_pos h] at h63
      have eb := hbs.out
      rw [if_pos h] at eb
      have eR : Hid (R = -(s : Int) - 1) := by show _ = _; rw [hr.out, if_neg h0, if_pos h]; omega
      have w1 : IntKind.i64.wrap (s : Int) = s := by rw [IntKind.wrap_i64]; omega
      have w2 : IntKind.i64.wrap (-(s : Int)) = -(s : Int) := by rw [IntKind.wrap_i64]; omega
      have w3 : IntKind.i64.wrap (-(s : Int) - 1) = -(s : Int) - 1 := by rw [IntKind.wrap_i64]; omega
      clear eb h
      go_enter Tryz.func72, Tryz.ntmps72
      go_wp2
      go_ret
      exact ⟨by rw [eR.out]; rfl, rfl⟩
    · rw [if_neg h] at h63
      have eb := hbs.out
      rw [if_neg h] at eb
      have eR : Hid (R = (b : Int)) := by show _ = _; rw [hr.out, if_neg h0, if_neg h]; omega
      have w1 : IntKind.i64.wrap (b : Int) = b := by rw [IntKind.wrap_i64]; omega
      clear eb h
      go_enter Tryz.func72, Tryz.ntmps72
      go_wp2
      go_ret
      exact ⟨by rw [eR.out]; rfl, rfl⟩
theorem lessR_any (a b : Nat) (w : World) (ha : a < 18446744073709551616) (hb : b < 18446744073709551616) : Calls Tryz.prog 36 #[.float .f64 a, .float .f64 b] w fun e w' => e = .returned (.bool (decide (rankB a < rankB b))) ∧ w' = w := by
  have k1 : Hid _ := rankR_any a w ha
  have k2 : Hid _ := rankR_any b w hb
  have hd : Hid (decide (rankR a < rankR b) = decide (rankB a < rankB b)) := by
    show _ = _
    unfold rankR
    by_cases h : rankB a < rankB b <;> simp [h] <;> omega
  generalize rankR a = x at *
  generalize rankR b = y at *
  go_enter Tryz.func36, Tryz.ntmps36
  go_wp2_with fail
  refine Calls.mono k1.out ?_
  rintro e w1 ⟨rfl, rfl⟩
  go_wp2_with fail
  refine Calls.mono k2.out ?_
  rintro e w2 ⟨rfl, rfl⟩
  go_wp2
  go_ret
  exact ⟨by rw [← hd.out]; rfl, rfl⟩
set_option maxRecDepth 20000 in
theorem sameR_any (a b : Nat) (w : World) (ha : a < 18446744073709551616) (hb : b < 18446744073709551616) : Calls Tryz.prog 34 #[.float .f64 a, .float .f64 b] w fun e w' => e = .returned (.bool (decide (rankB a = rankB b))) ∧ w' = w := by
  have hc := bits64
  have oa := order_self a ha
  have ob := order_self b hb
  have hr := rankB_same ha hb
  generalize hA : decide (rankB a = rankB b) = A at *
  by_cases h : a = b
  · have eA : Hid (A = true) := by show _ = _; rw [← hA]; simpa using hr.2 (.inl h)
    have d1 : ((a : Int) == (b : Int)) = true := by rw [h]; simp
    clear oa ob hr hA h
    go_enter Tryz.func34, Tryz.ntmps34
    go_wp2
    go_ret
    exact ⟨by rw [eA.out]; rfl, rfl⟩
  · have d1 : ((a : Int) == (b : Int)) = false := by simp; omega
    by_cases h1 : 9218868437227405312 < a % 9223372036854775808
    · rw [if_pos h1] at oa
      have e1 : (FloatKind.f64.format.order a a != some .eq) = true := by rw [oa]; rfl
      by_cases h2 : 9218868437227405312 < b % 9223372036854775808
      · rw [if_pos h2] at ob
        have e2 : (FloatKind.f64.format.order b b != some .eq) = true := by rw [ob]; rfl
        have eA : Hid (A = true) := by show _ = _; rw [← hA]; simpa using hr.2 (.inr ⟨h1, h2⟩)
        clear oa ob hr hA h h1 h2
        go_enter Tryz.func34, Tryz.ntmps34
        go_wp2
        go_ret
        exact ⟨by rw [eA.out]; rfl, rfl⟩
      · rw [if_neg h2] at ob
        have e2 : (FloatKind.f64.format.order b b != some .eq) = false := by rw [ob]; rfl
        have eA : Hid (A = false) := by show _ = _; rw [← hA]; simpa using fun e => (hr.1 e).elim h (fun k => h2 k.2)
        clear oa ob hr hA h h1 h2
        go_enter Tryz.func34, Tryz.ntmps34
        go_wp2
        go_ret
        exact ⟨by rw [eA.out]; rfl, rfl⟩
    · rw [if_neg h1] at oa
      have e1 : (FloatKind.f64.format.order a a != some .eq) = false := by rw [oa]; rfl
      have eA : Hid (A = false) := by show _ = _; rw [← hA]; simpa using fun e => (hr.1 e).elim h (fun k => h1 k.1)
      clear oa ob hr hA h h1
      go_enter Tryz.func34, Tryz.ntmps34
      go_wp2
      go_ret
      exact ⟨by rw [eA.out]; rfl, rfl⟩
end Go.Proofs.YtmpefgemlpnbiaaGreat
namespace Go.Proofs.YtmpefgemlpnbiaaGreat
set_option linter.unusedVariables false
open Go.RowKit
attribute [local go_sem ↓] Go.wp_at_zero Go.wp_at_succ
theorem of_step {ds : List Int} {k : Nat} {n q r N : Int} (hk : ds.length = k) (hn : n = 65536 * q + r) (hv : val 65536 ds + n * 65536 ^ k = N) : val 65536 (ds ++ [r]) + q * 65536 ^ (k + 1) = N := by
  rw [val_append, hk, ← hv, hn, Int.pow_succ, Int.add_mul, Int.mul_assoc, Int.mul_comm (65536 ^ k) 65536, ← Int.mul_assoc q, Int.mul_comm q 65536, Int.mul_assoc 65536]
  simp only [val]
  rw [Int.mul_comm (65536 ^ k)]
  simp
  omega
set_option maxHeartbeats 2000000 in
set_option maxRecDepth 20000 in
theorem rOf_any (n0 : Int) (w : World) (h0 : -9223372036854775808 ≤ n0) (h1 : n0 ≤ 9223372036854775807) :
    Calls Tryz.prog 28 #[.int .i64 n0] w fun e w' => ∃ v, e = .returned v ∧ Rout w' w.heap.size v n0 4 ∧ Below w.heap.size w w' := by
  obtain ⟨i0, hi, hz0, hz1, hz2⟩ := info_parts Tryz.info3
  obtain ⟨W, hW, hbW, hlt, c4, c5, f4, f5⟩ := box1r w (.bool false) (.slice none 0 0) 32
  go_enter Tryz.func28, Tryz.ntmps28
  go_wp2
  rw [← hW]
  clear hW
  go_loopw [0, 4, 5] (fun nv d r wr => ∃ (k : Nat) (n : Int) (a : Option Addr) (cap : Nat) (ds : List Int), k ≤ 4 ∧ nv = .int .i64 n ∧ d = .slice a ds.length cap ∧ Own wr W.heap.size .i64 3 65536 a cap ds ∧ Hid (ds.length = k) ∧ Hid (val 65536 ds + (n.natAbs : Int) * 65536 ^ k = (n0.natAbs : Int)) ∧ Hid (n = 0 → nrm ds) ∧ Hid (0 ≤ n0 → 0 ≤ n) ∧ Hid (n0 < 0 → n ≤ 0) ∧ -9223372036854775808 ≤ n ∧ n ≤ 9223372036854775807 ∧ Below W.heap.size W wr) (fun nv _ _ _ => (intOf nv).natAbs)
  case atStart => exact ⟨0, n0, none, 0, [], by omega, rfl, rfl, Own.empty _ _ _ _ _, rfl, by simp [val, Hid], fun _ => trivial, fun h => h, fun h => by omega, h0, h1, Below.refl _ _⟩
  case round =>
    obtain ⟨k, n, a, cap, ds, hk, rfl, rfl, hown, hdl, hdv, hnr, hs0, hs1, hn0, hn1, hbel⟩ := hrel
    by_cases hz : n = 0
    · subst hz
      have hv : Hid (val 65536 ds = (n0.natAbs : Int)) := by have := hdv.out; simpa [Hid] using this
      have hnrm := hnr.out rfl
      have hdl2 := hdl.out
      have k4 := keep_cell hbel c4
      have k5 := keep_cell hbel c5
      have g4 := keep_frozen hbel c4 f4
      have g5 := keep_frozen hbel c5 f5
      have hB := bthen hbW hbel
      have hR : Rout wr W.heap.size (.agg #[.bool (decide (n0 < 0)), .slice a ds.length cap]) n0 4 := by
        refine ⟨_, a, cap, ds, rfl, ⟨hown.row, fun x hx => own_block hown hx⟩, ⟨hnrm, fun h e => ?_⟩, ?_, by omega⟩
        · simp at h
          subst e
          have := hv.out
          simp [val] at this
          omega
        · have := hv.out
          by_cases hc : n0 < 0
          · simp [num, hc]; omega
          · simp [num, hc]; omega
      have hO : ∀ v, Rout ((wr.setCell ⟨w.heap.size, 0, none⟩ (.bool (decide (n0 < 0)))).setCell ⟨w.heap.size, 1, none⟩ v) w.heap.size (.agg #[.bool (decide (n0 < 0)), .slice a ds.length cap]) n0 4 := by
        intro v
        obtain ⟨neg, a', cap', ds', e1, e2, e3⟩ := hR
        exact ⟨neg, a', cap', ds', e1, ((e2.set (by exact hlt) _).set (by exact hlt) _).mono hbW.size, e3⟩
      replace hR : Hid _ := hR
      replace hO : Hid _ := hO
      replace hnrm : Hid _ := hnrm
      replace hdl2 : Hid _ := hdl2
      go_wp2
      refine bodyPost_ret (v := .agg #[.bool (decide (n0 < 0)), .slice a ds.length cap]) (by simp [results, Tryz.results28, go_sem, k4, k5]) rfl ⟨_, rfl, hO.out _, (hB.setCell (by simp) _).setCell (by simp) _⟩
    · have hzb : (n != 0) = true := by simp [hz]
      have hz' : Hid _ := hz
      clear hz
      have hk3 : k ≤ 3 := by
        by_cases hc : k ≤ 3
        · exact hc
        · have h4 : k = 4 := by omega
          subst h4
          have h5 := hdv.out
          have h6 := val_nonneg (B := 65536) (by decide) hown.words
          have h7 : (65536 : Int) ^ 4 = 18446744073709551616 := by decide
          rw [h7] at h5
          have hnz : n ≠ 0 := hz'.out
          omega
      have hsz := hbel.size
      by_cases hpos : 0 ≤ n
      · have hq0 : 0 ≤ n / 65536 := by omega
        have hr0 : 0 ≤ n % 65536 := by omega
        have hD : Below wr.heap.size wr (wr.alloc (.cells #[.int .i64 (n % 65536)] 3)) := (Below.refl _ _).alloc (Nat.le_refl _) _
        obtain ⟨a2, cap2, w2, hrun, hown2, hb2⟩ := run_append_row (P := Tryz.prog) (wr.alloc (.cells #[.int .i64 (n % 65536)] 3)) 30 30 3 W.heap.size .i64 8 65536 i0 Tryz.underlying30 hi hz0 hz1 hz2 a cap ds.length ds (hown.next hD) rfl ⟨wr.heap.size, 0, none⟩ 1 1 [n % 65536] (Row.alloc1 wr .i64 3 65536 (n % 65536) (by omega)) rfl (by omega) (by have := hdl.out; omega) (by omega) (by simp; omega)
        replace hrun : Hid _ := hrun
        have hbel2 : Below W.heap.size W w2 := (hbel.trans (hD.mono hsz)).trans hb2
        have hv2 : Hid (val 65536 (ds ++ [n % 65536]) + ((n / 65536).natAbs : Int) * 65536 ^ (k + 1) = (n0.natAbs : Int)) := by
          refine of_step (n := (n.natAbs : Int)) hdl.out ?_ hdv.out
          omega
        have hn2 : Hid (n / 65536 = 0 → nrm (ds ++ [n % 65536])) := fun h => nrm_snoc _ _ (by have hnz : n ≠ 0 := hz'.out; omega)
        have hl3 : ds.length + 1 = (ds ++ [n % 65536]).length := by simp
        replace hl3 : Hid _ := hl3
        go_wp2_with (at_builtin; refine wpList_append_run (by rfl) (.tmp 16) (.tmp 18) 30 30 (by rfl) (.slice a ds.length cap) (.slice (some ⟨wr.heap.size, 0, none⟩) 1 1) (by rfl) (by rfl) _ _ hrun.out ?_)
        go_roundw
        case rel => exact ⟨k + 1, n / 65536, a2, cap2, ds ++ [n % 65536], by omega, rfl, by rw [← hl3.out], hown2, by show _ = _; rw [← hl3.out, hdl.out], hv2, hn2, fun h => by omega, fun h => by have := hs1.out h; omega, by omega, by omega, hbel2⟩
        case measure => have hnz : n ≠ 0 := hz'.out; simp [intOf]; omega
      · obtain ⟨q, hq⟩ : ∃ q, n.tdiv 65536 = q := ⟨_, rfl⟩
        obtain ⟨r, hr⟩ : ∃ r, n.tmod 65536 = r := ⟨_, rfl⟩
        have hqr := Int.mul_tdiv_add_tmod n 65536
        have hr1 : -65536 < n.tmod 65536 := Int.lt_tmod_of_pos n (by decide)
        have hr2 : n.tmod 65536 ≤ 0 := by
          have : n.tmod 65536 = -((-n).tmod 65536) := by rw [Int.neg_tmod]; omega
          have := Int.tmod_nonneg (a := -n) 65536 (by omega)
          omega
        have hq1 : q ≤ 0 := by rw [hq, hr] at hqr; rw [hr] at hr1; omega
        rw [hq, hr] at hqr
        rw [hr] at hr1 hr2
        have hqn : (q.natAbs : Int) = -q := by omega
        have hD : Below wr.heap.size wr (wr.alloc (.cells #[.int .i64 (-r)] 3)) := (Below.refl _ _).alloc (Nat.le_refl _) _
        obtain ⟨a2, cap2, w2, hrun, hown2, hb2⟩ := run_append_row (P := Tryz.prog) (wr.alloc (.cells #[.int .i64 (-r)] 3)) 30 30 3 W.heap.size .i64 8 65536 i0 Tryz.underlying30 hi hz0 hz1 hz2 a cap ds.length ds (hown.next hD) rfl ⟨wr.heap.size, 0, none⟩ 1 1 [-r] (Row.alloc1 wr .i64 3 65536 (-r) (by omega)) rfl (by omega) (by have := hdl.out; omega) (by omega) (by simp; omega)
        have hbel2 : Below W.heap.size W w2 := (hbel.trans (hD.mono hsz)).trans hb2
        have hv2 : Hid (val 65536 (ds ++ [-r]) + (q.natAbs : Int) * 65536 ^ (k + 1) = (n0.natAbs : Int)) := by
          refine of_step (n := (n.natAbs : Int)) hdl.out ?_ hdv.out
          omega
        have hn2 : Hid (q = 0 → nrm (ds ++ [-r])) := fun h => nrm_snoc _ _ (by have hnz : n ≠ 0 := hz'.out; omega)
        have hl3 : ds.length + 1 = (ds ++ [-r]).length := by simp
        replace hl3 : Hid _ := hl3
        have hnn : n ≤ 0 := by omega
        have hlt' : q.natAbs < n.natAbs := by have hnz : n ≠ 0 := hz'.out; omega
        have hqb : -9223372036854775808 ≤ q ∧ q ≤ 9223372036854775807 := by omega
        clear hqn
        by_cases hrz : r = 0
        · subst hrz
          have e0 : (-(0 : Int)) = 0 := rfl
          rw [e0] at hrun hown2 hv2 hn2 hl3
          replace hrun : Hid _ := hrun
          replace hqr : Hid _ := hqr
          go_wp2_with (at_builtin; refine wpList_append_run (by rfl) (.tmp 16) (.tmp 18) 30 30 (by rfl) (.slice a ds.length cap) (.slice (some ⟨wr.heap.size, 0, none⟩) 1 1) (by rfl) (by rfl) _ _ hrun.out ?_)
          go_roundw
          case rel => exact ⟨k + 1, q, a2, cap2, ds ++ [0], by omega, rfl, by rw [← hl3.out], hown2, by show _ = _; rw [← hl3.out, hdl.out], hv2, hn2, fun h => by have := hs0.out h; omega, fun h => by omega, by omega, by omega, hbel2⟩
          case measure => simp [intOf]; omega
        · have hrn : r < 0 := by omega
          replace hrun : Hid _ := hrun
          replace hqr : Hid _ := hqr
          go_wp2_with (at_builtin; refine wpList_append_run (by rfl) (.tmp 16) (.tmp 18) 30 30 (by rfl) (.slice a ds.length cap) (.slice (some ⟨wr.heap.size, 0, none⟩) 1 1) (by rfl) (by rfl) _ _ hrun.out ?_)
          go_roundw
          case rel => exact ⟨k + 1, q, a2, cap2, ds ++ [-r], by omega, rfl, by rw [← hl3.out], hown2, by show _ = _; rw [← hl3.out, hdl.out], hv2, hn2, fun h => by have := hs0.out h; omega, fun h => by omega, by omega, by omega, hbel2⟩
          case measure => simp [intOf]; omega
theorem boxes_scaled (w : World) (n1 : Bool) (a1 : Option Addr) (l1 c1 : Nat) (n2 : Bool) (a2 : Option Addr) (l2 c2 : Nat) : ∃ W, W = (w.alloc (.cells #[.bool n1, .slice a1 l1 c1, .bool n2, .slice a2 l2 c2] 34)).alloc (.cells #[.bool false, .slice none 0 0, .bool false, .slice none 0 0] 34) ∧ Below w.heap.size w W ∧
    (W.cell? ⟨w.heap.size, 0, none⟩ = some (.bool n1) ∧ W.cell? ⟨w.heap.size, 1, none⟩ = some (.slice a1 l1 c1) ∧ W.cell? ⟨w.heap.size, 2, none⟩ = some (.bool n2) ∧ W.cell? ⟨w.heap.size, 3, none⟩ = some (.slice a2 l2 c2)) ∧ Box4 W (w.heap.size + 1) := by
  refine ⟨_, rfl, ((Below.refl _ _).alloc (Nat.le_refl _) _).alloc (by simp) _, ⟨?_, ?_, ?_, ?_⟩, ?n0⟩
  case n0 =>
    have h := Box4.new (w.alloc (.cells #[.bool n1, .slice a1 l1 c1, .bool n2, .slice a2 l2 c2] 34)) false none 0 0 false none 0 0 34 (by decide)
    rw [show (w.alloc (.cells #[.bool n1, .slice a1 l1 c1, .bool n2, .slice a2 l2 c2] 34)).heap.size = w.heap.size + 1 from by simp] at h
    exact h
  all_goals simp [go_sem, World.cell?_alloc_past]
theorem low_scN {p q k P Q : Int} (hq : 0 < q) {n : Nat} (hk : k = (n : Int)) (h : Low (pN (p * 2 ^ n) (q * 1)) (pD (q * 1)) P Q) : Low (scN p (-k)) (scD q (-k)) P Q := by
  rw [Int.mul_one, pN_pos hq, pD_of hq] at h
  subst hk
  unfold scN scD
  by_cases h0 : -(n : Int) < 0
  · rw [if_pos h0, if_pos h0, show (- -(n : Int)).toNat = n from by omega]; exact h
  · obtain rfl : n = 0 := by omega
    rw [if_neg h0, if_neg h0]
    simpa using h
theorem low_scD {p q k P Q : Int} (hq : 0 < q) {n : Nat} (hk : k = -(n : Int)) (h : Low (pN (p * 1) (q * 2 ^ n)) (pD (q * 2 ^ n)) P Q) : Low (scN p (-k)) (scD q (-k)) P Q := by
  have h2 : 0 < q * 2 ^ n := Int.mul_pos hq (two_pos n)
  rw [Int.mul_one, pN_pos h2, pD_of h2] at h
  subst hk
  unfold scN scD
  rw [if_neg (by omega), if_neg (by omega), show (- -(n : Int)).toNat = n from by omega]
  exact h
set_option maxRecDepth 20000 in
set_option maxHeartbeats 4000000 in
theorem scaled_num {w : World} {u : Value} {p q : Int} (hu : RatR w u p q 190) (hq : 0 < q) (k : Int) (h0 : -2400 ≤ k) (h1 : k ≤ 2400) :
    Calls Tryz.prog 61 #[u, .int .i64 k] w fun e w' => ∃ t, e = .returned t ∧ LowR w' t (scN p (-k)) (scD q (-k)) 384 ∧ Below w.heap.size w w' := by
  obtain ⟨n1, a1, l1, c1, n2, a2, l2, c2, rfl⟩ := hu.form
  obtain ⟨W, hW, hbW, ⟨e0, e1, e2, e3⟩, x0⟩ := boxes_scaled w n1 a1 l1 c1 n2 a2 l2 c2
  have hR := hu.next hbW
  have hD0 : Below W.heap.size W W.drew := (Below.refl _ _).drew
  go_enter Tryz.func61, Tryz.ntmps61
  go_upto_region 1 with fail
  rw [← hW]
  clear hW hu
  by_cases hk : 0 ≤ k
  · obtain ⟨n, hn⟩ : ∃ n : Nat, k = (n : Int) := ⟨k.toNat, by omega⟩
    have hlw : Hid (∀ P Q, Low (pN (p * 2 ^ n) (q * 1)) (pD (q * 1)) P Q → Low (scN p (-k)) (scD q (-k)) P Q) := fun P Q h => low_scN hq hn h
    have hd : decide (k ≥ 0) = true := by simpa using hk
    subst hn
    go_upto_region 2 with fail
    go_region_with (first
      | (go_at_call 53; refine Calls.mono (Power2_any n _ (by omega)) ?_; rintro e w4 ⟨t, rfl, hP, hb4⟩; have hB4 : Below W.heap.size W w4 := bthen hD0 hb4; have p0 := keep_cell hB4 e0; have p1 := keep_cell hB4 e1; have p2 := keep_cell hB4 e2; have p3 := keep_cell hB4 e3)
      | (go_at_call 27; refine Calls.mono (rWhole_num hP.rint) ?_; rintro e w5 ⟨t, rfl, hQ, hb5⟩; have hB5 : Below W.heap.size W w5 := bthen hB4 hb5; have q0 := keep_cell hB5 e0; have q1 := keep_cell hB5 e1; have q2 := keep_cell hB5 e2; have q3 := keep_cell hB5 e3; replace hQ := hQ.more (k := 190) (by omega))
      | (go_at_call 11; refine Calls.mono (MulRat_num (hR.next hB5) hQ (by decide) (by omega)) ?_; rintro e w6 ⟨t, rfl, hS, hb6⟩; obtain ⟨n5, a5, l5, c5, n6, a6, l6, c6, rfl⟩ := hS.form; have hB6 : Below W.heap.size W w6 := bthen hB5 hb6; have y0 := x0.next hB6; obtain ⟨_, _, _, _, _, _, _, _, j0, j1, j2, j3, f⟩ := y0.cells; have f0 := f 0; have f1 := f 1; have f2 := f 2; have f3 := f 3; clear f))
    all_goals
      obtain ⟨P, Q, hS, hl⟩ := hS
      replace hl : Hid _ := hlw.out P Q hl
      have hbx : Hid _ := put4_boxed (base := w.heap.size) y0.noint (by omega) n5 a5 l5 c5 n6 a6 l6 c6
      have hBf := bthen hbW hB6
      obtain ⟨r1, r2⟩ := hS.parts
      have hUf : Hid _ := (hbx.out.rint r1).mono (m := 384) (by omega)
      have hOf : Hid _ := (hbx.out.rint r2).mono (m := 384) (by omega)
      clear hlw hP hQ hS hR r1 r2 hb4 hb5 hb6 hB4 hB5 hB6
      go_wp2
      exact bodyPost_ret (v := .agg #[.bool n5, .slice a5 l5 c5, .bool n6, .slice a6 l6 c6]) (by simp [results, Tryz.results61, go_sem, j0, j1, j2, j3]) rfl ⟨_, rfl, ⟨P, Q, ⟨_, _, _, _, _, _, _, _, rfl, hUf.out, hOf.out⟩, hl.out⟩, hbx.out.keep hBf (Nat.le_refl _) hBf.size⟩
  · obtain ⟨n, hn⟩ : ∃ n : Nat, k = -(n : Int) := ⟨(-k).toNat, by omega⟩
    have hlw : Hid (∀ P Q, Low (pN (p * 1) (q * 2 ^ n)) (pD (q * 2 ^ n)) P Q → Low (scN p (-k)) (scD q (-k)) P Q) := fun P Q h => low_scD hq hn h
    have hd : decide (k ≥ 0) = false := by simp; omega
    have hwk : IntKind.i64.wrap (n : Int) = (n : Int) := by rw [IntKind.wrap_i64]; omega
    have hz : Hid (q * 2 ^ n ≠ 0) := by have := Int.mul_pos hq (two_pos n); show _ ≠ _; omega
    subst hn
    go_upto_region 3 with fail
    go_region_with (first
      | (go_at_call 53; refine Calls.mono (Power2_any n _ (by omega)) ?_; rintro e w4 ⟨t, rfl, hP, hb4⟩; have hB4 : Below W.heap.size W w4 := bthen hD0 hb4; have p0 := keep_cell hB4 e0; have p1 := keep_cell hB4 e1; have p2 := keep_cell hB4 e2; have p3 := keep_cell hB4 e3)
      | (go_at_call 27; refine Calls.mono (rWhole_num hP.rint) ?_; rintro e w5 ⟨t, rfl, hQ, hb5⟩; have hB5 : Below W.heap.size W w5 := bthen hB4 hb5; have q0 := keep_cell hB5 e0; have q1 := keep_cell hB5 e1; have q2 := keep_cell hB5 e2; have q3 := keep_cell hB5 e3; replace hQ := hQ.more (k := 190) (by omega))
      | (go_at_call 25; refine Calls.mono (QuoRat_num (hR.next hB5) hQ (by decide) hz.out) ?_; rintro e w6 ⟨t, rfl, hS, hb6⟩; obtain ⟨n5, a5, l5, c5, n6, a6, l6, c6, rfl⟩ := hS.form; have hB6 : Below W.heap.size W w6 := bthen hB5 hb6; have y0 := x0.next hB6; obtain ⟨_, _, _, _, _, _, _, _, j0, j1, j2, j3, f⟩ := y0.cells; have f0 := f 0; have f1 := f 1; have f2 := f 2; have f3 := f 3; clear f))
    all_goals
      obtain ⟨P, Q, hS, hl⟩ := hS
      replace hl : Hid _ := hlw.out P Q hl
      have hbx : Hid _ := put4_boxed (base := w.heap.size) y0.noint (by omega) n5 a5 l5 c5 n6 a6 l6 c6
      have hBf := bthen hbW hB6
      obtain ⟨r1, r2⟩ := hS.parts
      have hUf : Hid _ := (hbx.out.rint r1).mono (m := 384) (by omega)
      have hOf : Hid _ := (hbx.out.rint r2).mono (m := 384) (by omega)
      clear hlw hP hQ hS hR r1 r2 hb4 hb5 hb6 hB4 hB5 hB6
      go_wp2
      exact bodyPost_ret (v := .agg #[.bool n5, .slice a5 l5 c5, .bool n6, .slice a6 l6 c6]) (by simp [results, Tryz.results61, go_sem, j0, j1, j2, j3]) rfl ⟨_, rfl, ⟨P, Q, ⟨_, _, _, _, _, _, _, _, rfl, hUf.out, hOf.out⟩, hl.out⟩, hbx.out.keep hBf (Nat.le_refl _) hBf.size⟩
end Go.Proofs.YtmpefgemlpnbiaaGreat
namespace Go.Proofs.YtmpefgemlpnbiaaGreat
set_option linter.unusedVariables false
open Go.RowKit
attribute [local go_sem ↓] Go.wp_at_zero Go.wp_at_succ
theorem band_field (b : Nat) (hb : b < 18446744073709551616) : bits .and .u64 ((b : Int) / 4503599627370496) 2047 = ((b % 9223372036854775808 / 4503599627370496 : Nat) : Int) := by
  have h := bits_and_u64_nat (b / 4503599627370496) 2047 (by omega) (by decide)
  rw [show (2047 : Nat) = 2 ^ 11 - 1 from by decide, Nat.and_two_pow_sub_one_eq_mod] at h
  rw [show b % 9223372036854775808 / 4503599627370496 = b / 4503599627370496 % 2 ^ 11 from by omega, show (b : Int) / 4503599627370496 = ((b / 4503599627370496 : Nat) : Int) from by omega]
  exact h
theorem band_units (b : Nat) (hb : b < 18446744073709551616) : bits .and .u64 (b : Int) 4503599627370495 = ((b % 9223372036854775808 % 4503599627370496 : Nat) : Int) := by
  have h := bits_and_u64_nat b 4503599627370495 hb (by decide)
  rw [show (4503599627370495 : Nat) = 2 ^ 52 - 1 from by decide, Nat.and_two_pow_sub_one_eq_mod] at h
  rw [show b % 9223372036854775808 % 4503599627370496 = b % 2 ^ 52 from by omega]
  exact h
theorem scN_neg (y c : Int) : scN (-y) c = -scN y c := by unfold scN; split <;> simp [Int.neg_mul]
theorem low_neg' {n d p q : Int} (h : Low n d p q) : Low (-n) d (-p) q := ⟨h.1, by rw [Int.natAbs_neg]; exact h.2.1, by rw [Int.neg_mul, Int.neg_mul, h.2.2]⟩
/-- The second road's answer. -/
def RefAns (w : World) (t : Value) (b : Nat) : Prop := (b % 9223372036854775808 < 9218868437227405312 → LowR w t (exN b) (exD b) 384) ∧ (¬ b % 9223372036854775808 < 9218868437227405312 → RatR w t 0 1 384)
theorem refAns_pos {b : Nat} (h : ¬ 9223372036854775808 ≤ b) {M U : Int} (hM : M = dgC (b % 9223372036854775808)) (hU : U = dgU (b % 9223372036854775808)) (hs : b % 9223372036854775808 < 9218868437227405312) {V : World} {t : Value} (k : LowR V t (scN M (-U)) (scD 1 (-U)) 384) : RefAns V t b := by
  refine ⟨fun _ => ?_, fun h => absurd hs h⟩
  unfold exN exD
  rw [decide_eq_false h]
  simp only [Bool.false_eq_true, if_false]
  rw [← hM, ← hU]
  exact k
theorem refAns_neg {b : Nat} (h : 9223372036854775808 ≤ b) {M U : Int} (hM : M = dgC (b % 9223372036854775808)) (hU : U = dgU (b % 9223372036854775808)) (hs : b % 9223372036854775808 < 9218868437227405312) {V : World} {t : Value} {P Q : Int} (k : Low (scN M (-U)) (scD 1 (-U)) P Q) (r : RatR V t (-P) Q 384) : RefAns V t b := by
  refine ⟨fun _ => ⟨-P, Q, r, ?_⟩, fun h => absurd hs h⟩
  unfold exN exD
  rw [decide_eq_true h]
  simp only [if_true]
  rw [← hM, ← hU, scN_neg]
  exact low_neg' k
theorem keep_box (w : World) (n1 : Bool) (a1 : Option Addr) (l1 c1 : Nat) (n2 : Bool) (a2 : Option Addr) (l2 c2 : Nat) : ∃ W, W = w.alloc (.cells #[.bool n1, .slice a1 l1 c1, .bool n2, .slice a2 l2 c2] 34) ∧ Below w.heap.size w W ∧ Box4 W w.heap.size ∧
    (W.cell? ⟨w.heap.size, 0, none⟩ = some (.bool n1) ∧ W.cell? ⟨w.heap.size, 1, none⟩ = some (.slice a1 l1 c1) ∧ W.cell? ⟨w.heap.size, 2, none⟩ = some (.bool n2) ∧ W.cell? ⟨w.heap.size, 3, none⟩ = some (.slice a2 l2 c2)) := by
  refine ⟨_, rfl, (Below.refl _ _).alloc (Nat.le_refl _) _, Box4.new w n1 a1 l1 c1 n2 a2 l2 c2 34 (by decide), ?_, ?_, ?_, ?_⟩ <;> simp [go_sem]
set_option maxRecDepth 20000 in
set_option maxHeartbeats 4000000 in
theorem Exact24_num (b : Nat) (w : World) (hb : b < 18446744073709551616) : Calls Tryz.prog 24 #[.float .f64 b] w fun e w' => ∃ t, e = .returned (.tuple #[t, .bool (exOk b)]) ∧ RefAns w' t b ∧ Below w.heap.size w w' := by
  have hc := bits64
  have h63 : (b : Int) / 9223372036854775808 = if 9223372036854775808 ≤ b then 1 else 0 := by split <;> omega
  have ha := band_field b hb
  have hm := band_units b hb
  have hsl : b % 9223372036854775808 < 9223372036854775808 := Nat.mod_lt _ (by decide)
  have hok : Hid (exOk b = decide (b % 9223372036854775808 < 9218868437227405312)) := rfl
  have hC : Hid (dgC (b % 9223372036854775808) = if b % 9223372036854775808 / 4503599627370496 = 0 then b % 9223372036854775808 % 4503599627370496 else 4503599627370496 + b % 9223372036854775808 % 4503599627370496) := rfl
  have hU : Hid (dgU (b % 9223372036854775808) = if b % 9223372036854775808 / 4503599627370496 = 0 then (-1074 : Int) else (b % 9223372036854775808 / 4503599627370496 : Nat) - 1 + -1074) := rfl
  have hxs : b % 9223372036854775808 / 4503599627370496 = 2047 ↔ ¬ b % 9223372036854775808 < 9218868437227405312 := by omega
  have hx0 : b % 9223372036854775808 / 4503599627370496 < 2048 := by omega
  have hf0 : b % 9223372036854775808 % 4503599627370496 < 4503599627370496 := Nat.mod_lt _ (by decide)
  have kP : Hid (¬ 9223372036854775808 ≤ b → ∀ M U : Int, M = dgC (b % 9223372036854775808) → U = dgU (b % 9223372036854775808) → b % 9223372036854775808 < 9218868437227405312 → ∀ V t, LowR V t (scN M (-U)) (scD 1 (-U)) 384 → RefAns V t b) := fun h M U h1 h2 h3 V t k => refAns_pos h h1 h2 h3 k
  have kN : Hid (9223372036854775808 ≤ b → ∀ M U : Int, M = dgC (b % 9223372036854775808) → U = dgU (b % 9223372036854775808) → b % 9223372036854775808 < 9218868437227405312 → ∀ V t P Q, Low (scN M (-U)) (scD 1 (-U)) P Q → RatR V t (-P) Q 384 → RefAns V t b) := fun h M U h1 h2 h3 V t P Q k r => refAns_neg h h1 h2 h3 k r
  have kI : Hid (¬ b % 9223372036854775808 < 9218868437227405312 → ∀ V t, RatR V t 0 1 384 → RefAns V t b) := fun h V t r => ⟨fun k => absurd k h, fun _ => r⟩
  generalize exOk b = ok at *
  generalize dgC (b % 9223372036854775808) = C at *
  generalize dgU (b % 9223372036854775808) = U at *
  generalize b % 9223372036854775808 / 4503599627370496 = x at *
  generalize b % 9223372036854775808 % 4503599627370496 = f at *
  generalize b % 9223372036854775808 = s at *
  obtain ⟨W, hW, hbW, x0, _⟩ := keep_box w false none 0 0 false none 0 0
  have hwx : IntKind.i64.wrap (x : Int) = x := by rw [IntKind.wrap_i64]; omega
  have hwf : IntKind.i64.wrap (f : Int) = f := by rw [IntKind.wrap_i64]; omega
  by_cases hinf : x = 2047
  · have hs := hxs.1 hinf
    have hok2 : Hid (ok = false) := by show _ = _; rw [hok.out]; simpa using hs
    replace kI : Hid _ := kI.out hs
    subst hinf
    clear hok hC hU hxs kP kN hs h63
    go_enter Tryz.func24, Tryz.ntmps24
    go_upto_region 1 with fail
    rw [← hW]
    clear hW
    go_wp2_with fail
    refine Calls.mono (rWhole_num (m := 0) (n := 0) ⟨false, none, 0, [], rfl, Row.empty _ _ _, ⟨trivial, fun h => by cases h⟩, rfl, by simp⟩) ?_
    rintro e w7 ⟨R, rfl, hR, b7⟩
    obtain ⟨n5, a5, l5, c5, n6, a6, l6, c6, rfl⟩ := hR.form
    have y0 := x0.next b7
    obtain ⟨_, _, _, _, _, _, _, _, j0, j1, j2, j3, ff⟩ := y0.cells
    have f0 := ff 0
    have f1 := ff 1
    have f2 := ff 2
    have f3 := ff 3
    clear ff
    obtain ⟨V, hV, hch, hbx, v0, v1, v2, v3⟩ := put_one y0 n5 a5 l5 c5 n6 a6 l6 c6
    have hA : Hid _ := kI.out V _ ((hR.chg hch y0.noint).more (by decide))
    have hBV : Below w.heap.size w V := (bthen hbW b7).trans (hch.below _ (Nat.le_refl _))
    clear hR hch hbx kI
    go_wp2
    rw [← hV]
    exact bodyPost_ret (v := .tuple #[.agg #[.bool n5, .slice a5 l5 c5, .bool n6, .slice a6 l6 c6], .bool false]) (by simp [results, Tryz.results24, go_sem, v0, v1, v2, v3]) rfl ⟨_, by rw [hok2.out], hA.out, hBV⟩
  have hs : s < 9218868437227405312 := by
    by_cases h : s < 9218868437227405312
    · exact h
    · exact absurd (hxs.2 h) hinf
  have hok2 : Hid (ok = true) := by show _ = _; rw [hok.out]; simpa using hs
  have d0 : ((x : Int) == 2047) = false := by simp; omega
  have hinf' : ¬ ((x : Int) = 2047) := by omega
  clear kI hok hxs
  by_cases hx : x = 0
  · subst hx
    rw [if_pos rfl] at hC hU
    go_enter Tryz.func24, Tryz.ntmps24
    go_upto_region 1 with fail
    rw [← hW]
    clear hW
    go_wp2_with fail
    refine Calls.mono (rOf_any _ _ (by omega) (by omega)) ?_
    rintro e w1 ⟨t1, rfl, hO, b1⟩
    go_wp2_with fail
    refine Calls.mono (rWhole_num hO.rint) ?_
    rintro e w2 ⟨t2, rfl, hR, b2⟩
    replace hR := hR.more (k := 190) (by decide)
    go_wp2_with fail
    refine Calls.mono (scaled_num hR (by decide) _ (by omega) (by omega)) ?_
    rintro e w3 ⟨t3, rfl, hS, b3⟩
    obtain ⟨n1, a1, l1, c1, n2, a2, l2, c2, rfl⟩ := hS.form
    obtain ⟨W1, hW1, b4, z0, p0, p1, p2, p3⟩ := keep_box w3 n1 a1 l1 c1 n2 a2 l2 c2
    have b14 := bthen (bthen b1 b2) (bthen b3 b4)
    replace hS := hS.next b4
    replace x0 := x0.next b14
    have hB := bthen hbW b14
    have hgs : w.heap.size ≤ w3.heap.size := (bthen hbW (bthen (bthen b1 b2) b3)).size
    clear hO hR b1 b2 b3 b4 b14 hbW
    go_upto_region 11 with fail
    rw [← hW1]
    clear hW1
    generalize w3.heap.size = g3 at *
    by_cases hg : 9223372036854775808 ≤ b
    · rw [if_pos hg] at h63
      replace kN : Hid _ := kN.out hg (f : Int) (-1074) (by have := hC.out; omega) (by have := hU.out; omega) hs
      obtain ⟨P, Q, hS, hl⟩ := hS
      replace hl : Hid _ := hl
      clear kP hC hU hs
      go_wp2_with fail
      refine Calls.mono (NegRat_num hS) ?_
      rintro e w5 ⟨t5, rfl, hR, b5⟩
      obtain ⟨n3, a3, l3, c3, n4, a4, l4, c4, rfl⟩ := hR.form
      have z1 := z0.next b5
      have y1 := x0.next b5
      obtain ⟨_, _, _, _, _, _, _, _, j0, j1, j2, j3, ff⟩ := z1.cells
      have f0 := ff 0
      have f1 := ff 1
      have f2 := ff 2
      have f3 := ff 3
      clear ff
      obtain ⟨V, hV, hch, hbx, v0, v1, v2, v3⟩ := put_one z1 n3 a3 l3 c3 n4 a4 l4 c4
      have zV : Box4 V g3 := by rw [hV]; exact z1.put _ _ _ _ _ _ _ _
      have yV : Box4 V w.heap.size := y1.chg hch zV
      have hRV := hR.chg hch z1.noint
      have hBV := bthen hB b5
      replace hBV : Below w.heap.size w V := hBV.trans (hch.below _ hgs)
      clear hR hS b5 hB p0 p1 p2 p3 hch hbx
      go_upto_region 13 with fail
      rw [← hV]
      clear hV j0 j1 j2 j3 f0 f1 f2 f3 z1 y1
      obtain ⟨_, _, _, _, _, _, _, _, j0, j1, j2, j3, ff⟩ := yV.cells
      have f0 := ff 0
      have f1 := ff 1
      have f2 := ff 2
      have f3 := ff 3
      clear ff
      obtain ⟨V2, hV2, hch2, hbx2, u0, u1, u2, u3⟩ := put_one yV n3 a3 l3 c3 n4 a4 l4 c4
      have hA : Hid _ := kN.out V2 _ P Q hl.out ((hRV.chg hch2 yV.noint).more (by decide))
      have hBV2 : Below w.heap.size w V2 := hBV.trans (hch2.below _ (Nat.le_refl _))
      clear hRV hBV hch2 hbx2 kN hl
      go_wp2
      rw [← hV2]
      exact bodyPost_ret (v := .tuple #[.agg #[.bool n3, .slice a3 l3 c3, .bool n4, .slice a4 l4 c4], .bool true]) (by simp [results, Tryz.results24, go_sem, u0, u1, u2, u3]) rfl ⟨_, by rw [hok2.out], hA.out, hBV2⟩
    · rw [if_neg hg] at h63
      replace kP : Hid _ := kP.out hg (f : Int) (-1074) (by have := hC.out; omega) (by have := hU.out; omega) hs
      clear kN hC hU hs
      obtain ⟨_, _, _, _, _, _, _, _, j0, j1, j2, j3, ff⟩ := x0.cells
      have f0 := ff 0
      have f1 := ff 1
      have f2 := ff 2
      have f3 := ff 3
      clear ff
      obtain ⟨V2, hV2, hch2, hbx2, u0, u1, u2, u3⟩ := put_one x0 n1 a1 l1 c1 n2 a2 l2 c2
      have hA : Hid _ := kP.out V2 _ (hS.chg hch2 x0.noint)
      have hBV2 : Below w.heap.size w V2 := hB.trans (hch2.below _ (Nat.le_refl _))
      clear hS hB hch2 hbx2 kP
      go_wp2
      rw [← hV2]
      exact bodyPost_ret (v := .tuple #[.agg #[.bool n1, .slice a1 l1 c1, .bool n2, .slice a2 l2 c2], .bool true]) (by simp [results, Tryz.results24, go_sem, u0, u1, u2, u3]) rfl ⟨_, by rw [hok2.out], hA.out, hBV2⟩
  · rw [if_neg hx] at hC hU
    have d1 : ((x : Int) == 0) = false := by simpa using hx
    have hx' : ¬ ((x : Int) = 0) := by omega
    obtain ⟨M, hM⟩ : ∃ M : Int, (f : Int) + 4503599627370496 = M := ⟨_, rfl⟩
    obtain ⟨T, hT⟩ : ∃ T : Int, (x : Int) - 1075 = T := ⟨_, rfl⟩
    have hMb : 0 ≤ M ∧ M < 9007199254740992 := by omega
    have hTb : -1075 ≤ T ∧ T ≤ 971 := by omega
    have hw2 : IntKind.i64.wrap T = T := by rw [IntKind.wrap_i64]; omega
    have hw3 : IntKind.i64.wrap M = M := by rw [IntKind.wrap_i64]; omega
    go_enter Tryz.func24, Tryz.ntmps24
    go_upto_region 1 with fail
    rw [← hW]
    clear hW
    go_wp2_with fail
    refine Calls.mono (rOf_any M _ (by omega) (by omega)) ?_
    rintro e w1 ⟨t1, rfl, hO, b1⟩
    go_wp2_with fail
    refine Calls.mono (rWhole_num hO.rint) ?_
    rintro e w2 ⟨t2, rfl, hR, b2⟩
    replace hR := hR.more (k := 190) (by decide)
    go_wp2_with fail
    refine Calls.mono (scaled_num hR (by decide) T (by omega) (by omega)) ?_
    rintro e w3 ⟨t3, rfl, hS, b3⟩
    obtain ⟨n1, a1, l1, c1, n2, a2, l2, c2, rfl⟩ := hS.form
    obtain ⟨W1, hW1, b4, z0, p0, p1, p2, p3⟩ := keep_box w3 n1 a1 l1 c1 n2 a2 l2 c2
    have b14 := bthen (bthen b1 b2) (bthen b3 b4)
    replace hS := hS.next b4
    replace x0 := x0.next b14
    have hB := bthen hbW b14
    have hgs : w.heap.size ≤ w3.heap.size := (bthen hbW (bthen (bthen b1 b2) b3)).size
    clear hO hR b1 b2 b3 b4 b14 hbW
    go_upto_region 11 with fail
    rw [← hW1]
    clear hW1
    generalize w3.heap.size = g3 at *
    by_cases hg : 9223372036854775808 ≤ b
    · rw [if_pos hg] at h63
      replace kN : Hid _ := kN.out hg M T (by have := hC.out; omega) (by have := hU.out; omega) hs
      obtain ⟨P, Q, hS, hl⟩ := hS
      replace hl : Hid _ := hl
      clear kP hC hU hs
      go_wp2_with fail
      refine Calls.mono (NegRat_num hS) ?_
      rintro e w5 ⟨t5, rfl, hR, b5⟩
      obtain ⟨n3, a3, l3, c3, n4, a4, l4, c4, rfl⟩ := hR.form
      have z1 := z0.next b5
      have y1 := x0.next b5
      obtain ⟨_, _, _, _, _, _, _, _, j0, j1, j2, j3, ff⟩ := z1.cells
      have f0 := ff 0
      have f1 := ff 1
      have f2 := ff 2
      have f3 := ff 3
      clear ff
      obtain ⟨V, hV, hch, hbx, v0, v1, v2, v3⟩ := put_one z1 n3 a3 l3 c3 n4 a4 l4 c4
      have zV : Box4 V g3 := by rw [hV]; exact z1.put _ _ _ _ _ _ _ _
      have yV : Box4 V w.heap.size := y1.chg hch zV
      have hRV := hR.chg hch z1.noint
      have hBV := bthen hB b5
      replace hBV : Below w.heap.size w V := hBV.trans (hch.below _ hgs)
      clear hR hS b5 hB p0 p1 p2 p3 hch hbx
      go_upto_region 13 with fail
      rw [← hV]
      clear hV j0 j1 j2 j3 f0 f1 f2 f3 z1 y1
      obtain ⟨_, _, _, _, _, _, _, _, j0, j1, j2, j3, ff⟩ := yV.cells
      have f0 := ff 0
      have f1 := ff 1
      have f2 := ff 2
      have f3 := ff 3
      clear ff
      obtain ⟨V2, hV2, hch2, hbx2, u0, u1, u2, u3⟩ := put_one yV n3 a3 l3 c3 n4 a4 l4 c4
      have hA : Hid _ := kN.out V2 _ P Q hl.out ((hRV.chg hch2 yV.noint).more (by decide))
      have hBV2 : Below w.heap.size w V2 := hBV.trans (hch2.below _ (Nat.le_refl _))
      clear hRV hBV hch2 hbx2 kN hl
      go_wp2
      rw [← hV2]
      exact bodyPost_ret (v := .tuple #[.agg #[.bool n3, .slice a3 l3 c3, .bool n4, .slice a4 l4 c4], .bool true]) (by simp [results, Tryz.results24, go_sem, u0, u1, u2, u3]) rfl ⟨_, by rw [hok2.out], hA.out, hBV2⟩
    · rw [if_neg hg] at h63
      replace kP : Hid _ := kP.out hg M T (by have := hC.out; omega) (by have := hU.out; omega) hs
      clear kN hC hU hs
      obtain ⟨_, _, _, _, _, _, _, _, j0, j1, j2, j3, ff⟩ := x0.cells
      have f0 := ff 0
      have f1 := ff 1
      have f2 := ff 2
      have f3 := ff 3
      clear ff
      obtain ⟨V2, hV2, hch2, hbx2, u0, u1, u2, u3⟩ := put_one x0 n1 a1 l1 c1 n2 a2 l2 c2
      have hA : Hid _ := kP.out V2 _ (hS.chg hch2 x0.noint)
      have hBV2 : Below w.heap.size w V2 := hB.trans (hch2.below _ (Nat.le_refl _))
      clear hS hB hch2 hbx2 kP
      go_wp2
      rw [← hV2]
      exact bodyPost_ret (v := .tuple #[.agg #[.bool n1, .slice a1 l1 c1, .bool n2, .slice a2 l2 c2], .bool true]) (by simp [results, Tryz.results24, go_sem, u0, u1, u2, u3]) rfl ⟨_, by rw [hok2.out], hA.out, hBV2⟩
end Go.Proofs.YtmpefgemlpnbiaaGreat
namespace Go.Proofs.YtmpefgemlpnbiaaGreat
set_option linter.unusedVariables false
open Go.RowKit
theorem ex_val (s : Nat) (hs : s < 9218868437227405312) : ∃ T : Int, 0 < T ∧ exN s * T = (rgV s : Int) ∧ exD s * T = 2 ^ 1074 := by
  have hm : s % 9223372036854775808 = s := Nat.mod_eq_of_lt (by omega)
  have hu := dgU_lt s hs
  obtain ⟨K, hK⟩ : ∃ K : Nat, (K : Int) = dgU s + 1074 := ⟨(dgU s + 1074).toNat, by omega⟩
  obtain ⟨T, h0, h1, h2⟩ := sc_up (dgC s : Int) 1 (-dgU s) K (by omega)
  refine ⟨T, h0, ?_, ?_⟩
  · unfold exN
    rw [hm, decide_eq_false (by omega)]
    simp only [Bool.false_eq_true, if_false]
    rw [h2]
    unfold dgU at hK
    unfold dgC rgV
    by_cases hx : s / 4503599627370496 = 0
    · rw [if_pos hx] at hK ⊢
      rw [if_pos (by omega)]
      obtain rfl : K = 0 := by omega
      rw [Int.pow_zero, Int.mul_one]
      omega
    · rw [if_neg hx] at hK ⊢
      rw [if_neg (by omega)]
      obtain rfl : K = s / 4503599627370496 - 1 := by omega
      simp
  · unfold exD
    rw [hm, h1, Int.one_mul]
    congr 1
    omega
theorem exN_sign (b : Nat) (hb : b < 18446744073709551616) : exN b = (if 9223372036854775808 ≤ b then -exN (b % 9223372036854775808) else exN (b % 9223372036854775808)) ∧ exD b = exD (b % 9223372036854775808) := by
  have hm : b % 9223372036854775808 % 9223372036854775808 = b % 9223372036854775808 := Nat.mod_mod _ _
  have hl : b % 9223372036854775808 < 9223372036854775808 := Nat.mod_lt _ (by decide)
  unfold exN exD
  rw [hm]
  refine ⟨?_, rfl⟩
  rw [decide_eq_false (show ¬ 9223372036854775808 ≤ b % 9223372036854775808 by omega)]
  by_cases h : 9223372036854775808 ≤ b
  · rw [decide_eq_true h, if_pos h]
    simp only [if_true, Bool.false_eq_true, if_false]
    exact scN_neg _ _
  · rw [decide_eq_false h, if_neg h]
theorem exN_nonneg (s : Nat) (hs : s < 9218868437227405312) : 0 ≤ exN s := by
  obtain ⟨T, h0, h1, _⟩ := ex_val s hs
  have h : 0 ≤ exN s * T := by omega
  by_cases hn : 0 ≤ exN s
  · exact hn
  · have := Int.mul_neg_of_neg_of_pos (show exN s < 0 by omega) h0
    omega
theorem low_val {s : Nat} (hs : s < 9218868437227405312) {P Q : Int} (h : Low (exN s) (exD s) P Q) : 0 ≤ P ∧ P * 2 ^ 1074 = (rgV s : Int) * Q := by
  obtain ⟨T, h0, h1, h2⟩ := ex_val s hs
  have e := h.2.2
  have hq := h.1
  have hd := exD_pos s
  have hv : P * 2 ^ 1074 = (rgV s : Int) * Q := by
    rw [← h1, ← h2]
    have : P * (exD s * T) = P * exD s * T := by rw [Int.mul_assoc]
    rw [this, e]
    grind
  refine ⟨?_, hv⟩
  by_cases hn : 0 ≤ P
  · exact hn
  · have h3 := Int.mul_neg_of_neg_of_pos (show P < 0 by omega) (two_pos 1074)
    have h4 : 0 ≤ (rgV s : Int) * Q := Int.mul_nonneg (by omega) (by omega)
    omega
theorem near_exact {c z : Int} (hz : 0 < z) : near (c * z) z = c := by
  unfold near
  rw [Int.mul_emod_left, Int.mul_ediv_cancel _ (by omega)]
  rw [if_neg (by omega)]
/-- c units of 2^u, that are y over z. -/
theorem near_units {y z c u : Int} (hz : 0 < z) {v : Int} (hv : y * 2 ^ 1074 = v * z) (hu : -1074 ≤ u) (hc : v = c * 2 ^ (u + 1074).toNat) : near (scN y u) (scD z u) = c := by
  have hS := scD_pos hz u
  obtain ⟨T, h0, h1, h2⟩ := sc_up y z u 1074 (by omega)
  have e : scN y u = c * scD z u := by
    have e1 : scN y u * T = c * scD z u * T := by
      rw [h2, hv, hc, Int.mul_assoc c (scD z u), h1]
      rw [show ((1074 : Nat) : Int) + u = u + 1074 from by omega]
      grind
    exact Int.eq_of_mul_eq_mul_right (by omega) e1
  rw [e]
  exact near_exact hS
theorem exp_bounds {y z e v : Int} (hz : 0 < z) (hv : y * 2 ^ 1074 = v * z) (h : IsExp y z e) {m n : Nat} (hm : (2 : Int) ^ m ≤ v) (hn : v < 2 ^ n) : (m : Int) ≤ e + 1074 ∧ e + 1074 < n := by
  obtain ⟨K, hK⟩ : ∃ K : Nat, K = e.natAbs := ⟨_, rfl⟩
  rw [isExp_iff y z e K (by omega)] at h
  obtain ⟨A, hA⟩ : ∃ A : Nat, (A : Int) = K + e := ⟨(K + e).toNat, by omega⟩
  rw [show ((K : Int) + e).toNat = A from by omega] at h
  have t := two_pos 1074
  have tk := two_pos K
  have e1 : y * 2 ^ K * 2 ^ 1074 = v * 2 ^ K * z := by
    rw [show y * 2 ^ K * 2 ^ 1074 = y * 2 ^ 1074 * 2 ^ K from by grind, hv]; grind
  have h1 : (2 : Int) ^ A * 2 ^ 1074 ≤ v * 2 ^ K := by
    have := Int.mul_le_mul_of_nonneg_right h.1 (Int.le_of_lt t)
    rw [e1, show z * 2 ^ A * 2 ^ 1074 = 2 ^ A * 2 ^ 1074 * z from by grind] at this
    exact Int.le_of_mul_le_mul_right this hz
  have h2 : v * 2 ^ K < (2 : Int) ^ (A + 1) * 2 ^ 1074 := by
    have := Int.mul_lt_mul_of_pos_right h.2 t
    rw [e1, show z * 2 ^ (A + 1) * 2 ^ 1074 = 2 ^ (A + 1) * 2 ^ 1074 * z from by grind] at this
    exact Int.lt_of_mul_lt_mul_right this (by omega)
  have h3 : (2 : Int) ^ m * 2 ^ K ≤ v * 2 ^ K := Int.mul_le_mul_of_nonneg_right hm (by omega)
  have h4 : v * 2 ^ K < 2 ^ n * 2 ^ K := Int.mul_lt_mul_of_pos_right hn tk
  rw [← Int.pow_add] at h1 h2 h3 h4
  constructor
  · by_cases hc : (m : Int) ≤ e + 1074
    · exact hc
    · have := pow_le2 (m := A + 1 + 1074) (n := m + K) (by omega)
      omega
  · by_cases hc : e + 1074 < n
    · exact hc
    · have := pow_le2 (m := n + K) (n := A + 1074) (by omega)
      omega
theorem rgV_pos {s : Nat} (h : s ≠ 0) : rgV s ≠ 0 := by
  unfold rgV
  split
  · exact h
  · have := Nat.two_pow_pos (s / 4503599627370496 - 1)
    exact Nat.mul_ne_zero (by omega) (by omega)
theorem round_back {s : Nat} (hs : s < 9218868437227405312) {P Q : Int} (h : Low (exN s) (exD s) P Q) {k : Int} {n : Int} (hn : (n.natAbs : Int) = P) (hk : R64 n Q k) : k = (s : Int) := by
  obtain ⟨hp, hv⟩ := low_val hs h
  have hq := h.1
  have hdA : dA Q = Q := by unfold dA; rw [if_neg (by omega)]; omega
  unfold R64 at hk
  rw [hn, hdA] at hk
  by_cases h0 : s = 0
  · subst h0
    have hr : rgV 0 = 0 := rfl
    rw [hr] at hv
    have hp0 : P = 0 := by
      have t := two_pos 1074
      have : P * 2 ^ 1074 = 0 := by rw [hv]; simp
      rcases Int.mul_eq_zero.1 this with h | h <;> omega
    have := hk.1 hp0
    omega
  · have hp0 : P ≠ 0 := by
      intro hp0
      subst hp0
      have : (rgV s : Int) * Q = 0 := by rw [← hv]; exact Int.zero_mul _
      rcases Int.mul_eq_zero.1 this with h | h
      · exact rgV_pos h0 (by omega)
      · omega
    obtain ⟨e, he, _, hr⟩ := hk.2 hp0
    by_cases hsub : s < 4503599627370496
    · have hg : rgV s = s := by unfold rgV; rw [if_pos hsub]
      have hb := (exp_bounds hq hv he (m := 0) (n := 52) (by rw [hg]; show (1 : Int) ≤ _; omega) (by rw [hg]; show _ < (4503599627370496 : Int); omega)).2
      have hM : max (e - (53 - 1)) (-1074) = -1074 := by omega
      rw [hM] at hr
      have := hr (by decide)
      rw [near_units (c := (s : Int)) hq hv (by decide) (by rw [hg]; show _ = _ * (1 : Int); omega)] at this
      omega
    · have hx : 1 ≤ s / 4503599627370496 := by omega
      have hg : rgV s = (4503599627370496 + s % 4503599627370496) * 2 ^ (s / 4503599627370496 - 1) := by unfold rgV; rw [if_neg hsub]
      have hsv : s = 4503599627370496 * (s / 4503599627370496) + s % 4503599627370496 := by omega
      have hxl : s / 4503599627370496 < 2047 := by omega
      have hfl : s % 4503599627370496 < 4503599627370496 := by omega
      generalize s / 4503599627370496 = x at *
      generalize s % 4503599627370496 = f at *
      have hgz : (rgV s : Int) = (4503599627370496 + (f : Int)) * 2 ^ (x - 1) := by rw [hg]; simp
      have t := two_pos (x - 1)
      have lo : (2 : Int) ^ (52 + (x - 1)) ≤ rgV s := by
        rw [hgz, Int.pow_add]
        exact Int.mul_le_mul_of_nonneg_right (by show (4503599627370496 : Int) ≤ _; omega) (by omega)
      have hi : (rgV s : Int) < 2 ^ (53 + (x - 1)) := by
        rw [hgz, Int.pow_add]
        exact Int.mul_lt_mul_of_pos_right (by show _ < (9007199254740992 : Int); omega) t
      have hb := exp_bounds hq hv he lo hi
      have hM : max (e - (53 - 1)) (-1074) = (x : Int) - 1075 := by omega
      rw [hM] at hr
      have := hr (by omega)
      rw [near_units (c := 4503599627370496 + (f : Int)) hq hv (by omega) (by rw [hgz, show ((x : Int) - 1075 + 1074).toNat = x - 1 from by omega])] at this
      have e9 : k = ((x : Int) - 1075 - -1074) * 4503599627370496 + (4503599627370496 + (f : Int)) := this
      clear hv hr lo hi hgz hg this
      omega
/-- The word of the rounding. -/
theorem back_bits {b : Nat} (hb : b < 18446744073709551616) (hs : b % 9223372036854775808 < 9218868437227405312) {P Q : Int} (h : Low (exN b) (exD b) P Q) {k : Nat} (hk : R64 P Q k) : sgn64 P Q k = b ∨ (b = 9223372036854775808 ∧ sgn64 P Q k = 0) := by
  obtain ⟨e1, e2⟩ := exN_sign b hb
  rw [e1, e2] at h
  have hq := h.1
  have hpN : pN P Q = P := pN_pos hq
  unfold sgn64
  rw [hpN]
  by_cases hg : 9223372036854775808 ≤ b
  · rw [if_pos hg] at h
    have h' := low_neg' h
    rw [Int.neg_neg] at h'
    obtain ⟨hp, hv⟩ := low_val hs h'
    have hks := round_back hs h' (n := P) (k := (k : Int)) (by omega) hk
    by_cases h0 : b % 9223372036854775808 = 0
    · right
      rw [if_neg (by omega)]
      omega
    · left
      have hP : P ≠ 0 := by
        intro hP
        subst hP
        have : (rgV (b % 9223372036854775808) : Int) * Q = 0 := by rw [← hv]; exact Int.zero_mul _
        rcases Int.mul_eq_zero.1 this with h | h
        · exact rgV_pos h0 (by omega)
        · omega
      rw [if_pos ⟨by omega, by omega⟩]
      omega
  · rw [if_neg hg] at h
    obtain ⟨hp, hv⟩ := low_val hs h
    have hks := round_back hs h (n := P) (k := (k : Int)) (by omega) hk
    left
    rw [if_neg (by omega)]
    omega
theorem back_order {b : Nat} (hb : b < 18446744073709551616) (hs : b % 9223372036854775808 < 9218868437227405312) {P Q : Int} (h : Low (exN b) (exD b) P Q) {k : Nat} (hk : R64 P Q k) : FloatKind.f64.format.order (sgn64 P Q k) b = some .eq := by
  rcases back_bits hb hs h hk with h1 | ⟨rfl, h2⟩
  · rw [h1, order_self b hb, if_neg (by omega)]
  · rw [h2]; decide +kernel
theorem rgV_lt {a b : Nat} (h : a < b) : rgV a < rgV b := by
  unfold rgV
  by_cases ha : a < 4503599627370496
  · rw [if_pos ha]
    by_cases hb : b < 4503599627370496
    · rw [if_pos hb]; exact h
    · rw [if_neg hb]
      have h1 : 1 ≤ 2 ^ (b / 4503599627370496 - 1) := Nat.one_le_two_pow
      have h2 : (4503599627370496 + b % 4503599627370496) * 1 ≤ (4503599627370496 + b % 4503599627370496) * 2 ^ (b / 4503599627370496 - 1) := Nat.mul_le_mul_left _ h1
      omega
  · have hb : ¬ b < 4503599627370496 := by omega
    rw [if_neg ha, if_neg hb]
    have hq : a / 4503599627370496 ≤ b / 4503599627370496 := Nat.div_le_div_right (by omega)
    have tp := Nat.two_pow_pos (a / 4503599627370496 - 1)
    rcases Nat.lt_or_ge (a / 4503599627370496) (b / 4503599627370496) with hlt | hge
    · have hr := Nat.mod_lt a (show 0 < 4503599627370496 by decide)
      have h1 : (4503599627370496 + a % 4503599627370496) * 2 ^ (a / 4503599627370496 - 1) < (4503599627370496 * 2) * 2 ^ (a / 4503599627370496 - 1) := Nat.mul_lt_mul_of_pos_right (by omega) tp
      have h2 : 4503599627370496 * 2 * 2 ^ (a / 4503599627370496 - 1) = 4503599627370496 * 2 ^ (a / 4503599627370496) := by
        rw [Nat.mul_assoc, ← Nat.pow_succ']
        congr 2
        have : 1 ≤ a / 4503599627370496 := by omega
        omega
      have h3 : 4503599627370496 * 2 ^ (a / 4503599627370496) ≤ (4503599627370496 + b % 4503599627370496) * 2 ^ (b / 4503599627370496 - 1) := Nat.mul_le_mul (by omega) (Nat.pow_le_pow_right (by decide) (by omega))
      omega
    · have he : a / 4503599627370496 = b / 4503599627370496 := by omega
      rw [← he]
      exact Nat.mul_lt_mul_of_pos_right (by omega) tp
/-- Two floats of one fraction are one. -/
theorem low_inj {a b : Nat} (ha : a < 9218868437227405312) (hb : b < 9218868437227405312) {P Q : Int} (h : Low (exN a) (exD a) P Q) (k : Low (exN b) (exD b) P Q) : a = b := by
  obtain ⟨_, h1⟩ := low_val ha h
  obtain ⟨_, h2⟩ := low_val hb k
  have hq := h.1
  have e : (rgV a : Int) * Q = rgV b * Q := by omega
  have e2 := Int.eq_of_mul_eq_mul_right (by omega) e
  rcases Nat.lt_trichotomy a b with hlt | heq | hlt
  · have := rgV_lt hlt; omega
  · exact heq
  · have := rgV_lt hlt; omega
end Go.Proofs.YtmpefgemlpnbiaaGreat
namespace Go.Proofs.YtmpefgemlpnbiaaGreat
set_option linter.unusedVariables false
open Go.RowKit
attribute [local go_sem ↓] Go.wp_at_zero Go.wp_at_succ
theorem gcd_le {p q r e : Nat} (hg : Nat.gcd p q = 1) (h : p * 2 ^ e = r * q) : q ≤ 2 ^ e ∧ p ≤ r := by
  have d : q ∣ 2 ^ e := Nat.Coprime.dvd_of_dvd_mul_left (m := p) (by unfold Nat.Coprime; rw [Nat.gcd_comm]; exact hg) (by rw [h]; exact Nat.dvd_mul_left _ _)
  have hq := Nat.le_of_dvd (Nat.two_pow_pos _) d
  refine ⟨hq, ?_⟩
  have h2 : p * 2 ^ e ≤ r * 2 ^ e := by rw [h]; exact Nat.mul_le_mul_left _ hq
  exact Nat.le_of_mul_le_mul_right h2 (Nat.two_pow_pos _)
theorem rgV_le {s : Nat} (hs : s < 9218868437227405312) {E : Nat} (hE : 2100 ≤ E) : rgV s ≤ 2 ^ E := by
  unfold rgV
  by_cases h : s < 4503599627370496
  · rw [if_pos h]
    exact Nat.le_trans (Nat.le_of_lt h) (Nat.pow_le_pow_right (n := 2) (by decide) (show 52 ≤ E by omega))
  · rw [if_neg h]
    have h1 : (4503599627370496 + s % 4503599627370496) * 2 ^ (s / 4503599627370496 - 1) ≤ 2 ^ 53 * 2 ^ (s / 4503599627370496 - 1) := Nat.mul_le_mul_right _ (by show _ ≤ 9007199254740992; omega)
    rw [← Nat.pow_add] at h1
    exact Nat.le_trans h1 (Nat.pow_le_pow_right (by decide) (by omega))
theorem low_small {s : Nat} (hs : s < 9218868437227405312) {P Q : Int} (h : Low (exN s) (exD s) P Q) : (P.natAbs : Int) < 65536 ^ 140 ∧ (Q.natAbs : Int) < 65536 ^ 140 := by
  obtain ⟨hp, hv⟩ := low_val hs h
  have h5 : ∀ E : Nat, E = 2100 → ((2 ^ E : Nat) : Int) < 65536 ^ 140 := by rintro E rfl; decide +kernel
  obtain ⟨E, hE⟩ : ∃ E : Nat, E = 2100 := ⟨_, rfl⟩
  replace h5 := h5 E hE
  generalize h1 : (1074 : Nat) = F at hv
  have e := congrArg Int.natAbs hv
  rw [Int.natAbs_mul, Int.natAbs_mul, Int.natAbs_pow, Int.natAbs_natCast] at e
  obtain ⟨h1, h2⟩ := gcd_le (r := rgV s) (e := F) h.2.1 e
  have h3 := Nat.le_trans h2 (rgV_le hs (E := E) (by omega))
  have h4 : Q.natAbs ≤ 2 ^ E := Nat.le_trans h1 (Nat.pow_le_pow_right (by decide) (by omega))
  generalize (2 ^ E : Nat) = A at *
  generalize (65536 ^ 140 : Int) = B at *
  constructor <;> omega
theorem low_smallb {b : Nat} (hb : b < 18446744073709551616) (hs : b % 9223372036854775808 < 9218868437227405312) {P Q : Int} (h : Low (exN b) (exD b) P Q) : (P.natAbs : Int) < 65536 ^ 140 ∧ (Q.natAbs : Int) < 65536 ^ 140 := by
  obtain ⟨e1, e2⟩ := exN_sign b hb
  rw [e1, e2] at h
  by_cases hg : 9223372036854775808 ≤ b
  · rw [if_pos hg] at h
    have h' := low_neg' h
    rw [Int.neg_neg] at h'
    have := low_small hs h'
    rw [Int.natAbs_neg] at this
    exact this
  · rw [if_neg hg] at h
    exact low_small hs h
theorem OutE.tight {w : World} {v : Value} {z : Int} {n : Nat} (h : OutE w v z n) (k : Nat) (hz : (z.natAbs : Int) < 4294967296 ^ k) : OutE w v z k := by
  obtain ⟨b, neg, a, cap, ds, hv, hr, hn, he, hl⟩ := h
  refine ⟨b, neg, a, cap, ds, hv, hr, hn, he, nrm_len (B := 4294967296) (by decide) hr.words hn.1 ?_⟩
  have h2 := val_nonneg (B := 4294967296) (by decide) hr.words
  have h4 : (z.natAbs : Int) = Go.Proofs.YtmpefgemlpnbiaaGreat.val 4294967296 ds := by subst he; cases neg <;> simp [Go.Proofs.YtmpefgemlpnbiaaGreat.num] <;> omega
  omega
theorem FracE.tight {w : World} {v : Value} {p q : Int} {n : Nat} (h : FracE w v p q n) (k : Nat) (hp : (p.natAbs : Int) < 4294967296 ^ k) (hq : (q.natAbs : Int) < 4294967296 ^ k) : FracE w v p q k := by
  obtain ⟨n1, a1, l1, c1, n2, a2, l2, c2, hv, h1, h2⟩ := h
  exact ⟨n1, a1, l1, c1, n2, a2, l2, c2, hv, h1.tight k hp, h2.tight k hq⟩
theorem pow_70 : (65536 : Int) ^ 140 = 4294967296 ^ 70 := by decide +kernel
/-- A float's text. -/
def TextIs (b : Nat) (T : ByteArray) : Prop :=
  (9218868437227405312 < b % 9223372036854775808 → T = ⟨#[78, 97, 78]⟩) ∧
  (b % 9223372036854775808 = 9218868437227405312 → T = if 9223372036854775808 ≤ b then ⟨#[45, 73, 110, 102]⟩ else ⟨#[43, 73, 110, 102]⟩) ∧
  (b % 9223372036854775808 < 9218868437227405312 → ∃ p q ds es, Low (exN (b % 9223372036854775808)) (exD (b % 9223372036854775808)) p q ∧ Decs p ds ∧ Decs q es ∧ T = if 9223372036854775808 ≤ b then ⟨#[45]⟩ ++ fracT p q ds es else fracT p q ds es)
theorem textIs_of (b : Nat) : ∃ T, TextIs b T := by
  by_cases h : b % 9223372036854775808 < 9218868437227405312
  · obtain ⟨hl, _⟩ := low_of (n := exN (b % 9223372036854775808)) (exD_pos (b % 9223372036854775808))
    obtain ⟨ds, hd⟩ := decs_of ((exN (b % 9223372036854775808)).tdiv (Nat.gcd (exN (b % 9223372036854775808)).natAbs (exD (b % 9223372036854775808)).natAbs : Nat))
    obtain ⟨es, he⟩ := decs_of ((exD (b % 9223372036854775808)).tdiv (Nat.gcd (exN (b % 9223372036854775808)).natAbs (exD (b % 9223372036854775808)).natAbs : Nat))
    exact ⟨_, fun k => by omega, fun k => by omega, fun _ => ⟨_, _, ds, es, hl, hd, he, rfl⟩⟩
  · by_cases h2 : b % 9223372036854775808 = 9218868437227405312
    · exact ⟨_, fun k => by omega, fun _ => rfl, fun k => absurd k h⟩
    · exact ⟨_, fun _ => rfl, fun k => absurd k h2, fun k => absurd k h⟩
theorem fracT_size {p q : Int} {ds es : List Int} (hd : Decs p ds) (he : Decs q es) (h : (p.natAbs : Int) < 65536 ^ 140 ∧ (q.natAbs : Int) < 65536 ^ 140) : (fracT p q ds es).size ≤ 1500 ∧ ds.length ≤ 701 ∧ es.length ≤ 701 := by
  rw [pow_70] at h
  have h1 := hd.len h.1
  have h2 := he.len h.2
  have h3 := txt_size (decide (p < 0)) ds
  have h4 := txt_size (decide (q < 0)) es
  refine ⟨?_, h1, h2⟩
  unfold fracT
  rw [ByteArray.size_append, ByteArray.size_append]
  have : (ByteArray.mk #[47]).size = 1 := rfl
  omega
set_option maxRecDepth 20000 in
set_option maxHeartbeats 4000000 in
theorem Text31_neg (b : Nat) (w : World) (hb : b < 18446744073709551616) (hs : b % 9223372036854775808 < 9218868437227405312) {p q : Int} {ds es : List Int} (hl : Low (exN (b % 9223372036854775808)) (exD (b % 9223372036854775808)) p q) (hd : Decs p ds) (he : Decs q es) (hsz : (fracT p q ds es).size ≤ 1500) (hneg : 9223372036854775808 ≤ b) :
    Calls Tryz.prog 31 #[.float .f64 b] w fun e w' => e = .returned (.string (⟨#[45]⟩ ++ fracT p q ds es)) ∧ Below w.heap.size w w' := by
  have hc := bits64
  have hf := from64
  have h3 := bclr_top b hb
  have kn : Hid _ := isNeg_any b
  rw [decide_eq_true hneg] at kn
  have hsm : b % 9223372036854775808 % 9223372036854775808 = b % 9223372036854775808 := Nat.mod_mod _ _
  generalize b % 9223372036854775808 = s at *
  have d1 : decide ((s : Int) > 9218868437227405312) = false := by simp; omega
  have d2 : ((s : Int) == 9218868437227405312) = false := by simp; omega
  have kE : Hid _ := Exact_num s
  have hok : exOk s = true := by unfold exOk; rw [hsm]; simpa using hs
  rw [hok] at kE
  have hDp := exD_pos s
  have kT : Hid (∀ w v, ExactAns w v s → Calls Tryz.prog 48 #[v] w fun e w' => e = .returned (.string (fracT p q ds es)) ∧ Below w.heap.size w w') := fun w v h => text_lowE (h.1 (by rw [hsm]; exact hs)) hDp (by decide) hl hd he
  have kF : Hid (∀ w v, ExactAns w v s → ∃ n1 a1 l1 c1 n2 a2 l2 c2, v = .agg #[.bool n1, .slice a1 l1 c1, .bool n2, .slice a2 l2 c2]) := fun w v h => (h.1 (by rw [hsm]; exact hs)).form
  have kX : Hid (∀ w w' v, Below w.heap.size w w' → ExactAns w v s → ExactAns w' v s) := fun w w' v h k => ⟨fun x => (k.1 x).next h, fun x => (k.2 x).next h⟩
  generalize fracT p q ds es = T at *
  clear hok hl hd he hsm hDp hneg
  go_enter Tryz.func31, Tryz.ntmps31
  go_wp2_with fail
  refine Calls.mono (kE.out _ (by omega)) ?_
  rintro e w1 ⟨t, rfl, hA, b1⟩
  obtain ⟨n1, a1, l1, c1, n2, a2, l2, c2, rfl⟩ := kF.out _ _ hA
  obtain ⟨W1, hW1, b2, _, r0, r1, r2, r3⟩ := box_text w1 n1 a1 l1 c1 n2 a2 l2 c2
  have hA1 := kX.out _ _ _ b2 hA
  have k5 := kT.out _ _ hA1
  replace k5 : Hid _ := k5
  have hB := bthen b1 b2
  replace hA : Hid _ := hA
  clear hA hA1 kE kF kX kT b1 b2
  go_upto_region 9 with fail
  rw [← hW1]
  clear hW1
  go_wp2_with fail
  refine Calls.mono (kn.out _ hb) ?_
  rintro e w2 ⟨rfl, rfl⟩
  go_wp2_with fail
  refine Calls.mono k5.out ?_
  rintro e w3 ⟨rfl, b3⟩
  go_wp2
  go_ret
  exact ⟨rfl, bthen hB b3⟩
set_option maxRecDepth 20000 in
set_option maxHeartbeats 4000000 in
theorem Text31_any (b : Nat) (w : World) (hb : b < 18446744073709551616) {T : ByteArray} (hT : TextIs b T) :
    Calls Tryz.prog 31 #[.float .f64 b] w fun e w' => e = .returned (.string T) ∧ Below w.heap.size w w' := by
  obtain ⟨t1, t2, t3⟩ := hT
  by_cases hs : b % 9223372036854775808 < 9218868437227405312
  · obtain ⟨p, q, ds, es, hl, hd, he, rfl⟩ := t3 hs
    have hz := (fracT_size hd he (low_small hs hl)).1
    by_cases hg : 9223372036854775808 ≤ b
    · rw [if_pos hg]
      exact Text31_neg b w hb hs hl hd he hz hg
    · rw [if_neg hg]
      exact Text31_num b w hb hs hl hd he (by omega) (by omega)
  · have hc := bits64
    have h3 := bclr_top b hb
    have kn : Hid _ := isNeg_any b
    by_cases h2 : b % 9223372036854775808 = 9218868437227405312
    · have e := t2 h2
      rw [h2] at h3
      clear t1 t2 t3 hs h2
      by_cases hg : 9223372036854775808 ≤ b
      · rw [if_pos hg] at e
        rw [decide_eq_true hg] at kn
        subst e
        clear hg
        go_enter Tryz.func31, Tryz.ntmps31
        go_wp2_with fail
        refine Calls.mono (kn.out _ hb) ?_
        rintro e w1 ⟨rfl, rfl⟩
        go_wp2
        go_ret
        exact ⟨rfl, Below.refl _ _⟩
      · rw [if_neg hg] at e
        rw [decide_eq_false hg] at kn
        subst e
        clear hg
        go_enter Tryz.func31, Tryz.ntmps31
        go_wp2_with fail
        refine Calls.mono (kn.out _ hb) ?_
        rintro e w1 ⟨rfl, rfl⟩
        go_wp2
        go_ret
        exact ⟨rfl, Below.refl _ _⟩
    · have e := t1 (by omega)
      subst e
      have hs' : 9218868437227405312 < b % 9223372036854775808 := by omega
      generalize b % 9223372036854775808 = s at *
      clear t1 t2 t3 kn hs h2
      go_enter Tryz.func31, Tryz.ntmps31
      go_wp2
      go_ret
      exact ⟨rfl, Below.refl _ _⟩
theorem cmp_gt (a b : Int) (h : compare a b = .gt) : compare b a = .lt := by
  rw [cmp_lt]
  simp only [compare, compareOfLessAndEq] at h
  split at h
  · cases h
  · split at h
    · cases h
    · omega
theorem datum_gt (d e : Ieee.Datum) (h : d.order e = some .gt) : e.order d = some .lt := by
  cases d with
  | nan a b => simp [Ieee.Datum.order] at h
  | infinity a =>
    cases e with
    | nan c d => simp [Ieee.Datum.order] at h
    | infinity c => cases a <;> cases c <;> revert h <;> decide
    | number t n j => cases a <;> simp [Ieee.Datum.order] at h ⊢
  | number s m i =>
    cases e with
    | nan c d => simp [Ieee.Datum.order] at h
    | infinity c => cases c <;> simp [Ieee.Datum.order] at h ⊢
    | number t n j =>
      simp only [Ieee.Datum.order, Option.some.injEq] at h ⊢
      rw [Int.min_comm j i]
      exact cmp_gt _ _ h
theorem order_gt {x y : Nat} (hx : x < 18446744073709551616) (hy : y < 18446744073709551616) (h : FloatKind.f64.format.order x y = some .gt) : rankB y < rankB x := order_lt hy hx (datum_gt _ _ h)
theorem not_over {b : Nat} (hb : b < 18446744073709551616) (hs : b % 9223372036854775808 < 9218868437227405312) : (FloatKind.f64.format.order b 9218868437227405311 == some .gt) = false ∧ (FloatKind.f64.format.order b 18442240474082181119 == some .lt) = false := by
  have hr : rankB b = if 9223372036854775808 ≤ b then 18446744073709551615 - b else b % 9223372036854775808 + 9223372036854775808 := by unfold rankB; rw [if_neg (by omega)]
  constructor
  · apply beq_false_of_ne
    intro h
    have := order_gt hb (by decide) h
    rw [hr, show rankB 9218868437227405311 = 18442240474082181119 from by decide +kernel] at this
    split at this <;> omega
  · apply beq_false_of_ne
    intro h
    have := order_lt hb (by decide) h
    rw [hr, show rankB 18442240474082181119 = 4503599627370496 from by decide +kernel] at this
    split at this <;> omega
end Go.Proofs.YtmpefgemlpnbiaaGreat
namespace Go.Proofs.YtmpefgemlpnbiaaGreat
set_option linter.unusedVariables false
open Go.RowKit
attribute [local go_sem ↓] Go.wp_at_zero Go.wp_at_succ
theorem refAns_next {w w' : World} {t : Value} {b : Nat} (h : RefAns w t b) (hb : Below w.heap.size w w') : RefAns w' t b := ⟨fun x => (h.1 x).next hb, fun x => (h.2 x).next hb⟩
theorem textR_low {w : World} {v : Value} {s : Nat} (hs : s < 9218868437227405312) (h : RefAns w v s) {p q : Int} (hl : Low (exN s) (exD s) p q) {ds es : List Int} (hd : Decs p ds) (he : Decs q es) :
    Calls Tryz.prog 70 #[v] w fun e w' => e = .returned (.string (fracT p q ds es)) ∧ Below w.heap.size w w' := by
  obtain ⟨P, Q, hR, hL⟩ := h.1 (by rw [Nat.mod_eq_of_lt (by omega)]; exact hs)
  obtain ⟨rfl, rfl⟩ := low_same (exD_pos s) hL hl
  have hb := low_small hs hl
  obtain ⟨_, l1, l2⟩ := fracT_size hd he hb
  exact TextRat_num (hR.tight 140 hb.1 hb.2) hd he (by decide) (by omega) (by omega)
theorem flip_top {s : Nat} (h : s < 9223372036854775808) : (s + 9223372036854775808) ^^^ 2 ^ 63 = s := by
  have e := Nat.two_pow_add_eq_or_of_lt (i := 63) (b := s) (by simpa using h) 1
  rw [Nat.mul_one] at e
  rw [Nat.add_comm, show (9223372036854775808 : Nat) = 2 ^ 63 from by decide, e]
  apply Nat.eq_of_testBit_eq
  intro i
  rw [Nat.testBit_xor, Nat.testBit_or, Nat.testBit_two_pow]
  by_cases hi : 63 = i
  · subst hi
    rw [Nat.testBit_lt_two_pow (by simpa using h)]
    rfl
  · rw [decide_eq_false hi]
    simp
theorem neg_f64 {b s : Nat} (h : s < 9223372036854775808) (e : b = s + 9223372036854775808) (w : World) : Sem.run Tryz.prog (Op.unary .neg (.float .f64 b)) w = .ok (.float .f64 s) w := by
  have : Op.negFloat .f64 b = s := by subst e; exact flip_top h
  show Sem.run Tryz.prog (pure (Value.float .f64 (Op.negFloat .f64 b))) w = _
  rw [this]
  rfl
theorem empty_app (T : ByteArray) : ({ data := #[] } : ByteArray) ++ T = T := by
  apply ByteArray.ext
  simp
set_option maxRecDepth 20000 in
set_option maxHeartbeats 4000000 in
theorem Text32_any (b : Nat) (w : World) (hb : b < 18446744073709551616) {T : ByteArray} (hT : TextIs b T) :
    Calls Tryz.prog 32 #[.float .f64 b] w fun e w' => e = .returned (.string T) ∧ Below w.heap.size w w' := by
  obtain ⟨t1, t2, t3⟩ := hT
  have ho := order_self b hb
  by_cases hn : 9218868437227405312 < b % 9223372036854775808
  · rw [if_pos hn] at ho
    have d0 : (FloatKind.f64.format.order b b != some .eq) = true := by rw [ho]; rfl
    have e := t1 hn
    subst e
    clear ho t1 t2 t3 hn
    go_enter Tryz.func32, Tryz.ntmps32
    go_wp2
    go_ret
    exact ⟨rfl, Below.refl _ _⟩
  rw [if_neg hn] at ho
  have d0 : (FloatKind.f64.format.order b b != some .eq) = false := by rw [ho]; rfl
  clear ho t1
  by_cases hi : b % 9223372036854775808 = 9218868437227405312
  · have e := t2 hi
    clear t2 t3
    by_cases hg : 9223372036854775808 ≤ b
    · rw [if_pos hg] at e
      subst e
      obtain rfl : b = 18442240474082181120 := by omega
      have d1 : (FloatKind.f64.format.order 18442240474082181120 9218868437227405311 == some .gt) = false := by decide +kernel
      have d2 : (FloatKind.f64.format.order 18442240474082181120 18442240474082181119 == some .lt) = true := by decide +kernel
      clear hi hn hg
      go_enter Tryz.func32, Tryz.ntmps32
      go_wp2
      go_ret
      exact ⟨rfl, Below.refl _ _⟩
    · rw [if_neg hg] at e
      subst e
      obtain rfl : b = 9218868437227405312 := by omega
      have d1 : (FloatKind.f64.format.order 9218868437227405312 9218868437227405311 == some .gt) = true := by decide +kernel
      clear hi hn hg
      go_enter Tryz.func32, Tryz.ntmps32
      go_wp2
      go_ret
      exact ⟨rfl, Below.refl _ _⟩
  have hs : b % 9223372036854775808 < 9218868437227405312 := by omega
  obtain ⟨p, q, ds, es, hl, hd, he, hTe⟩ := t3 hs
  have hz := (fracT_size hd he (low_small hs hl)).1
  obtain ⟨d1, d2⟩ := not_over hb hs
  clear t2 t3 hn hi
  have hc := bits64
  have h63 : (b : Int) / 9223372036854775808 = if 9223372036854775808 ≤ b then 1 else 0 := by split <;> omega
  have kT : Hid (∀ w v, RefAns w v (b % 9223372036854775808) → Calls Tryz.prog 70 #[v] w fun e w' => e = .returned (.string (fracT p q ds es)) ∧ Below w.heap.size w w') := fun w v h => textR_low hs h hl hd he
  have hsm : b % 9223372036854775808 % 9223372036854775808 = b % 9223372036854775808 := Nat.mod_mod _ _
  have kF : Hid (∀ w v, RefAns w v (b % 9223372036854775808) → ∃ n1 a1 l1 c1 n2 a2 l2 c2, v = .agg #[.bool n1, .slice a1 l1 c1, .bool n2, .slice a2 l2 c2]) := fun w v h => (h.1 (by rw [hsm]; exact hs)).form
  have kE : Hid _ := Exact24_num (b % 9223372036854775808)
  have hsl : b % 9223372036854775808 < 18446744073709551616 := by omega
  generalize fracT p q ds es = X at *
  by_cases hg : 9223372036854775808 ≤ b
  · rw [if_pos hg] at h63 hTe
    have hst : Hid (b = b % 9223372036854775808 + 9223372036854775808) := by show _ = _; omega
    generalize b % 9223372036854775808 = s at *
    subst hTe
    have hneg := neg_f64 (b := b) (s := s) (by omega) hst.out
    clear hl hd he hsm hg
    go_enter Tryz.func32, Tryz.ntmps32
    go_wp2_with fail
    refine Calls.mono (kE.out _ hsl) ?_
    rintro e w1 ⟨t, rfl, hA, b1⟩
    obtain ⟨n1, a1, l1, c1, n2, a2, l2, c2, rfl⟩ := kF.out _ _ hA
    obtain ⟨W1, hW1, b2, _, r0, r1, r2, r3⟩ := keep_box w1 n1 a1 l1 c1 n2 a2 l2 c2
    have k5 : Hid _ := kT.out _ _ (refAns_next hA b2)
    have hB := bthen b1 b2
    clear hA kE kF kT b1 b2
    go_upto_region 12 with fail
    rw [← hW1]
    clear hW1
    go_wp2_with fail
    refine Calls.mono k5.out ?_
    rintro e w3 ⟨rfl, b3⟩
    go_wp2
    go_ret
    exact ⟨rfl, bthen hB b3⟩
  · rw [if_neg hg] at h63 hTe
    obtain hst : b % 9223372036854775808 = b := by omega
    rw [hst] at kT kF kE
    replace hsl := hb
    subst hTe
    clear hl hd he hsm hg hst hs
    go_enter Tryz.func32, Tryz.ntmps32
    go_wp2_with fail
    refine Calls.mono (kE.out _ hsl) ?_
    rintro e w1 ⟨t, rfl, hA, b1⟩
    obtain ⟨n1, a1, l1, c1, n2, a2, l2, c2, rfl⟩ := kF.out _ _ hA
    obtain ⟨W1, hW1, b2, _, r0, r1, r2, r3⟩ := keep_box w1 n1 a1 l1 c1 n2 a2 l2 c2
    have k5 : Hid _ := kT.out _ _ (refAns_next hA b2)
    have hB := bthen b1 b2
    clear hA kE kF kT b1 b2
    go_upto_region 12 with fail
    rw [← hW1]
    clear hW1
    go_wp2_with fail
    refine Calls.mono k5.out ?_
    rintro e w3 ⟨rfl, b3⟩
    go_wp2
    go_ret
    exact ⟨by rw [empty_app]; rfl, bthen hB b3⟩
end Go.Proofs.YtmpefgemlpnbiaaGreat
