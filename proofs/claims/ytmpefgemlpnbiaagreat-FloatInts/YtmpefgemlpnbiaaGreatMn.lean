/- float's FromInt, and the law FloatInts. -/
import Derived.Test.YtmpefgemlpnbiaaGreatMcm
import Derived.Test.YtmpefgemlpnbiaaGreatLfm
namespace Go.Proofs.YtmpefgemlpnbiaaGreat
set_option linter.unusedVariables false
open Go.RowKit
attribute [local go_sem ↓] Go.wp_at_zero Go.wp_at_succ
theorem sgn_int (n : Int) (k : Nat) (hk : k ≠ 0) : FloatKind.f64.format.word (decide (n < 0)) k = sgn64 n 1 k := by
  unfold Ieee.Format.word sgn64 pN
  rw [if_neg (show ¬ (1 : Int) < 0 by decide)]
  have hw : FloatKind.f64.format.signWeight = 9223372036854775808 := by decide
  by_cases h : n < 0
  · rw [decide_eq_true h, if_pos rfl, if_pos ⟨hk, h⟩, hw, Nat.add_comm]
  · rw [decide_eq_false h, if_neg (by decide), if_neg (by omega)]
theorem int_float (n : Int) (h0 : -9223372036854775808 ≤ n) (h1 : n ≤ 9223372036854775807) : ∃ k : Nat, floatOfInt .f64 n = sgn64 n 1 k ∧ R64 n 1 k ∧ k < 9218868437227405312 := by
  by_cases hz : n = 0
  · subst hz
    exact ⟨0, by decide +kernel, ⟨fun _ => rfl, fun h => absurd rfl h⟩, by decide⟩
  · obtain ⟨k, e, hk, hlt, hR⟩ := int_round (n := n.natAbs) (by omega) (by omega) (decide (n < 0))
    refine ⟨k, ?_, ?_, hlt⟩
    · rw [← sgn_int n k hk, ← e]
      rfl
    · unfold R64
      exact hR
theorem FromInt_any (n : Int) (w : World) (h0 : -9223372036854775808 ≤ n) (h1 : n ≤ 9223372036854775807) : Calls Tryz.prog 39 #[.int .i64 n] w fun e w' => e = .returned (.float .f64 (floatOfInt .f64 n)) ∧ w' = w := by
  go_enter Tryz.func39, Tryz.ntmps39
  go_wp2
  go_ret
  exact ⟨rfl, rfl⟩
theorem sgn64_lt {p q : Int} {k : Nat} (hk : k < 9218868437227405312) : sgn64 p q k % 9223372036854775808 < 9218868437227405312 ∧ sgn64 p q k < 18446744073709551616 := by
  unfold sgn64
  split <;> omega
set_option maxRecDepth 20000 in
set_option maxHeartbeats 4000000 in
theorem floatInts_any (a : Nat) (lo hi n : Int) (w : World) (ha : a < 18446744073709551616) (h0 : -9223372036854775808 ≤ n) (h1 : n ≤ 9223372036854775807) :
    Calls Tryz.prog 7 #[.int .u64 a, .int .i64 lo, .int .i64 hi, .int .i64 n] w fun e w' => e = .returned (.bool true) ∧ Below w.heap.size w w' := by
  have hf := from64
  have kB : Hid _ := begun_said w
  obtain ⟨k, ek, hR, hlt⟩ := int_float n h0 h1
  have kt1 : Hid _ := fun w => ToInt_any a lo hi w ha
  have kt2 : Hid _ := fun w => ToInt38_any a lo hi w ha
  have kF : Hid _ := fun w => FromInt_any n w h0 h1
  have kO : Hid _ := fun w => rOf_any n w h0 h1
  rw [ek] at kF
  obtain ⟨s1, s2⟩ := sgn64_lt (p := n) (q := 1) hlt
  have ho := order_self _ s2
  rw [if_neg (by omega)] at ho
  have d0 : (FloatKind.f64.format.order (sgn64 n 1 k) (sgn64 n 1 k) == some .eq) = true := by rw [ho]; rfl
  have hu : Hid (∀ k' : Nat, R64 n 1 k' → sgn64 n 1 k' = sgn64 n 1 k) := fun k' h => by rw [R64.uniq h hR]
  generalize toIntOk a lo hi = T at *
  generalize (if T = true then cutI a else 0) = X at *
  generalize hS : sgn64 n 1 k = S at *
  clear ho s1 s2 hR hlt ek hS
  go_enter Tryz.func7, Tryz.ntmps7
  go_wp2_with fail
  refine Calls.mono kB.out ?_
  rintro e w1 ⟨rfl, b1⟩
  clear kB
  go_wp2_with fail
  refine Calls.mono (kt1.out _) ?_
  rintro e w2 ⟨rfl, b2⟩
  clear kt1
  replace b1 := bthen b1 b2
  clear b2
  go_wp2_with fail
  refine Calls.mono (kt2.out _) ?_
  rintro e w3 ⟨rfl, b2⟩
  clear kt2
  replace b1 := bthen b1 b2
  clear b2
  go_wp2_with fail
  refine Calls.mono (kF.out _) ?_
  rintro e w4 ⟨rfl, rfl⟩
  go_wp2_with fail
  refine Calls.mono (kO.out _) ?_
  rintro e w5 ⟨t5, rfl, hO, b5⟩
  go_wp2_with fail
  refine Calls.mono (rWhole_num hO.rint) ?_
  rintro e w6 ⟨t6, rfl, hQ, b6⟩
  go_wp2_with fail
  refine Calls.mono (Round64R_num (hQ.more (by decide)) (by decide)) ?_
  rintro e w7 ⟨k', rfl, hk, b7⟩
  rw [hu.out k' hk]
  have hB := bthen b1 (bthen b5 (bthen b6 b7))
  clear hQ hO hk b5 b6 b7 b1 kF kO hu
  go_wp2
  go_ret
  exact ⟨rfl, hB⟩
end Go.Proofs.YtmpefgemlpnbiaaGreat
