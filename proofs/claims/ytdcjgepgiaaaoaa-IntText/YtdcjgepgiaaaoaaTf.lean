/- The second road's Int64. -/
import Derived.Test.YtdcjgepgiaaaoaaTd
namespace Go.Proofs.Ytdcjgepgiaaaoaa
open Go.RowKit
attribute [local go_sem ↓] Go.wp_at_zero Go.wp_at_succ
theorem drop_le {ds : List Int} (hw : Words 65536 ds) (k : Nat) : val 65536 (ds.drop k) ≤ val 65536 ds := by
  by_cases hk : k ≤ ds.length
  · rw [val_split 65536 ds k hk]
    have h1 := val_nonneg (B := 65536) (by decide) (hw.take k)
    have h2 := val_nonneg (B := 65536) (by decide) (hw.drop k)
    have h3 := pow_mono (B := 65536) (by decide) (m := 0) (n := k) (by omega)
    rw [Int.pow_zero] at h3
    have h4 := Int.mul_le_mul_of_nonneg_right h3 h2
    omega
  · rw [List.drop_eq_nil_of_le (by omega)]
    simp [val]
    exact val_nonneg (B := 65536) (by decide) hw
set_option maxHeartbeats 4000000 in
set_option maxRecDepth 20000 in
theorem rInt64_num {w : World} {u : Value} {y : Int} {m : Nat} (hu : Rint w u y m) (hm : m ≤ 1000) :
    Calls Try.prog 33 #[u] w fun e w' => e = .returned (.tuple #[.int .i64 (pick64 y), .bool (fits64 y)]) ∧ Below w.heap.size w w' := by
  obtain ⟨na, x, ca, xs, rfl, ha, hna, hy, hl⟩ := hu
  obtain ⟨W, hW, hbW, hlt, c0, c1, _, _⟩ := box1r w (.bool na) (.slice x xs.length ca) 30
  have hU : Rint W (.agg #[.bool na, .slice x xs.length ca]) y m := ⟨na, x, ca, xs, rfl, ha.next hbW, hna, hy, hl⟩
  have k1 := rOf_any (-9223372036854775808) W (by decide) (by decide)
  replace k1 : Hid _ := k1
  replace hy : Hid _ := hy
  replace hna : Hid _ := hna
  go_enter Try.func33, Try.ntmps33
  go_wp2_with fail
  rw [← hW]
  clear hW
  refine Calls.mono k1.out ?_
  rintro e w1 ⟨t1, rfl, hO1, hb1⟩
  obtain ⟨n1, a1, l1, d1, rfl⟩ := hO1.rint.form
  clear k1
  have k2 := rOf_any 9223372036854775807 w1 (by decide) (by decide)
  replace k2 : Hid _ := k2
  go_wp2_with fail
  refine Calls.mono k2.out ?_
  rintro e w2 ⟨t2, rfl, hO2, hb2⟩
  obtain ⟨n2, a2, l2, d2, rfl⟩ := hO2.rint.form
  clear k2
  obtain ⟨W2, hW2, hbW2, hlW2, ⟨x0, x1, x2, x3⟩, _, _⟩ := two_boxes w2 (.bool n1) (.slice a1 l1 d1) (.bool n2) (.slice a2 l2 d2) 30
  have hbx := bthen (bthen hb1 hb2) hbW2
  have hby := bthen hb1 hb2
  have p0 := keep_cell hby c0
  have p1 := keep_cell hby c1
  have q1 : w.heap.size < w2.heap.size := cell_lt p0
  have q2 : w.heap.size < w2.heap.size + 1 := by omega
  have hU2 := hU.next hbx
  have hL2 := (hO1.rint.next hb2).next hbW2
  have hM2 := hO2.rint.next hbW2
  have kc1 := rCmp_num hU2 hL2 (by omega) (by decide)
  replace kc1 : Hid _ := kc1
  have z0 := keep_cell hbx c0
  have z1 := keep_cell hbx c1
  have hB2 := bthen hbW hbx
  go_wp2_with fail
  rw [← hW2]
  clear hW2 p0 p1
  refine Calls.mono kc1.out ?_
  rintro e w3 ⟨rfl, hb3⟩
  clear kc1
  have z0' := keep_cell hb3 z0
  have z1' := keep_cell hb3 z1
  have y2 := keep_cell hb3 x2
  have y3 := keep_cell hb3 x3
  have hB3 := bthen hB2 hb3
  by_cases hlo : y < -9223372036854775808
  · have e : Hid _ := fits64_no (z := y) (by omega)
    rw [cmpI_lt hlo]
    go_wp2
    go_ret2
    exact ⟨by rw [e.out.1, e.out.2]; rfl, hB3⟩
  · have hc1 : ¬ cmpI y (-9223372036854775808) < 0 := by unfold cmpI; split <;> (try split) <;> omega
    have hc1' : cmpI y (-9223372036854775808) ≤ 1 := by unfold cmpI; split <;> (try split) <;> omega
    generalize cmpI y (-9223372036854775808) = cc at *
    have kc2 := rCmp_num (hU2.next hb3) (hM2.next hb3) (by omega) (by decide)
    replace kc2 : Hid _ := kc2
    go_wp2_with fail
    refine Calls.mono kc2.out ?_
    rintro e w4 ⟨rfl, hb4⟩
    clear kc2
    have r0 := keep_cell hb4 z0'
    have r1 := keep_cell hb4 z1'
    have hB4 := bthen hB3 hb4
    have ha4 := ha.next hB4
    clear z0 z1 z0' z1' y2 y3 x0 x1 x2 x3 hU hU2 hL2 hM2 hO1 hO2 hB2 hB3 hb1 hb2 hb3 hb4 hbx hby hbW2 c0 c1
    by_cases hhi : 9223372036854775807 < y
    · have e : Hid _ := fits64_no (z := y) (by omega)
      rw [cmpI_gt hhi]
      go_wp2
      go_ret2
      exact ⟨by rw [e.out.1, e.out.2]; rfl, hB4⟩
    · have hc2 : ¬ cmpI y 9223372036854775807 > 0 := by unfold cmpI; split <;> (try split) <;> omega
      have hc2' : -1 ≤ cmpI y 9223372036854775807 := by unfold cmpI; split <;> (try split) <;> omega
      generalize cmpI y 9223372036854775807 = cd at *
      have e : Hid _ := fits64_yes (z := y) (by omega)
      have hv0 := val_nonneg (B := 65536) (by decide) ha.words
      cases na with
      | false =>
        have hyv : val 65536 xs = y := hy.out
        go_wp2
        go_loop [6, 7] (fun n i => ∃ k : Nat, k ≤ xs.length ∧ i = .int .i64 ((k : Int) - 1) ∧ n = .int .i64 (val 65536 (xs.drop k))) (fun _ i => (intOf i + 1).toNat)
        case atStart => exact ⟨xs.length, Nat.le_refl _, rfl, by rw [List.drop_length]; rfl⟩
        case round =>
          obtain ⟨k, hk, rfl, rfl⟩ := hrel
          have h0 := val_nonneg (B := 65536) (by decide) (ha.words.drop k)
          have h1 := drop_le ha.words k
          by_cases hkp : k = 0
          · subst hkp
            go_wp2
            go_ret2
            exact ⟨by rw [e.out.1, e.out.2]; simp, hB4⟩
          · obtain ⟨k, rfl⟩ : ∃ j, k = j + 1 := ⟨k - 1, by omega⟩
            have hd := val_drop 65536 xs k
            have h2 := drop_le ha.words k
            obtain ⟨p, hp, hp0, hp1⟩ := ha.words.get (by decide) k
            rw [hp] at hd
            obtain ⟨x, rfl⟩ := ha4.some_of (i := k) (by omega)
            have hce := ha4.cell x rfl k (by omega)
            rw [hp] at hce
            have e1 : ((k + 1 : Nat) : Int) - 1 = (k : Int) := by omega
            rw [e1]
            have e2 : (k : Int) < (xs.length : Int) := by omega
            have e3 : (0 : Int) ≤ (k : Int) := by omega
            generalize val 65536 (xs.drop (k + 1)) = v at *
            replace hd : Hid _ := hd
            replace hp : Hid _ := hp
            have hb1 : v * 65536 ≤ 9223372036854775807 := by have := hd.out; omega
            have hb2 : v * 65536 + p ≤ 9223372036854775807 := by have := hd.out; omega
            go_wp2
            go_round
            case rel => exact ⟨k, by omega, by go_num, congrArg (Value.int .i64) (by have := hd.out; omega)⟩
            case measure => simp [intOf]
      | true =>
        have hyv : val 65536 xs = -y := by have := hy.out; simp [num] at this; omega
        go_wp2
        go_loop [6, 7] (fun n i => ∃ k : Nat, k ≤ xs.length ∧ i = .int .i64 ((k : Int) - 1) ∧ n = .int .i64 (-val 65536 (xs.drop k))) (fun _ i => (intOf i + 1).toNat)
        case atStart => exact ⟨xs.length, Nat.le_refl _, rfl, by rw [List.drop_length]; rfl⟩
        case round =>
          obtain ⟨k, hk, rfl, rfl⟩ := hrel
          have h0 := val_nonneg (B := 65536) (by decide) (ha.words.drop k)
          have h1 := drop_le ha.words k
          by_cases hkp : k = 0
          · subst hkp
            go_wp2
            go_ret2
            exact ⟨by rw [e.out.1, e.out.2]; simp, hB4⟩
          · obtain ⟨k, rfl⟩ : ∃ j, k = j + 1 := ⟨k - 1, by omega⟩
            have hd := val_drop 65536 xs k
            have h2 := drop_le ha.words k
            obtain ⟨p, hp, hp0, hp1⟩ := ha.words.get (by decide) k
            rw [hp] at hd
            obtain ⟨x, rfl⟩ := ha4.some_of (i := k) (by omega)
            have hce := ha4.cell x rfl k (by omega)
            rw [hp] at hce
            have e1 : ((k + 1 : Nat) : Int) - 1 = (k : Int) := by omega
            rw [e1]
            have e2 : (k : Int) < (xs.length : Int) := by omega
            have e3 : (0 : Int) ≤ (k : Int) := by omega
            generalize val 65536 (xs.drop (k + 1)) = v at *
            replace hd : Hid _ := hd
            replace hp : Hid _ := hp
            have hb1 : -9223372036854775808 ≤ -v * 65536 := by have := hd.out; omega
            have hb2 : -9223372036854775808 ≤ -v * 65536 - p := by have := hd.out; omega
            have hb3 : -v * 65536 ≤ 0 := by omega
            go_wp2
            go_round
            case rel => exact ⟨k, by omega, by go_num, congrArg (Value.int .i64) (by have := hd.out; omega)⟩
            case measure => simp [intOf]
end Go.Proofs.Ytdcjgepgiaaaoaa
