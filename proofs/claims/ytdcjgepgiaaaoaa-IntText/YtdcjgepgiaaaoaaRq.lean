/- The second road's division: small, times, less. -/
import Derived.Test.YtdcjgepgiaaaoaaRc
import Derived.Test.YtdcjgepgiaaaoaaKq
namespace Go.Proofs.Ytdcjgepgiaaaoaa
open Go.RowKit
attribute [local go_sem ↓] Go.wp_at_zero Go.wp_at_succ
set_option maxHeartbeats 1000000 in
theorem small_any (x : Option Addr) (ca : Nat) (xs : List Int) (d : Int) (w : World) (ha : Row w .i64 65536 x ca xs) (hl : xs.length ≤ 1000000) (hd0 : 0 < d) (hd1 : d ≤ 65536) :
    Calls Try.prog 66 #[.slice x xs.length ca, .int .i64 d] w fun e w' => ∃ a' cap' qs r, e = .returned (.tuple #[.slice a' qs.length cap', .int .i64 r]) ∧ Rown w' w.heap.size a' cap' qs ∧ nrm qs ∧ val 65536 xs = d * val 65536 qs + r ∧ 0 ≤ r ∧ r < d ∧ qs.length ≤ xs.length ∧ Below w.heap.size w w' := by
  have hmk := mk28 (xs.length : Int) (by omega) (by omega) w
  rw [show (xs.length : Int).toNat = xs.length from by omega] at hmk
  have hdz : d ≠ 0 := by omega
  go_enter Try.func66, Try.ntmps66
  go_wp2
  go_loopw [7, 8] (fun r i wr => ∃ (k : Nat) (rr : Int) (ss : List Int), k ≤ xs.length ∧ i = .int .i64 (k - 1) ∧ r = .int .i64 rr ∧ 0 ≤ rr ∧ rr < d ∧ Blk wr w.heap.size .i64 3 xs.length ss ∧ Hid (ss.length = xs.length) ∧ Words 65536 ss ∧ Hid (val 65536 (xs.drop k) = d * val 65536 (ss.drop k) + rr) ∧ Below w.heap.size w wr) (fun _ i _ => (intOf i + 1).toNat)
  case atStart => exact ⟨xs.length, 0, zeros xs.length, Nat.le_refl _, rfl, rfl, by omega, by omega, by have := Blk.new w .i64 3 (zeros xs.length) (by rw [zeros_len]; unfold maxLen; omega); rwa [zeros_len] at this, zeros_len _, zeros_words (by decide) _, by show _ = _; rw [List.drop_eq_nil_of_le (by omega), List.drop_eq_nil_of_le (by rw [zeros_len]; omega)]; simp [val], (Below.refl _ _).alloc (Nat.le_refl _) _⟩
  case round =>
    obtain ⟨k, rr, ss, hk, rfl, rfl, hr0, hr1, hblk, hsl, hsw, HV, hbel⟩ := hrel
    cases k with
    | zero =>
      have HV' := HV.out
      simp only [List.drop_zero] at HV'
      replace HV' : Hid _ := HV'
      have hrw := hblk.row hsw
      have htr := rtrim_any _ _ ss wr hrw
      rw [hsl.out] at htr
      replace htr : Hid _ := htr
      go_wp2_with fail
      refine Calls.mono htr.out ?_
      rintro e w' ⟨rfl, rfl⟩
      go_wp2
      go_ret2
      exact ⟨_, _, trimmed ss, rr, rfl, ⟨hrw.cutTrim, fun x hx => by cases hx; exact Nat.le_refl _⟩, trimmed_nrm ss, by rw [trimmed_val]; exact HV'.out, hr0, hr1, by have := trimmed_le ss; have := hsl.out; omega, hbel⟩
    | succ k =>
      obtain ⟨x, rfl⟩ := ha.some_of (i := k) (by omega)
      obtain ⟨p, hp, hp0, hp1⟩ := ha.words.get (by decide) k
      have hca := (ha.next hbel).cell x rfl k (by omega)
      have hsk : k < ss.length := by have := hsl.out; omega
      have hcs := hblk.cell k hsk
      have hfr := hblk.frozen k
      rw [hp] at hca
      generalize ss[k]?.getD 0 = old at hcs
      have HS : Hid (Hid (val 65536 (xs.drop k) = d * val 65536 ((ss.set k ((rr * 65536 + p) / d)).drop k) + (rr * 65536 + p) % d)) := div_step hsk hp (by have := Int.emod_add_mul_ediv (rr * 65536 + p) d; omega) HV.out
      have hq0 : 0 ≤ (rr * 65536 + p) / d := Int.ediv_nonneg (by omega) (by omega)
      have hq1 : (rr * 65536 + p) / d < 65536 := Int.ediv_lt_of_lt_mul hd0 (by
        have : (rr + 1) * 65536 ≤ d * 65536 := Int.mul_le_mul_of_nonneg_right (by omega) (by omega)
        omega)
      have hm0 := Int.emod_nonneg (rr * 65536 + p) (b := d) (by omega)
      have hm1 := Int.emod_lt_of_pos (rr * 65536 + p) hd0
      have ht1 : (rr * 65536 + p).tdiv d = (rr * 65536 + p) / d := Int.tdiv_eq_ediv_of_nonneg (by omega)
      have ht2 : (rr * 65536 + p).tmod d = (rr * 65536 + p) % d := Int.tmod_eq_emod_of_nonneg (by omega)
      clear hp HV hsk
      go_wp2
      go_roundw
      case rel => exact ⟨k, _, _, by omega, rfl, rfl, hm0, hm1, hblk.set k _, by show _ = _; rw [List.length_set]; exact hsl.out, hsw.set k ⟨hq0, hq1⟩, HS, hbel.setCell (Nat.le_refl _) _⟩
      case measure => simp [intOf]
set_option maxHeartbeats 1000000 in
theorem times_any (x : Option Addr) (ca : Nat) (xs : List Int) (f : Int) (w : World) (ha : Row w .i64 65536 x ca xs) (hl : xs.length ≤ 1000000) (hf0 : 0 ≤ f) (hf1 : f < 65536) :
    Calls Try.prog 73 #[.slice x xs.length ca, .int .i64 f] w fun e w' => ∃ ss, e = .returned (.slice (some ⟨w.heap.size, 0, none⟩) ss.length ss.length) ∧ Blk w' w.heap.size .i64 3 ss.length ss ∧ ss.length = xs.length + 1 ∧ Words 65536 ss ∧ val 65536 ss = val 65536 xs * f ∧ Below w.heap.size w w' := by
  have hmk := mk28 ((xs.length : Int) + 1) (by omega) (by omega) w
  rw [show ((xs.length : Int) + 1).toNat = xs.length + 1 from by omega] at hmk
  go_enter Try.func73, Try.ntmps73
  go_wp2
  go_loopw [6, 7] (fun cy i wr => ∃ (k : Nat) (cc : Int) (ss : List Int), k ≤ xs.length ∧ i = .int .i64 k ∧ cy = .int .i64 cc ∧ 0 ≤ cc ∧ cc < 65536 ∧ Blk wr w.heap.size .i64 3 (xs.length + 1) ss ∧ Hid (ss.length = xs.length + 1) ∧ Words 65536 ss ∧ Hid (val 65536 (ss.take k) + cc * 65536 ^ k = val 65536 (xs.take k) * f) ∧ Below w.heap.size w wr) (fun _ i _ => xs.length - (intOf i).toNat)
  case atStart => exact ⟨0, 0, zeros (xs.length + 1), Nat.zero_le _, rfl, rfl, by omega, by omega, by have := Blk.new w .i64 3 (zeros (xs.length + 1)) (by rw [zeros_len]; unfold maxLen; omega); rwa [zeros_len] at this, zeros_len _, zeros_words (by decide) _, by simp [val, Hid], (Below.refl _ _).alloc (Nat.le_refl _) _⟩
  case round =>
    obtain ⟨k, cc, ss, hk, rfl, rfl, hc0, hc1, hblk, hsl, hsw, HV, hbel⟩ := hrel
    by_cases hlt : k < xs.length
    · obtain ⟨x, rfl⟩ := ha.some_of hlt
      obtain ⟨p, hp, hp0, hp1⟩ := ha.words.get (by decide) k
      have hca := (ha.next hbel).cell x rfl k hlt
      have hsk : k < ss.length := by have := hsl.out; omega
      have hcs := hblk.cell k hsk
      have hfr := hblk.frozen k
      rw [hp] at hca
      generalize ss[k]?.getD 0 = old at hcs
      have HS : Hid (Hid (val 65536 ((ss.set k ((p * f + cc) % 65536)).take (k + 1)) + ((p * f + cc) / 65536) * 65536 ^ (k + 1) = val 65536 (xs.take (k + 1)) * f)) := shl_step hsk hp HV.out
      rw [show p * f + cc = cc + p * f from by omega] at HS
      have hm := mul_dig hp0 hp1 hf0 hf1
      clear hp HV hsk
      go_wp2
      go_roundw
      case rel => exact ⟨k + 1, _, _, by omega, by go_num, rfl, by omega, by omega, hblk.set k _, by show _ = _; rw [List.length_set]; exact hsl.out, hsw.set k (by omega), HS, hbel.setCell (Nat.le_refl _) _⟩
      case measure => simp [intOf]; omega
    · obtain rfl : k = xs.length := by omega
      have hcs := hblk.cell xs.length (by rw [hsl.out]; omega)
      have hfr := hblk.frozen xs.length
      generalize ss[xs.length]?.getD 0 = old at hcs
      have HS : Hid (val 65536 (ss.set xs.length cc) = val 65536 xs * f) := by
        have e := HV.out
        rw [take_all (zs := xs) (Nat.le_refl _)] at e
        show _ = _
        rw [← e, ← val_set_take _ _ _ _ (by rw [hsl.out]; omega), take_all (by rw [List.length_set, hsl.out]; omega)]
      clear HV
      have hsl' : (ss.set xs.length cc).length = xs.length + 1 := by rw [List.length_set]; exact hsl.out
      replace hsl' : Hid _ := hsl'
      go_wp2
      go_ret
      exact ⟨ss.set xs.length cc, by rw [hsl'.out]; rfl, by rw [hsl'.out]; exact hblk.set _ _, hsl'.out, hsw.set _ (by omega), HS.out, hbel.setCell (Nat.le_refl _) _⟩
end Go.Proofs.Ytdcjgepgiaaaoaa
