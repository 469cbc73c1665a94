/- Contracts of shiftLeft, shiftRight, LeadingZeros32. -/
import Derived.Test.YthiiglhecajhbaaGreatQuo
import Derived.Test.YthiiglhecajhbaaGreatKm
namespace Go.Proofs.YthiiglhecajhbaaGreat
open Go.RowKit
attribute [local go_sem ↓] Go.wp_at_zero Go.wp_at_succ
theorem bits_or64' (p z : Int) (c : Nat) (hc : c ≤ 32) (hp0 : 0 ≤ p) (hp1 : p < 4294967296) (hz0 : 0 ≤ z) (hz1 : z < 2 ^ c) : bits .or .u64 (p * 2 ^ c) z = p * 2 ^ c + z := by
  have hm : (2 : Int) ^ c ≤ 2 ^ 32 := pow_mono (by decide) hc
  have hm' : (2 : Nat) ^ c ≤ 2 ^ 32 := Nat.pow_le_pow_right (by decide) hc
  have e1 : p * 2 ^ c = ((p.toNat * 2 ^ c : Nat) : Int) := by
    have : (p.toNat : Int) = p := by omega
    simp [this]
  have e2 : z = (z.toNat : Int) := by omega
  have hzn : z.toNat < 2 ^ c := by
    have : ((2 ^ c : Nat) : Int) = 2 ^ c := by simp
    omega
  have e3 : p.toNat * 2 ^ c ||| z.toNat = p.toNat * 2 ^ c + z.toNat := by
    have := Nat.shiftLeft_add_eq_or_of_lt (i := c) (b := z.toNat) hzn p.toNat
    rw [Nat.shiftLeft_eq] at this
    exact this.symm
  have hpb : p.toNat * 2 ^ c ≤ 4294967295 * 2 ^ 32 := Nat.mul_le_mul (by omega) hm'
  have key := bits_or64_nat (p.toNat * 2 ^ c) z.toNat (by omega) (by omega)
  rw [e3, ← e1, ← e2] at key
  rw [key]
  omega
theorem wrap_u64 (m : Int) (h0 : 0 ≤ m) (h1 : m < 18446744073709551616) : IntKind.u64.wrap m = m := by
  have hw : IntKind.u64.wrap m = m % 18446744073709551616 := by simp [IntKind.wrap, IntKind.bits, IntKind.signed]
  rw [hw]; omega
theorem mul_pow_lt {p : Int} {c : Nat} (hc : c ≤ 32) (hp0 : 0 ≤ p) (hp1 : p < 4294967296) : 0 ≤ p * 2 ^ c ∧ p * 2 ^ c ≤ 18446744069414584320 := by
  have h1 := pow_pos' (B := 2) (by decide) c
  have h2 : (2 : Int) ^ c ≤ 2 ^ 32 := pow_mono (by decide) hc
  refine ⟨Int.mul_nonneg hp0 (Int.le_of_lt h1), ?_⟩
  have h3 := Int.mul_le_mul_of_nonneg_left h2 hp0
  have h4 : p * 2 ^ 32 ≤ 4294967295 * 2 ^ 32 := Int.mul_le_mul_of_nonneg_right (by omega) (by decide)
  omega
theorem bits_or64w (p z : Int) (c : Nat) (hc : c ≤ 32) (hp0 : 0 ≤ p) (hp1 : p < 4294967296) (hz0 : 0 ≤ z) (hz1 : z < 2 ^ c) : bits .or .u64 (IntKind.u64.wrap (p * 2 ^ c)) z = p * 2 ^ c + z := by
  have h := mul_pow_lt hc hp0 hp1
  rw [wrap_u64 _ h.1 (by omega)]
  exact bits_or64' p z c hc hp0 hp1 hz0 hz1
theorem shl_lt {p cc : Int} {c : Nat} (hp1 : p < 4294967296) (hc1 : cc < 2 ^ c) : (p * 2 ^ c + cc) / 4294967296 < 2 ^ c := by
  have h1 := pow_pos' (B := 2) (by decide) c
  refine Int.ediv_lt_of_lt_mul (by decide) ?_
  have h3 := Int.mul_le_mul_of_nonneg_right (show p + 1 ≤ 4294967296 by omega) (Int.le_of_lt h1)
  rw [Int.add_mul] at h3
  rw [Int.mul_comm (2 ^ c)]
  omega
set_option maxHeartbeats 1000000 in
theorem shiftLeft_any (x : Option Addr) (ca : Nat) (xs : List Int) (c size : Nat) (w : World) (ha : Row w .u32 4294967296 x ca xs) (hl : xs.length ≤ 1000000) (hc : c < 32) (hs : size = xs.length ∨ size = xs.length + 1) (hv : val 4294967296 xs * 2 ^ c < 4294967296 ^ size) :
    Calls Tryz.prog 122 #[.slice x xs.length ca, .int .i64 c, .int .i64 size] w fun e w' => ∃ ss, e = .returned (.slice (some ⟨w.heap.size, 0, none⟩) ss.length ss.length) ∧ Blk w' w.heap.size .u32 74 ss.length ss ∧ ss.length = size ∧ Words 4294967296 ss ∧ val 4294967296 ss = val 4294967296 xs * 2 ^ c ∧ Below w.heap.size w w' := by
  have hmk := mk22 (size : Int) (by omega) (by omega) w
  rw [show (size : Int).toNat = size from by omega] at hmk
  have hpc := pow_pos' (B := 2) (by decide) c
  have hpc2 : (2 : Int) ^ c ≤ 2147483648 := pow_mono (B := 2) (by decide) (m := c) (n := 31) (by omega)
  replace hv : Hid _ := hv
  go_enter Tryz.func122, Tryz.ntmps122
  go_wp2
  go_loopw [8, 9, 10, 11, 16] (fun cy u9 u10 u11 i wr => ∃ (k : Nat) (cc : Int) (ss : List Int), k ≤ xs.length ∧ i = .int .i64 k ∧ cy = .int .u64 cc ∧ 0 ≤ cc ∧ cc < 2 ^ c ∧ Blk wr w.heap.size .u32 74 size ss ∧ ss.length = size ∧ Words 4294967296 ss ∧ Hid (∀ i, k ≤ i → ss[i]?.getD 0 = 0) ∧ Hid (val 4294967296 (ss.take k) + cc * 4294967296 ^ k = val 4294967296 (xs.take k) * 2 ^ c) ∧ Below w.heap.size w wr) (fun _ _ _ _ i _ => xs.length - (intOf i).toNat)
  case atStart => exact ⟨0, 0, zeros size, Nat.zero_le _, rfl, rfl, by omega, by omega, by have := Blk.new w .u32 74 (zeros size) (by rw [zeros_len]; unfold maxLen; omega); rwa [zeros_len] at this, zeros_len _, zeros_words (by decide) _, fun i _ => zeros_at _ i, by simp [val, Hid], (Below.refl _ _).alloc (Nat.le_refl _) _⟩
  case round =>
    obtain ⟨k, cc, ss, hk, rfl, rfl, hc0, hc1, hblk, hsl, hsw, HZ, HV, hbel⟩ := hrel
    by_cases hlt : k < xs.length
    · obtain ⟨x, rfl⟩ := ha.some_of hlt
      obtain ⟨p, hp, hp0, hp1⟩ := ha.words.get (by decide) k
      have hca := (ha.next hbel).cell x rfl k hlt
      have hcs := hblk.cell k (by omega)
      have hfr := hblk.frozen k
      rw [hp] at hca
      generalize ss[k]?.getD 0 = old at hcs
      have hor := bits_or64' p cc c (by omega) hp0 hp1 hc0 hc1
      have hpl := mul_pow_lt (p := p) (c := c) (by omega) hp0 hp1
      have hq1 := shl_lt hp1 hc1
      have hq0 : 0 ≤ (p * 2 ^ c + cc) / 4294967296 := Int.ediv_nonneg (by omega) (by decide)
      have HS : Hid (Hid (val 4294967296 ((ss.set k ((p * 2 ^ c + cc) % 4294967296)).take (k + 1)) + ((p * 2 ^ c + cc) / 4294967296) * 4294967296 ^ (k + 1) = val 4294967296 (xs.take (k + 1)) * 2 ^ c)) := shl_step (by omega) hp HV.out
      clear hp HV
      go_wp2
      go_roundw
      case rel => exact ⟨k + 1, _, _, by omega, by go_num, rfl, hq0, hq1, hblk.set k _, by simpa using hsl, hsw.set k (by omega), fun i hi => by rw [List.getElem?_set_ne (by omega)]; exact HZ.out i (by omega), HS, hbel.setCell (Nat.le_refl _) _⟩
      case measure => simp [intOf]; omega
    · obtain rfl : k = xs.length := by omega
      have HV' := HV.out
      rw [take_all (zs := xs) (Nat.le_refl _)] at HV'
      have hv' := hv.out
      rw [← HV'] at hv'
      have hn1 := val_nonneg (by decide) (hsw.take xs.length)
      rcases hs with hs | hs
      · have hlt' : ¬ (xs.length : Int) < (size : Int) := by omega
        have hcc : cc = 0 := by
          rw [hs] at hv'
          by_cases h : cc = 0
          · exact h
          · have hp := pow_pos' (B := 4294967296) (by decide) xs.length
            have := Int.mul_le_mul_of_nonneg_right (show 1 ≤ cc by omega) (Int.le_of_lt hp)
            omega
        replace HV' : Hid _ := HV'
        clear hv' hn1
        replace hs : Hid _ := hs
        replace hcc : Hid _ := hcc
        go_wp2
        go_ret
        refine ⟨ss, by rw [hsl]; rfl, by rw [hsl]; exact hblk, hsl, hsw, ?_, hbel⟩
        have e := HV'.out
        rw [take_all (by have := hs.out; omega), hcc.out] at e
        omega
      · have hlt' : (xs.length : Int) < (size : Int) := by omega
        have hcs := hblk.cell xs.length (by omega)
        have hfr := hblk.frozen xs.length
        generalize ss[xs.length]?.getD 0 = old at hcs
        have hcm : cc % 4294967296 = cc := by omega
        have HS : Hid (val 4294967296 (ss.set xs.length cc) = val 4294967296 xs * 2 ^ c) := by
          show _ = _
          rw [← HV', ← val_set_take _ _ _ _ (by omega), take_all (by simp; omega)]
        clear hv' hn1 HV' HV
        replace hs : Hid _ := hs
        go_wp2
        go_ret
        have hsl' : (ss.set xs.length cc).length = size := by simpa using hsl
        exact ⟨ss.set xs.length cc, by rw [hsl']; rfl, by rw [hsl']; exact hblk.set _ _, hsl', hsw.set _ (by omega), HS.out, hbel.setCell (Nat.le_refl _) _⟩
theorem pow_split {c : Nat} (hc : c ≤ 32) : (4294967296 : Int) = 2 ^ c * 2 ^ (32 - c) := by
  rw [← Int.pow_add, show c + (32 - c) = 32 from by omega]; rfl
set_option maxHeartbeats 1000000 in
theorem shiftRight_any (x : Option Addr) (ca : Nat) (xs : List Int) (c : Nat) (w : World) (ha : Row w .u32 4294967296 x ca xs) (hl : xs.length ≤ 1000000) (hc : c < 32) :
    Calls Tryz.prog 124 #[.slice x xs.length ca, .int .i64 c] w fun e w' => ∃ ss, e = .returned (.slice (some ⟨w.heap.size, 0, none⟩) ss.length ss.length) ∧ Blk w' w.heap.size .u32 74 ss.length ss ∧ ss.length = xs.length ∧ Words 4294967296 ss ∧ val 4294967296 ss = val 4294967296 xs / 2 ^ c ∧ Below w.heap.size w w' := by
  have hmk := mk22 (xs.length : Int) (by omega) (by omega) w
  rw [show (xs.length : Int).toNat = xs.length from by omega] at hmk
  have hpc := pow_pos' (B := 2) (by decide) c
  have hsp := pow_split (c := c) (by omega)
  replace hsp : Hid _ := hsp
  go_enter Tryz.func124, Tryz.ntmps124
  go_wp2
  go_loopw [6, 7, 8] (fun ab i u8 wr => ∃ (k : Nat) (ss : List Int) (a : Int), k ≤ xs.length ∧ i = .int .i64 (k - 1) ∧ ab = .int .u64 a ∧ Hid (xs[k]?.getD 0 = a) ∧ 0 ≤ a ∧ a < 4294967296 ∧ Blk wr w.heap.size .u32 74 xs.length ss ∧ ss.length = xs.length ∧ Words 4294967296 ss ∧ Hid (val 4294967296 (ss.drop k) = val 4294967296 (xs.drop k) / 2 ^ c) ∧ Below w.heap.size w wr) (fun _ i _ _ => (intOf i + 1).toNat)
  case atStart => exact ⟨xs.length, zeros xs.length, 0, Nat.le_refl _, rfl, rfl, at_out (by omega), by omega, by omega, by have := Blk.new w .u32 74 (zeros xs.length) (by rw [zeros_len]; unfold maxLen; omega); rwa [zeros_len] at this, zeros_len _, zeros_words (by decide) _, by show _ = _; rw [List.drop_eq_nil_of_le (by rw [zeros_len]; omega), List.drop_eq_nil_of_le (by omega)]; simp [val], (Below.refl _ _).alloc (Nat.le_refl _) _⟩
  case round =>
    obtain ⟨k, ss, a, hk, rfl, rfl, HA, ha0, ha1, hblk, hsl, hsw, HV, hbel⟩ := hrel
    cases k with
    | zero =>
      go_wp2
      go_ret
      have e := HV.out
      simp only [List.drop_zero] at e
      exact ⟨ss, by rw [hsl]; rfl, by rw [hsl]; exact hblk, hsl, hsw, e, hbel⟩
    | succ k =>
      obtain ⟨x, rfl⟩ := ha.some_of (i := k) (by omega)
      obtain ⟨p, hp, hp0, hp1⟩ := ha.words.get (by decide) k
      have hca := (ha.next hbel).cell x rfl k (by omega)
      have hcs := hblk.cell k (by omega)
      have hfr := hblk.frozen k
      rw [hp] at hca
      have hca2 : (wr.setCell ⟨w.heap.size, k, none⟩ (.int .u32 ((a * 4294967296 + p) / 2 ^ c % 4294967296))).cell? (x.add k) = some (.int .u32 p) := ((ha.next (hbel.setCell (p := ⟨w.heap.size, k, none⟩) (Nat.le_refl _) _)).cell x rfl k (by omega)).trans (by rw [hp])
      generalize ss[k]?.getD 0 = old at hcs
      have hor := bits_or64 a p ha0 ha1 hp0 hp1
      have HS : Hid (Hid (val 4294967296 ((ss.set k ((a * 4294967296 + p) / 2 ^ c % 4294967296)).drop k) = val 4294967296 (xs.drop k) / 2 ^ c)) := shr_step hpc hsp.out (by decide) (by omega) hp hp0 hp1 HA.out HV.out
      have hq0 : 0 ≤ (a * 4294967296 + p) / 2 ^ c := Int.ediv_nonneg (by omega) (by omega)
      have hq1 : (a * 4294967296 + p) / 2 ^ c ≤ 18446744073709551615 := by
        refine Int.le_trans (Int.ediv_le_self _ (by omega)) (by omega)
      have HP : Hid (Hid (xs[k]?.getD 0 = p)) := hp
      clear hp HV
      go_wp2
      go_roundw
      case rel => exact ⟨k, _, p, by omega, rfl, rfl, HP, hp0, hp1, hblk.set k _, by simpa using hsl, hsw.set k (by omega), HS, hbel.setCell (Nat.le_refl _) _⟩
      case measure => simp [intOf]
theorem lz32 (x : Int) (w : World) (h0 : 0 ≤ x) (h1 : x ≤ 4294967295) :
    Calls Tryz.prog 121 #[.int .u32 x] w fun e w' => e = .returned (.int .i64 (32 - (Lib.bitLen x.toNat : Int))) ∧ w' = w := by
  have hb := Lib.bitLen_le x.toNat 32 (by decide) (by omega)
  go_enter Tryz.func121, Tryz.ntmps121
  go_wp2_with (go_at_call 107; refine (len32 x _ h0 h1).mono ?_; rintro e w' ⟨rfl, rfl⟩)
  go_ret
  exact ⟨rfl, rfl⟩
end Go.Proofs.YthiiglhecajhbaaGreat
