/- Int64. -/
import Derived.Test.YthiiglhecajhbaaGreatTa
import Derived.Test.YthiiglhecajhbaaGreatKn
namespace Go.Proofs.YthiiglhecajhbaaGreat
open Go.RowKit
attribute [local go_sem ↓] Go.wp_at_zero Go.wp_at_succ
theorem or64_comm (a b : Int) (ha : 0 ≤ a) (ha' : a < 18446744073709551616) (hb : 0 ≤ b) (hb' : b < 18446744073709551616) : bits .or .u64 a b = bits .or .u64 b a := by
  obtain ⟨m, rfl⟩ := Int.eq_ofNat_of_zero_le ha
  obtain ⟨n, rfl⟩ := Int.eq_ofNat_of_zero_le hb
  rw [bits_or64_nat m n (by omega) (by omega), bits_or64_nat n m (by omega) (by omega), Nat.or_comm]
theorem or_shift {k : Nat} {z p : Int} (hk : k ≤ 1) (hz0 : 0 ≤ z) (hz1 : z < 4294967296 ^ k) (hp0 : 0 ≤ p) (hp1 : p < 4294967296) : bits .or .u64 z (IntKind.u64.wrap (p * 2 ^ (32 * (k : Int)).toNat)) = z + p * 4294967296 ^ k := by
  rcases (show k = 0 ∨ k = 1 by omega) with rfl | rfl
  · have e : z = 0 := by simp at hz1; omega
    subst e
    have h := bits_or64 0 p (by decide) (by decide) hp0 hp1
    simp at h
    simp [wrap_u64 p hp0 (by omega), h]
  · have e : (32 * ((1 : Nat) : Int)).toNat = 32 := by decide
    rw [e, show (2 : Int) ^ 32 = 4294967296 from by decide, wrap_u64 _ (by omega) (by omega), or64_comm _ _ hz0 (by omega) (by omega) (by omega), bits_or64 p z hp0 hp1 hz0 (by simpa using hz1)]
    simp
    omega
set_option maxHeartbeats 2000000 in
theorem Int64_short (na : Bool) (x : Option Addr) (ca : Nat) (xs : List Int) (w : World) (ha : Row w .u32 4294967296 x ca xs) (hl : (trimmed xs).length ≤ 2) (V : Int) (hV : V = val 4294967296 xs) :
    Calls Tryz.prog 100 #[.agg #[.bool na, .slice x xs.length ca]] w fun e w' => e = .returned (.tuple #[.int .i64 (pick64 (num 4294967296 na xs)), .bool (fits64 (num 4294967296 na xs))]) ∧ Below w.heap.size w w' := by
  obtain ⟨W, hW⟩ : ∃ W, W = w.alloc (.cells #[.bool na, .slice x xs.length ca] 24) := ⟨_, rfl⟩
  have hbW : Below w.heap.size w W := by rw [hW]; exact (Below.refl _ _).alloc (Nat.le_refl _) _
  have c0 : W.cell? ⟨w.heap.size, 0, none⟩ = some (.bool na) := by rw [hW]; simp [go_sem]
  have htr := trim_any _ _ _ _ (ha.next hbW)
  have ht := (ha.next hbW).trim
  have htw := ha.words.trimmed
  have hv := trimmed_val 4294967296 xs
  replace htr : Hid _ := htr
  rw [← hV] at hv
  have hn : num 4294967296 na xs = if na = true then - V else V := by rw [hV]; rfl
  rw [hn]
  clear hn hV
  generalize trimmed xs = ts at *
  replace hv : Hid _ := hv
  go_enter Tryz.func100, Tryz.ntmps100
  go_wp2_with fail
  rw [← hW]
  clear hW
  refine Calls.mono htr.out ?_
  rintro e w1 ⟨rfl, hw1⟩
  rw [hw1]
  clear hw1 w1 htr
  go_wp2
  go_loop [5, 16] (fun s i => ∃ k : Nat, k ≤ ts.length ∧ i = .int .i64 k ∧ s = .int .u64 (val 4294967296 (ts.take k))) (fun _ i => ts.length - (intOf i).toNat)
  case atStart => exact ⟨0, Nat.zero_le _, rfl, rfl⟩
  case round =>
    obtain ⟨k, hk, rfl, rfl⟩ := hrel
    by_cases hlt : k < ts.length
    · obtain ⟨x, rfl⟩ := ht.some_of hlt
      obtain ⟨p, hp, hp0, hp1⟩ := htw.get (by decide) k
      have hce := ht.cell x rfl k hlt
      rw [hp] at hce
      have hs := val_take_succ 4294967296 ts k
      rw [hp] at hs
      have h0 := val_nonneg (B := 4294967296) (by decide) (htw.take k)
      have h1 := val_lt (B := 4294967296) (by decide) (htw.take k)
      rw [List.length_take, Nat.min_eq_left (by omega)] at h1
      generalize val 4294967296 (ts.take k) = z at *
      have hs' : Hid _ := hs
      clear hs hp
      have hor : Hid _ := or_shift (k := k) (by omega) h0 h1 hp0 hp1
      go_wp2
      go_round
      case rel => exact ⟨k + 1, by omega, by go_num, congrArg (Value.int .u64) (by rw [hs'.out]; exact hor.out)⟩
      case measure => simp [intOf]; omega
    · obtain rfl : k = ts.length := by omega
      have h0 := val_nonneg (B := 4294967296) (by decide) htw
      rw [take_all (Nat.le_refl _), hv.out]
      rw [hv.out] at h0
      have h1 : V < 18446744073709551616 := by
        have := val_lt (B := 4294967296) (by decide) htw
        rw [hv.out] at this
        have h2 := pow_mono (B := 4294967296) (by decide) hl
        have h3 : (4294967296 : Int) ^ 2 = 18446744073709551616 := by decide
        omega
      clear hv htw ht
      cases na with
      | false =>
        by_cases hf : V ≤ 9223372036854775807
        · have e := fits64_yes (z := V) (by omega)
          go_wp2
          go_ret2
          exact ⟨by simp, hbW⟩
        · have e := fits64_no (z := V) (by omega)
          go_wp2
          go_ret2
          exact ⟨by simp, hbW⟩
      | true =>
        by_cases hf : V ≤ 9223372036854775808
        · have e := fits64_yes (z := -V) (by omega)
          go_wp2
          go_ret2
          have hu : IntKind.u64.wrap (-V) = (-V) % 18446744073709551616 := by simp [IntKind.wrap, IntKind.bits, IntKind.signed]
          exact ⟨by simp [wrap64, hu]; omega, hbW⟩
        · have e := fits64_no (z := -V) (by omega)
          go_wp2
          go_ret2
          exact ⟨by simp, hbW⟩
theorem Int64_num {w : World} {u : Value} {y : Int} {m : Nat} (hu : Num w u y m) :
    Calls Tryz.prog 100 #[u] w fun e w' => e = .returned (.tuple #[.int .i64 (pick64 y), .bool (fits64 y)]) ∧ Below w.heap.size w w' := by
  obtain ⟨na, x, ca, xs, rfl, ha, rfl, hl⟩ := hu
  by_cases h : (trimmed xs).length ≤ 2
  · exact Int64_short na x ca xs w ha h _ rfl
  · refine (Int64_long na x ca xs w ha (by omega)).mono ?_
    rintro e w' ⟨rfl, hb⟩
    have h1 : trimmed xs ≠ [] := by intro e; rw [e] at h; simp at h
    have h2 := nrm_pos (B := 4294967296) (by decide) ha.words.trimmed (trimmed_nrm xs) h1
    rw [trimmed_val] at h2
    have h3 := pow_mono (B := 4294967296) (by decide) (m := 2) (n := (trimmed xs).length - 1) (by omega)
    have h4 : (4294967296 : Int) ^ 2 = 18446744073709551616 := by decide
    have e := fits64_no (z := num 4294967296 na xs) (by cases na <;> simp [num] <;> omega)
    exact ⟨by rw [e.1, e.2], hb⟩
end Go.Proofs.YthiiglhecajhbaaGreat
