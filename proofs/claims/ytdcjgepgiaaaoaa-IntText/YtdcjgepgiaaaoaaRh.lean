/- The second road's bits. -/
import Derived.Test.YtdcjgepgiaaaoaaRg
namespace Go.Proofs.Ytdcjgepgiaaaoaa
open Go.RowKit
theorem bit_of_val {zs : List Int} (hw : Words 65536 zs) (i : Nat) : val 65536 zs / 2 ^ i % 2 = zs[i / 16]?.getD 0 / 2 ^ (i % 16) % 2 := by
  have hk : val 65536 zs = val 65536 (zs.take (i / 16)) + 65536 ^ (i / 16) * val 65536 (zs.drop (i / 16)) := by
    by_cases h : i / 16 ≤ zs.length
    · exact val_split _ _ _ h
    · rw [List.take_of_length_le (by omega), List.drop_eq_nil_of_le (by omega)]; simp [val]
  have h1 := val_nonneg (B := 65536) (by decide) (hw.take (i / 16))
  have h2 : val 65536 (zs.take (i / 16)) < 65536 ^ (i / 16) := by
    have e := val_lt (B := 65536) (by decide) (hw.take (i / 16))
    have m := pow_mono (B := 65536) (by decide) (m := (zs.take (i / 16)).length) (n := i / 16) (by rw [List.length_take]; omega)
    omega
  have hp : (65536 : Int) ^ (i / 16) = 2 ^ (16 * (i / 16)) := by rw [Int.pow_mul]; rfl
  have hd : val 65536 zs / 65536 ^ (i / 16) = val 65536 (zs.drop (i / 16)) := by
    rw [hk, Int.add_mul_ediv_left _ _ (by have := pow_pos' (B := 65536) (by decide) (i / 16); omega), Int.ediv_eq_zero_of_lt h1 h2]; omega
  have hi : (2 : Int) ^ i = 65536 ^ (i / 16) * 2 ^ (i % 16) := by rw [hp, ← Int.pow_add]; congr 1; omega
  rw [hi, ← Int.ediv_ediv_of_nonneg (Int.le_of_lt (pow_pos' (by decide) _)), hd, val_drop]
  generalize zs[i / 16]?.getD 0 = d
  generalize val 65536 (zs.drop (i / 16 + 1)) = v
  have hr : i % 16 < 16 := by omega
  have he : (65536 : Int) = 2 ^ (i % 16) * (2 * 2 ^ (15 - i % 16)) := by
    have : (65536 : Int) = 2 ^ (i % 16 + (1 + (15 - i % 16))) := by rw [show i % 16 + (1 + (15 - i % 16)) = 16 from by omega]; rfl
    rw [this, Int.pow_add, Int.pow_add, Int.pow_one]
  have hpos := pow_pos' (B := 2) (by decide) (i % 16)
  rw [he, Int.mul_assoc, Int.add_mul_ediv_left _ _ (by omega), Int.mul_assoc]
  generalize 2 ^ (15 - i % 16) * v = u
  omega
set_option maxHeartbeats 1000000 in
theorem bit_any (x : Option Addr) (ca : Nat) (xs : List Int) (i : Nat) (w : World) (ha : Row w .i64 65536 x ca xs) (hl : xs.length ≤ 1000000) (hi : i ≤ 100000000) :
    Calls Try.prog 53 #[.slice x xs.length ca, .int .i64 i] w fun e w' => e = .returned (.int .i64 (val 65536 xs / 2 ^ i % 2)) ∧ w' = w := by
  have hb := bit_of_val ha.words i
  rw [hb]
  clear hb
  by_cases h : i / 16 < xs.length
  · obtain ⟨x, rfl⟩ := ha.some_of h
    obtain ⟨p, hp, hp0, hp1⟩ := ha.words.get (by decide) (i / 16)
    have hce := ha.cell x rfl (i / 16) h
    rw [hp] at hce ⊢
    clear hp
    have e1 : (i : Int).tdiv 16 = ((i / 16 : Nat) : Int) := by rw [Int.tdiv_eq_ediv_of_nonneg (by omega)]; omega
    have e2 : (i : Int).tmod 16 = ((i % 16 : Nat) : Int) := by rw [Int.tmod_eq_emod_of_nonneg (by omega)]; omega
    have e3 : ¬ ((i / 16 : Nat) : Int) ≥ (xs.length : Int) := by omega
    go_enter Try.func53, Try.ntmps53
    go_wp2
    go_ret
    exact ⟨ret_int (Int.tmod_eq_emod_of_nonneg (Int.ediv_nonneg hp0 (Int.le_of_lt (pow_pos' (by decide) _)))), rfl⟩
  · have e1 : (i : Int).tdiv 16 = ((i / 16 : Nat) : Int) := by rw [Int.tdiv_eq_ediv_of_nonneg (by omega)]; omega
    have e3 : ((i / 16 : Nat) : Int) ≥ (xs.length : Int) := by omega
    have h0 : xs[i / 16]?.getD 0 = 0 := Row.at_out h
    rw [h0]
    have e4 : (0 : Int) / 2 ^ (i % 16) % 2 = 0 := by simp
    rw [e4]
    clear e4 h0 e1
    have e5 : (xs.length : Int) ≤ (i : Int) / 16 := by omega
    go_enter Try.func53, Try.ntmps53
    go_wp2
    go_ret
    exact ⟨rfl, rfl⟩
/-- How many binary digits v has. -/
def HasBits (v : Int) (L : Nat) : Prop := v < 2 ^ L ∧ (L = 0 ∨ 2 ^ (L - 1) ≤ v)
theorem HasBits.unique {v : Int} {L M : Nat} (h : HasBits v L) (k : HasBits v M) : L = M := by
  have aux : ∀ {L M : Nat}, HasBits v L → HasBits v M → L ≤ M := by
    intro L M h k
    by_cases hc : L ≤ M
    · exact hc
    · rcases h.2 with e | e
      · omega
      · have := pow_mono (B := 2) (by decide) (m := M) (n := L - 1) (by omega)
        have := k.1
        omega
  exact Nat.le_antisymm (aux h k) (aux k h)
theorem bits_down {v : Int} {k : Nat} (h0 : 0 ≤ v) (h : v < 2 ^ (k + 1)) (hb : v / 2 ^ k % 2 = 0) : v < 2 ^ k := by
  have hp := pow_pos' (B := 2) (by decide) k
  have h1 : v / 2 ^ k < 2 := Int.ediv_lt_of_lt_mul hp (by rw [Int.pow_succ] at h; omega)
  have h2 : 0 ≤ v / 2 ^ k := Int.ediv_nonneg h0 (Int.le_of_lt hp)
  have h3 : v / 2 ^ k = 0 := by omega
  have h4 := Int.lt_ediv_add_one_mul_self v hp
  rw [h3] at h4
  omega
theorem bits_top {v : Int} {k : Nat} (h0 : 0 ≤ v) (hb : ¬ v / 2 ^ k % 2 = 0) : 2 ^ k ≤ v := by
  have hp := pow_pos' (B := 2) (by decide) k
  by_cases h : 2 ^ k ≤ v
  · exact h
  · rw [Int.ediv_eq_zero_of_lt h0 (by omega)] at hb
    exact absurd rfl hb
set_option maxHeartbeats 1000000 in
theorem rBits_any (na : Bool) (x : Option Addr) (ca : Nat) (xs : List Int) (w : World) (ha : Row w .i64 65536 x ca xs) (hl : xs.length ≤ 1000000) :
    Calls Try.prog 24 #[.agg #[.bool na, .slice x xs.length ca]] w fun e w' => ∃ L : Nat, e = .returned (.int .i64 L) ∧ HasBits (val 65536 xs) L ∧ Below w.heap.size w w' := by
  have hv := val_nonneg (B := 65536) (by decide) ha.words
  have hv2 := val_lt (B := 65536) (by decide) ha.words
  have hp : (65536 : Int) ^ xs.length = 2 ^ (16 * xs.length) := by rw [Int.pow_mul]; rfl
  rw [hp] at hv2
  replace hv : Hid _ := hv
  replace hv2 : Hid _ := hv2
  clear hp
  have hB : Below w.heap.size w (w.alloc (.cells #[.bool na, .slice x xs.length ca] 30)) := (Below.refl _ _).alloc (Nat.le_refl _) _
  have haB := ha.next hB
  go_enter Try.func24, Try.ntmps24
  go_wp2
  go_loop [3] (fun t => ∃ k : Nat, k ≤ 16 * xs.length ∧ t = .int .i64 k ∧ Hid (val 65536 xs < 2 ^ k)) (fun t => (intOf t).toNat)
  case atStart => exact ⟨16 * xs.length, Nat.le_refl _, by simp, hv2⟩
  case round =>
    obtain ⟨k, hk, rfl, H⟩ := hrel
    cases k with
    | zero =>
      go_wp2
      go_ret
      exact ⟨0, rfl, ⟨H.out, .inl rfl⟩, hB⟩
    | succ k =>
      have hbit := bit_any x ca xs k _ haB (by omega) (by omega)
      by_cases hz : val 65536 xs / 2 ^ k % 2 = 0
      · rw [hz] at hbit
        have HD := bits_down hv.out H.out hz
        replace HD : Hid _ := HD
        replace hz : Hid _ := hz
        go_wp2_with (go_at_call 53; refine Calls.mono hbit ?_; rintro e w' ⟨rfl, rfl⟩)
        go_round
        case rel => exact ⟨k, by omega, by go_num, HD⟩
        case measure => simp [intOf]
      · have HT := bits_top hv.out hz
        have e1 : val 65536 xs / 2 ^ k % 2 = 1 := by omega
        rw [e1] at hbit
        replace HT : Hid _ := HT
        replace hz : Hid _ := hz
        replace e1 : Hid _ := e1
        go_wp2_with (go_at_call 53; refine Calls.mono hbit ?_; rintro e w' ⟨rfl, rfl⟩)
        go_ret
        exact ⟨k + 1, by go_num, ⟨H.out, .inr HT.out⟩, hB⟩
end Go.Proofs.Ytdcjgepgiaaaoaa
