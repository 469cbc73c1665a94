/- Parse where it refuses; Int64. -/
import Derived.Test.YtclokcoimdjaeaaGreatDoorOutm
import Derived.Test.YtclokcoimdjaeaaGreatDoorKrm
namespace Go.Proofs.YtclokcoimdjaeaaGreatDoor
open Go.RowKit
attribute [local go_sem ↓] Go.wp_at_zero Go.wp_at_succ
/-- Nothing is answered. -/
def NoneR (w w' : World) (e : Ending) : Prop := e = .returned (.tuple #[.agg #[.bool false, .slice none 0 0], .bool false]) ∧ Below w.heap.size w w'
set_option maxRecDepth 20000 in
set_option maxHeartbeats 1000000 in
theorem Parse_empty (s : ByteArray) (b : Int) (w : World) (hs0 : s.toList.isEmpty = true) :
    Calls Tryz.prog 130 #[.string s, .int .i64 b] w fun e w' => NoneR w w' e := by
  go_enter Tryz.func130, Tryz.ntmps130
  go_wp2
  exact bodyPost_ret (v := .tuple #[.agg #[.bool false, .slice none 0 0], .bool false]) (by simp [results, Tryz.results130, go_sem]) rfl ⟨rfl, (Below.refl _ _).alloc (Nat.le_refl _) _⟩
set_option maxRecDepth 20000 in
set_option maxHeartbeats 1000000 in
theorem Parse_base (s : ByteArray) (b : Int) (w : World) (hse : s.toList.isEmpty = false) (hb : baseB b = false) :
    Calls Tryz.prog 130 #[.string s, .int .i64 b] w fun e w' => NoneR w w' e := by
  go_enter Tryz.func130, Tryz.ntmps130
  go_wp2_with (go_at_call 195; refine (validBase_any _ _).mono ?_; rintro e w' ⟨rfl, rfl⟩)
  exact bodyPost_ret (v := .tuple #[.agg #[.bool false, .slice none 0 0], .bool false]) (by simp [results, Tryz.results130, go_sem]) rfl ⟨rfl, (Below.refl _ _).alloc (Nat.le_refl _) _⟩
set_option maxRecDepth 20000 in
set_option maxHeartbeats 4000000 in
theorem Parse_digit (s : ByteArray) (b : Int) (j : Nat) (w : World) (hb : b = 2 ∨ b = 8 ∨ b = 10 ∨ b = 16) (hs1 : s.size ≤ 100000) (hj : j < s.size) (hd : ∀ k (h : k < s.size), k < j → digitI ((s[k]'h).toNat : Int) < b) (hbad : b ≤ digitI ((s[j]'hj).toNat : Int)) :
    Calls Tryz.prog 130 #[.string s, .int .i64 b] w fun e w' => NoneR w w' e := by
  have hbB : baseB b = true := by unfold baseB; simpa using hb
  have hb0 : 2 ≤ b := by omega
  have hb1 : b ≤ 16 := by omega
  replace hd : Hid _ := hd
  replace hbad : Hid _ := hbad
  clear hb
  have hse := toList_nonempty s (by omega)
  obtain ⟨W, hW⟩ : ∃ W, W = w.alloc (.cells #[.bool false, .slice none 0 0] 28) := ⟨_, rfl⟩
  have hbW : Below w.heap.size w W := by rw [hW]; exact (Below.refl _ _).alloc (Nat.le_refl _) _
  have hlt : w.heap.size < W.heap.size := by rw [hW]; simp
  have c4 : W.cell? ⟨w.heap.size, 0, none⟩ = some (.bool false) := by rw [hW]; simp [go_sem]
  have c5 : W.cell? ⟨w.heap.size, 1, none⟩ = some (.slice none 0 0) := by rw [hW]; simp [go_sem]
  have f4 : W.frozen? ⟨w.heap.size, 0, none⟩ = false := by rw [hW]; simp [go_sem]
  have f5 : W.frozen? ⟨w.heap.size, 1, none⟩ = false := by rw [hW]; simp [go_sem]
  replace hW : Hid _ := hW
  go_enter Tryz.func130, Tryz.ntmps130
  go_wp2_with (go_at_call 195; refine (validBase_any _ _).mono ?_; rintro e w' ⟨rfl, rfl⟩)
  rw [← hW.out]
  clear hW
  go_loopw [6, 7, 8, 24] (fun mg c sc i wr => ∃ (k : Nat) (a : Option Addr) (cap : Nat) (zs : List Int) (cc ss : Int), k ≤ j ∧ i = .int .i64 k ∧ mg = .slice a zs.length cap ∧ c = .int .u64 cc ∧ sc = .int .u64 ss ∧ Own wr W.heap.size .u32 139 4294967296 a cap zs ∧ zs.length ≤ k ∧ 0 ≤ cc ∧ cc < ss ∧ 1 ≤ ss ∧ ss * b ≤ 4294967296 ∧ Below W.heap.size W wr) (fun _ _ _ i _ => s.size - (intOf i).toNat)
  case atStart => exact ⟨0, none, 0, [], 0, 1, Nat.zero_le _, rfl, rfl, rfl, rfl, Own.empty _ _ _ _ _, by simp, by omega, by omega, by omega, by omega, Below.refl _ _⟩
  case round =>
    obtain ⟨k, a, cap, zs, cc, ss, hk, rfl, rfl, rfl, rfl, hown, hzl, hc0, hc1, hs2, hs3, hbel⟩ := hrel
    have hss : ss ≤ ss * b := by
      have := Int.mul_le_mul_of_nonneg_left (show (1 : Int) ≤ b by omega) (show 0 ≤ ss by omega)
      omega
    have hlk : k < s.size := by omega
    by_cases hkj : k < j
    · have hdk := hd.out k hlk hkj
      have hdr := digitI_rng ((s[k]'hlk).toNat : Int)
      have hbyte : ((s[k]'hlk).toNat : Int) ≤ 255 := by have := (s[k]'hlk).toNat_lt; omega
      generalize hcd : digitI ((s[k]'hlk).toNat : Int) = d at *
      have h1 : 0 ≤ cc * b := Int.mul_nonneg hc0 (by omega)
      have h2 : cc * b + b ≤ ss * b := by
        have : (cc + 1) * b ≤ ss * b := Int.mul_le_mul_of_nonneg_right (by omega) (by omega)
        rw [Int.add_mul] at this; omega
      have h3 : ss * b * b ≤ 68719476736 := by
        have e1 : ss * b * b ≤ 4294967296 * b := Int.mul_le_mul_of_nonneg_right hs3 (by omega)
        omega
      have h4 : 0 ≤ ss * b * b := Int.mul_nonneg (by omega) (by omega)
      replace hcd : Hid _ := hcd
      by_cases hfl : 4294967296 < ss * b * b
      · go_wp2_with (first
          | (go_at_call 196; refine (digitOf_any _ _ (by omega) hbyte).mono ?_; rintro e w' ⟨rfl, rfl⟩; rw [hcd.out])
          | (go_at_call 197; refine (scaleAndAdd_any (ss * b) (cc * b + d) W.heap.size a cap zs _ hown hbel.size (by omega) (by omega) (by omega) (by omega) (by omega)).mono ?_; rintro e w1 ⟨a', cap', zs', rfl, hown', hv', hl', hb'⟩; replace hv' : Hid _ := hv'))
        go_roundw
        case rel => exact ⟨k + 1, a', cap', zs', 0, 1, by omega, by go_num, rfl, rfl, rfl, hown', by omega, by omega, by omega, by omega, by omega, hbel.trans hb'⟩
        case measure => simp [intOf]; omega
      · go_wp2_with (first
          | (go_at_call 196; refine (digitOf_any _ _ (by omega) hbyte).mono ?_; rintro e w' ⟨rfl, rfl⟩; rw [hcd.out]))
        go_roundw
        case rel => exact ⟨k + 1, a, cap, zs, _, _, by omega, by go_num, rfl, rfl, rfl, hown, by omega, by omega, by omega, by omega, by omega, hbel⟩
        case measure => simp [intOf]; omega
    · obtain rfl : k = j := by omega
      have hbyte : ((s[k]'hlk).toNat : Int) ≤ 255 := by have := (s[k]'hlk).toNat_lt; omega
      have hdk := hbad.out
      clear hbad
      generalize hcd : digitI ((s[k]'hlk).toNat : Int) = d at *
      replace hcd : Hid _ := hcd
      have k4 := keep_cell hbel c4
      have k5 := keep_cell hbel c5
      have g4 := keep_frozen hbel c4 f4
      have g5 := keep_frozen hbel c5 f5
      go_wp2_with (first
          | (go_at_call 196; refine (digitOf_any _ _ (by omega) hbyte).mono ?_; rintro e w' ⟨rfl, rfl⟩; rw [hcd.out]))
      exact bodyPost_ret (v := .tuple #[.agg #[.bool false, .slice none 0 0], .bool false]) (by simp [results, Tryz.results130, go_sem, k4, k5]) rfl ⟨rfl, ((bthen hbW hbel).setCell (by simp) _).setCell (by simp) _⟩
/-- Is it a number's text? -/
def goodT (s : ByteArray) (b : Int) : Prop := 0 < s.size ∧ (b = 2 ∨ b = 8 ∨ b = 10 ∨ b = 16) ∧ ∀ k (h : k < s.size), digitI ((s[k]'h).toNat : Int) < b
/-- The first that is not so. -/
theorem first_not {p : Nat → Prop} {n : Nat} (h : ¬ ∀ k, k < n → p k) : ∃ j, j < n ∧ ¬ p j ∧ ∀ k, k < j → p k := by
  induction n with
  | zero => exact absurd (fun k hk => by omega) h
  | succ n ih =>
    by_cases h1 : ∀ k, k < n → p k
    · refine ⟨n, by omega, fun h2 => h fun k hk => ?_, h1⟩
      by_cases e : k = n
      · subst e; exact h2
      · exact h1 k (by omega)
    · obtain ⟨j, h2, h3, h4⟩ := ih h1
      exact ⟨j, by omega, h3, h4⟩
theorem isEmpty_of (s : ByteArray) (h : s.size = 0) : s.toList.isEmpty = true := by
  rw [ByteArray.toList_eq]
  have h' : s.data.toList.length = s.size := by simp
  rw [h] at h'
  rw [List.eq_nil_of_length_eq_zero h']
  rfl
theorem Parse_no (s : ByteArray) (b : Int) (w : World) (hs1 : s.size ≤ 100000) (hg : ¬ goodT s b) :
    Calls Tryz.prog 130 #[.string s, .int .i64 b] w fun e w' => NoneR w w' e := by
  by_cases h0 : s.size = 0
  · exact Parse_empty s b w (isEmpty_of s h0)
  · by_cases hb : b = 2 ∨ b = 8 ∨ b = 10 ∨ b = 16
    · obtain ⟨j, h1, h2, h3⟩ := first_not (p := fun k => ∀ h : k < s.size, digitI ((s[k]'h).toNat : Int) < b) (n := s.size) (fun h => hg ⟨by omega, hb, fun k hk => h k hk hk⟩)
      refine Parse_digit s b j w hb hs1 h1 (fun k h hk => h3 k hk h) ?_
      by_cases hc : digitI ((s[j]'h1).toNat : Int) < b
      · exact absurd (fun _ => hc) h2
      · exact Int.not_lt.1 hc
    · exact Parse_base s b w (toList_nonempty s (by omega)) (by unfold baseB; simpa using hb)
end Go.Proofs.YtclokcoimdjaeaaGreatDoor
namespace Go.Proofs.YtclokcoimdjaeaaGreatDoor
open Go.RowKit
attribute [local go_sem ↓] Go.wp_at_zero Go.wp_at_succ
end Go.Proofs.YtclokcoimdjaeaaGreatDoor
