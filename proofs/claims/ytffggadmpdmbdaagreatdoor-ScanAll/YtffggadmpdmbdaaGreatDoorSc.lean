/- scan: spans of bytes. -/
import Derived.Test.YtffggadmpdmbdaaGreatDoorSb
namespace Go.Proofs.YtffggadmpdmbdaaGreatDoor
open Go.RowKit
attribute [local go_sem ↓] Go.wp_at_zero Go.wp_at_succ
theorem toList_len (s : ByteArray) : s.toList.length = s.size := by rw [ByteArray.toList_eq]; simp
theorem drop_at (s : ByteArray) {k : Nat} (h : k < s.size) : s.toList.drop k = s[k] :: s.toList.drop (k + 1) := by
  rw [ByteArray.toList_eq]
  have h' : k < s.data.toList.length := by simpa using h
  rw [List.drop_eq_getElem_cons h']
  congr 1
theorem drop_end (s : ByteArray) {k : Nat} (h : s.size ≤ k) : s.toList.drop k = [] := by
  apply List.drop_eq_nil_of_le
  rw [toList_len]
  exact h
/-- How many bytes at the beginning are of a kind. -/
def spanL (p : Int → Bool) : List UInt8 → Nat
  | [] => 0
  | c :: l => if p (c.toNat : Int) then spanL p l + 1 else 0
theorem spanL_le (p : Int → Bool) (l : List UInt8) : spanL p l ≤ l.length := by
  induction l with
  | nil => exact Nat.le_refl _
  | cons c l ih =>
    unfold spanL
    split
    · simp; omega
    · simp
set_option maxRecDepth 20000 in
set_option maxHeartbeats 2000000 in
theorem span_inName (s : ByteArray) (w : World) (hs : s.size < 9223372036854775807) : Calls Tryz.prog 61 #[.string s, .func (.func 62) #[] #[]] w fun e w' => e = .returned (.int .i64 (spanL inNameB s.toList)) ∧ w' = w := by
  obtain ⟨S, hS⟩ : ∃ S, S = spanL inNameB s.toList := ⟨_, rfl⟩
  rw [← hS]
  have hS2 : S ≤ s.size := by rw [hS, ← toList_len]; exact spanL_le _ _
  go_enter Tryz.func61, Tryz.ntmps61
  go_wp2
  go_loopw [5] (fun n wr => ∃ k : Nat, n = .int .i64 k ∧ k ≤ s.size ∧ Hid (S = k + spanL inNameB (s.toList.drop k)) ∧ wr = w) (fun n _ => (s.size - intOf n).toNat)
  case atStart => exact ⟨0, rfl, Nat.zero_le _, by rw [List.drop_zero, Nat.zero_add]; exact hS, rfl⟩
  case round =>
    obtain ⟨k, rfl, hk, hI, rfl⟩ := hrel
    by_cases hlt : k < s.size
    · have d1 : decide ((k : Int) < s.size) = true := decide_eq_true (by omega)
      have hc := drop_at s hlt
      replace hc : Hid _ := hc
      have kb : Hid _ := fun w => inName_any ((s[k]'hlt).toNat : Int) w
      go_wp2_with fail
      refine Calls.mono (kb.out _) ?_
      rintro e w2 ⟨rfl, rfl⟩
      have hI' := hI.out
      rw [hc.out] at hI'
      unfold spanL at hI'
      cases hb : inNameB ((s[k]'hlt).toNat : Int) with
      | true =>
        rw [hb, if_pos rfl] at hI'
        go_wp2
        go_roundw
        case rel => exact ⟨k + 1, by go_num, by omega, by show _ = _; omega, by first | trivial | rfl⟩
        case measure => simp [intOf]; omega
      | false =>
        rw [hb, if_neg (by decide)] at hI'
        go_wp2
        go_ret
        exact ⟨by rw [hI']; rfl, rfl⟩
    · have d1 : decide ((k : Int) < s.size) = false := decide_eq_false (by omega)
      have hI' := hI.out
      rw [drop_end s (by omega)] at hI'
      go_wp2
      go_ret
      exact ⟨by rw [hI']; rfl, rfl⟩
set_option maxRecDepth 20000 in
set_option maxHeartbeats 2000000 in
theorem span_isDigit (s : ByteArray) (w : World) (hs : s.size < 9223372036854775807) : Calls Tryz.prog 61 #[.string s, .func (.func 54) #[] #[]] w fun e w' => e = .returned (.int .i64 (spanL isDigitB s.toList)) ∧ w' = w := by
  obtain ⟨S, hS⟩ : ∃ S, S = spanL isDigitB s.toList := ⟨_, rfl⟩
  rw [← hS]
  have hS2 : S ≤ s.size := by rw [hS, ← toList_len]; exact spanL_le _ _
  go_enter Tryz.func61, Tryz.ntmps61
  go_wp2
  go_loopw [5] (fun n wr => ∃ k : Nat, n = .int .i64 k ∧ k ≤ s.size ∧ Hid (S = k + spanL isDigitB (s.toList.drop k)) ∧ wr = w) (fun n _ => (s.size - intOf n).toNat)
  case atStart => exact ⟨0, rfl, Nat.zero_le _, by rw [List.drop_zero, Nat.zero_add]; exact hS, rfl⟩
  case round =>
    obtain ⟨k, rfl, hk, hI, rfl⟩ := hrel
    by_cases hlt : k < s.size
    · have d1 : decide ((k : Int) < s.size) = true := decide_eq_true (by omega)
      have hc := drop_at s hlt
      replace hc : Hid _ := hc
      have kb : Hid _ := fun w => isDigit_any ((s[k]'hlt).toNat : Int) w
      go_wp2_with fail
      refine Calls.mono (kb.out _) ?_
      rintro e w2 ⟨rfl, rfl⟩
      have hI' := hI.out
      rw [hc.out] at hI'
      unfold spanL at hI'
      cases hb : isDigitB ((s[k]'hlt).toNat : Int) with
      | true =>
        rw [hb, if_pos rfl] at hI'
        go_wp2
        go_roundw
        case rel => exact ⟨k + 1, by go_num, by omega, by show _ = _; omega, by first | trivial | rfl⟩
        case measure => simp [intOf]; omega
      | false =>
        rw [hb, if_neg (by decide)] at hI'
        go_wp2
        go_ret
        exact ⟨by rw [hI']; rfl, rfl⟩
    · have d1 : decide ((k : Int) < s.size) = false := decide_eq_false (by omega)
      have hI' := hI.out
      rw [drop_end s (by omega)] at hI'
      go_wp2
      go_ret
      exact ⟨by rw [hI']; rfl, rfl⟩
set_option maxRecDepth 20000 in
set_option maxHeartbeats 2000000 in
theorem span_isOctal (s : ByteArray) (w : World) (hs : s.size < 9223372036854775807) : Calls Tryz.prog 61 #[.string s, .func (.func 72) #[] #[]] w fun e w' => e = .returned (.int .i64 (spanL isOctalB s.toList)) ∧ w' = w := by
  obtain ⟨S, hS⟩ : ∃ S, S = spanL isOctalB s.toList := ⟨_, rfl⟩
  rw [← hS]
  have hS2 : S ≤ s.size := by rw [hS, ← toList_len]; exact spanL_le _ _
  go_enter Tryz.func61, Tryz.ntmps61
  go_wp2
  go_loopw [5] (fun n wr => ∃ k : Nat, n = .int .i64 k ∧ k ≤ s.size ∧ Hid (S = k + spanL isOctalB (s.toList.drop k)) ∧ wr = w) (fun n _ => (s.size - intOf n).toNat)
  case atStart => exact ⟨0, rfl, Nat.zero_le _, by rw [List.drop_zero, Nat.zero_add]; exact hS, rfl⟩
  case round =>
    obtain ⟨k, rfl, hk, hI, rfl⟩ := hrel
    by_cases hlt : k < s.size
    · have d1 : decide ((k : Int) < s.size) = true := decide_eq_true (by omega)
      have hc := drop_at s hlt
      replace hc : Hid _ := hc
      have kb : Hid _ := fun w => isOctal_any ((s[k]'hlt).toNat : Int) w
      go_wp2_with fail
      refine Calls.mono (kb.out _) ?_
      rintro e w2 ⟨rfl, rfl⟩
      have hI' := hI.out
      rw [hc.out] at hI'
      unfold spanL at hI'
      cases hb : isOctalB ((s[k]'hlt).toNat : Int) with
      | true =>
        rw [hb, if_pos rfl] at hI'
        go_wp2
        go_roundw
        case rel => exact ⟨k + 1, by go_num, by omega, by show _ = _; omega, by first | trivial | rfl⟩
        case measure => simp [intOf]; omega
      | false =>
        rw [hb, if_neg (by decide)] at hI'
        go_wp2
        go_ret
        exact ⟨by rw [hI']; rfl, rfl⟩
    · have d1 : decide ((k : Int) < s.size) = false := decide_eq_false (by omega)
      have hI' := hI.out
      rw [drop_end s (by omega)] at hI'
      go_wp2
      go_ret
      exact ⟨by rw [hI']; rfl, rfl⟩
set_option maxRecDepth 20000 in
set_option maxHeartbeats 2000000 in
theorem span_isBinary (s : ByteArray) (w : World) (hs : s.size < 9223372036854775807) : Calls Tryz.prog 61 #[.string s, .func (.func 73) #[] #[]] w fun e w' => e = .returned (.int .i64 (spanL isBinaryB s.toList)) ∧ w' = w := by
  obtain ⟨S, hS⟩ : ∃ S, S = spanL isBinaryB s.toList := ⟨_, rfl⟩
  rw [← hS]
  have hS2 : S ≤ s.size := by rw [hS, ← toList_len]; exact spanL_le _ _
  go_enter Tryz.func61, Tryz.ntmps61
  go_wp2
  go_loopw [5] (fun n wr => ∃ k : Nat, n = .int .i64 k ∧ k ≤ s.size ∧ Hid (S = k + spanL isBinaryB (s.toList.drop k)) ∧ wr = w) (fun n _ => (s.size - intOf n).toNat)
  case atStart => exact ⟨0, rfl, Nat.zero_le _, by rw [List.drop_zero, Nat.zero_add]; exact hS, rfl⟩
  case round =>
    obtain ⟨k, rfl, hk, hI, rfl⟩ := hrel
    by_cases hlt : k < s.size
    · have d1 : decide ((k : Int) < s.size) = true := decide_eq_true (by omega)
      have hc := drop_at s hlt
      replace hc : Hid _ := hc
      have kb : Hid _ := fun w => isBinary_any ((s[k]'hlt).toNat : Int) w
      go_wp2_with fail
      refine Calls.mono (kb.out _) ?_
      rintro e w2 ⟨rfl, rfl⟩
      have hI' := hI.out
      rw [hc.out] at hI'
      unfold spanL at hI'
      cases hb : isBinaryB ((s[k]'hlt).toNat : Int) with
      | true =>
        rw [hb, if_pos rfl] at hI'
        go_wp2
        go_roundw
        case rel => exact ⟨k + 1, by go_num, by omega, by show _ = _; omega, by first | trivial | rfl⟩
        case measure => simp [intOf]; omega
      | false =>
        rw [hb, if_neg (by decide)] at hI'
        go_wp2
        go_ret
        exact ⟨by rw [hI']; rfl, rfl⟩
    · have d1 : decide ((k : Int) < s.size) = false := decide_eq_false (by omega)
      have hI' := hI.out
      rw [drop_end s (by omega)] at hI'
      go_wp2
      go_ret
      exact ⟨by rw [hI']; rfl, rfl⟩
set_option maxRecDepth 20000 in
set_option maxHeartbeats 2000000 in
theorem span_isHex (s : ByteArray) (w : World) (hs : s.size < 9223372036854775807) : Calls Tryz.prog 61 #[.string s, .func (.func 79) #[] #[]] w fun e w' => e = .returned (.int .i64 (spanL isHexB s.toList)) ∧ w' = w := by
  obtain ⟨S, hS⟩ : ∃ S, S = spanL isHexB s.toList := ⟨_, rfl⟩
  rw [← hS]
  have hS2 : S ≤ s.size := by rw [hS, ← toList_len]; exact spanL_le _ _
  go_enter Tryz.func61, Tryz.ntmps61
  go_wp2
  go_loopw [5] (fun n wr => ∃ k : Nat, n = .int .i64 k ∧ k ≤ s.size ∧ Hid (S = k + spanL isHexB (s.toList.drop k)) ∧ wr = w) (fun n _ => (s.size - intOf n).toNat)
  case atStart => exact ⟨0, rfl, Nat.zero_le _, by rw [List.drop_zero, Nat.zero_add]; exact hS, rfl⟩
  case round =>
    obtain ⟨k, rfl, hk, hI, rfl⟩ := hrel
    by_cases hlt : k < s.size
    · have d1 : decide ((k : Int) < s.size) = true := decide_eq_true (by omega)
      have hc := drop_at s hlt
      replace hc : Hid _ := hc
      have kb : Hid _ := fun w => isHex_any ((s[k]'hlt).toNat : Int) w
      go_wp2_with fail
      refine Calls.mono (kb.out _) ?_
      rintro e w2 ⟨rfl, rfl⟩
      have hI' := hI.out
      rw [hc.out] at hI'
      unfold spanL at hI'
      cases hb : isHexB ((s[k]'hlt).toNat : Int) with
      | true =>
        rw [hb, if_pos rfl] at hI'
        go_wp2
        go_roundw
        case rel => exact ⟨k + 1, by go_num, by omega, by show _ = _; omega, by first | trivial | rfl⟩
        case measure => simp [intOf]; omega
      | false =>
        rw [hb, if_neg (by decide)] at hI'
        go_wp2
        go_ret
        exact ⟨by rw [hI']; rfl, rfl⟩
    · have d1 : decide ((k : Int) < s.size) = false := decide_eq_false (by omega)
      have hI' := hI.out
      rw [drop_end s (by omega)] at hI'
      go_wp2
      go_ret
      exact ⟨by rw [hI']; rfl, rfl⟩
end Go.Proofs.YtffggadmpdmbdaaGreatDoor
