/- scan: bytes and their kinds. -/
import Derived.Test.YtfbacidpjpghiaaGreatDoorChecked
import Derived.WalkKit
import Derived.WalkSpells
import Derived.WalkLawsBesides
import Derived.Outline
import Derived.Deep.QuietTactic
import Derived.BigQuiet
import Derived.OpenShut
import Derived.Below
import Derived.Deep.DrawnRows
import Derived.Test.YtfbacidpjpghiaaGreatDoorBasem
import Derived.Test.YtfbacidpjpghiaaGreatDoorStpm
namespace Go.Proofs.YtfbacidpjpghiaaGreatDoor
open Go.RowKit
attribute [local go_sem ↓] Go.wp_at_zero Go.wp_at_succ
/-- Kinds of bytes. -/
def isSpaceB (c : Int) : Bool := decide (c = 32 ∨ c = 9 ∨ c = 13)
def isLetterB (c : Int) : Bool := decide ((97 ≤ c ∧ c ≤ 122) ∨ (65 ≤ c ∧ c ≤ 90) ∨ c = 95)
def isDigitB (c : Int) : Bool := decide (48 ≤ c ∧ c ≤ 57)
def inNameB (c : Int) : Bool := isLetterB c || isDigitB c
def isOctalB (c : Int) : Bool := decide (48 ≤ c ∧ c ≤ 55)
def isBinaryB (c : Int) : Bool := decide (c = 48 ∨ c = 49)
def isHexB (c : Int) : Bool := isDigitB c || decide ((97 ≤ c ∧ c ≤ 102) ∨ (65 ≤ c ∧ c ≤ 70))
set_option maxHeartbeats 1000000 in
theorem isSpace_any (c : Int) (w : World) : Calls Tryz.prog 37 #[.int .u8 c] w fun e w' => e = .returned (.bool (isSpaceB c)) ∧ w' = w := by
  go_enter Tryz.func37, Tryz.ntmps37
  go_wp2
  all_goals go_ret
  all_goals refine ⟨congrArg (fun b => Ending.returned (.bool b)) ?_, rfl⟩
  all_goals rw [Bool.eq_iff_iff]
  all_goals simp [isSpaceB]
  all_goals omega
set_option maxHeartbeats 1000000 in
theorem isLetter_any (c : Int) (w : World) : Calls Tryz.prog 72 #[.int .u8 c] w fun e w' => e = .returned (.bool (isLetterB c)) ∧ w' = w := by
  go_enter Tryz.func72, Tryz.ntmps72
  go_wp2
  all_goals go_ret
  all_goals refine ⟨congrArg (fun b => Ending.returned (.bool b)) ?_, rfl⟩
  all_goals rw [Bool.eq_iff_iff]
  all_goals simp [isLetterB]
  all_goals omega
set_option maxHeartbeats 1000000 in
theorem isDigit_any (c : Int) (w : World) : Calls Tryz.prog 74 #[.int .u8 c] w fun e w' => e = .returned (.bool (isDigitB c)) ∧ w' = w := by
  go_enter Tryz.func74, Tryz.ntmps74
  go_wp2
  all_goals go_ret
  all_goals refine ⟨congrArg (fun b => Ending.returned (.bool b)) ?_, rfl⟩
  all_goals rw [Bool.eq_iff_iff]
  all_goals simp [isDigitB]
  all_goals omega
set_option maxHeartbeats 1000000 in
theorem isOctal_any (c : Int) (w : World) : Calls Tryz.prog 107 #[.int .u8 c] w fun e w' => e = .returned (.bool (isOctalB c)) ∧ w' = w := by
  go_enter Tryz.func107, Tryz.ntmps107
  go_wp2
  all_goals go_ret
  all_goals refine ⟨congrArg (fun b => Ending.returned (.bool b)) ?_, rfl⟩
  all_goals rw [Bool.eq_iff_iff]
  all_goals simp [isOctalB]
  all_goals omega
set_option maxHeartbeats 1000000 in
theorem isBinary_any (c : Int) (w : World) : Calls Tryz.prog 108 #[.int .u8 c] w fun e w' => e = .returned (.bool (isBinaryB c)) ∧ w' = w := by
  go_enter Tryz.func108, Tryz.ntmps108
  go_wp2
  all_goals go_ret
  all_goals refine ⟨congrArg (fun b => Ending.returned (.bool b)) ?_, rfl⟩
  all_goals rw [Bool.eq_iff_iff]
  all_goals simp [isBinaryB]
  all_goals omega
theorem inName_any (c : Int) (w : World) : Calls Tryz.prog 93 #[.int .u8 c] w fun e w' => e = .returned (.bool (inNameB c)) ∧ w' = w := by
  have hb : Hid (inNameB c = (isLetterB c || isDigitB c)) := rfl
  go_enter Tryz.func93, Tryz.ntmps93
  go_wp2_with fail
  refine Calls.mono (isLetter_any c _) ?_
  rintro e w1 ⟨rfl, rfl⟩
  cases h : isLetterB c with
  | true =>
    go_wp2
    go_ret
    exact ⟨by rw [hb.out, h]; rfl, rfl⟩
  | false =>
    go_wp2_with fail
    refine Calls.mono (isDigit_any c _) ?_
    rintro e w2 ⟨rfl, rfl⟩
    go_wp2
    go_ret
    exact ⟨by rw [hb.out, h]; rfl, rfl⟩
theorem isHex_any (c : Int) (w : World) : Calls Tryz.prog 116 #[.int .u8 c] w fun e w' => e = .returned (.bool (isHexB c)) ∧ w' = w := by
  have hb : Hid (isHexB c = (isDigitB c || decide ((97 ≤ c ∧ c ≤ 102) ∨ (65 ≤ c ∧ c ≤ 70)))) := rfl
  go_enter Tryz.func116, Tryz.ntmps116
  go_wp2_with fail
  refine Calls.mono (isDigit_any c _) ?_
  rintro e w1 ⟨rfl, rfl⟩
  cases h : isDigitB c with
  | true =>
    go_wp2
    go_ret
    exact ⟨by rw [hb.out, h]; rfl, rfl⟩
  | false =>
    go_wp2
    all_goals go_ret
    all_goals refine ⟨congrArg (fun b => Ending.returned (.bool b)) ?_, rfl⟩
    all_goals rw [hb.out, h, Bool.eq_iff_iff]
    all_goals simp
    all_goals omega
end Go.Proofs.YtfbacidpjpghiaaGreatDoor
namespace Go.Proofs.YtfbacidpjpghiaaGreatDoor
open Go.RowKit
attribute [local go_sem ↓] Go.wp_at_zero Go.wp_at_succ
def wordB (l : List UInt8) : Bool := l == [98, 114, 101, 97, 107] || l == [99, 97, 115, 101] || l == [99, 104, 97, 110] || l == [99, 111, 110, 115, 116] || l == [99, 111, 110, 116, 105, 110, 117, 101] || l == [100, 101, 102, 97, 117, 108, 116] || l == [100, 101, 102, 101, 114] || l == [101, 108, 115, 101] || l == [102, 97, 108, 108, 116, 104, 114, 111, 117, 103, 104] || l == [102, 111, 114] || l == [102, 117, 110, 99] || l == [103, 111] || l == [103, 111, 116, 111] || l == [105, 102] || l == [105, 109, 112, 111, 114, 116] || l == [105, 110, 116, 101, 114, 102, 97, 99, 101] || l == [109, 97, 112] || l == [112, 97, 99, 107, 97, 103, 101] || l == [114, 97, 110, 103, 101] || l == [114, 101, 116, 117, 114, 110] || l == [115, 101, 108, 101, 99, 116] || l == [115, 116, 114, 117, 99, 116] || l == [115, 119, 105, 116, 99, 104] || l == [116, 121, 112, 101] || l == [118, 97, 114]
def opB (l : List UInt8) : Bool := l == [43] || l == [45] || l == [42] || l == [47] || l == [37] || l == [38] || l == [124] || l == [94] || l == [38, 94] || l == [43, 61] || l == [45, 61] || l == [42, 61] || l == [47, 61] || l == [37, 61] || l == [38, 61] || l == [124, 61] || l == [94, 61] || l == [38, 94, 61] || l == [38, 38] || l == [124, 124] || l == [61, 61] || l == [33, 61] || l == [60] || l == [60, 61] || l == [62] || l == [62, 61] || l == [33] || l == [40] || l == [41] || l == [91] || l == [93] || l == [123] || l == [125] || l == [44] || l == [46] || l == [58, 61] || l == [61] || l == [43, 43] || l == [45, 45] || l == [126] || l == [58]
set_option maxRecDepth 20000 in
set_option maxHeartbeats 4000000 in
theorem Word_any (s : ByteArray) (w : World) : Calls Tryz.prog 94 #[.string s] w fun e w' => e = .returned (.bool (wordB s.toList)) ∧ w' = w := by
  generalize hl : s.toList = l
  go_enter Tryz.func94, Tryz.ntmps94
  go_wp2
  all_goals go_ret
  all_goals first
    | (exfalso; simp_all; done)
    | (refine ⟨congrArg (fun b => Ending.returned (.bool b)) ?_, rfl⟩; simp_all [wordB]; done)
set_option maxRecDepth 20000 in
set_option maxHeartbeats 4000000 in
theorem isOperator_any (s : ByteArray) (w : World) : Calls Tryz.prog 97 #[.string s] w fun e w' => e = .returned (.bool (opB s.toList)) ∧ w' = w := by
  generalize hl : s.toList = l
  go_enter Tryz.func97, Tryz.ntmps97
  go_wp2
  all_goals go_ret
  all_goals first
    | (exfalso; simp_all; done)
    | (refine ⟨congrArg (fun b => Ending.returned (.bool b)) ?_, rfl⟩; simp_all [opB]; done)
end Go.Proofs.YtfbacidpjpghiaaGreatDoor
namespace Go.Proofs.YtfbacidpjpghiaaGreatDoor
open Go.RowKit
attribute [local go_sem ↓] Go.wp_at_zero Go.wp_at_succ
theorem toList_len (s : ByteArray) : s.toList.length = s.size := by rw [ByteArray.toList_eq]; simp
theorem drop_at (s : ByteArray) {k : Nat} (h : k < s.size) : s.toList.drop k = s[k] :: s.toList.drop (k + 1) := by
  rw [ByteArray.toList_eq]
  have h' : k < s.data.toList.length := by simpa using h
  rw [List.drop_eq_getElem_cons h']
  congr 1
theorem drop_end (s : ByteArray) {k : Nat} (h : s.size ≤ k) : s.toList.drop k = [] := by
  apply List.drop_eq_nil_of_le
  rw [toList_len]
  exact h
/-- How many bytes at the beginning are of a kind. -/
def spanL (p : Int → Bool) : List UInt8 → Nat
  | [] => 0
  | c :: l => if p (c.toNat : Int) then spanL p l + 1 else 0
theorem spanL_le (p : Int → Bool) (l : List UInt8) : spanL p l ≤ l.length := by
  induction l with
  | nil => exact Nat.le_refl _
  | cons c l ih =>
    unfold spanL
    split
    · simp; omega
    · simp
set_option maxRecDepth 20000 in
set_option maxHeartbeats 2000000 in
theorem span_inName (s : ByteArray) (w : World) (hs : s.size < 9223372036854775807) : Calls Tryz.prog 92 #[.string s, .func (.func 93) #[] #[]] w fun e w' => e = .returned (.int .i64 (spanL inNameB s.toList)) ∧ w' = w := by
  obtain ⟨S, hS⟩ : ∃ S, S = spanL inNameB s.toList := ⟨_, rfl⟩
  rw [← hS]
  have hS2 : S ≤ s.size := by rw [hS, ← toList_len]; exact spanL_le _ _
  go_enter Tryz.func92, Tryz.ntmps92
  go_wp2
  go_loopw [5] (fun n wr => ∃ k : Nat, n = .int .i64 k ∧ k ≤ s.size ∧ Hid (S = k + spanL inNameB (s.toList.drop k)) ∧ wr = w) (fun n _ => (s.size - intOf n).toNat)
  case atStart => exact ⟨0, rfl, Nat.zero_le _, by rw [List.drop_zero, Nat.zero_add]; exact hS, rfl⟩
  case round =>
    obtain ⟨k, rfl, hk, hI, rfl⟩ := hrel
    by_cases hlt : k < s.size
    · have d1 : decide ((k : Int) < s.size) = true := decide_eq_true (by omega)
      have hc := drop_at s hlt
      replace hc : Hid _ := hc
      have kb : Hid _ := fun w => inName_any ((s[k]'hlt).toNat : Int) w
      go_wp2_with fail
      refine Calls.mono (kb.out _) ?_
      rintro e w2 ⟨rfl, rfl⟩
      have hI' := hI.out
      rw [hc.out] at hI'
      unfold spanL at hI'
      cases hb : inNameB ((s[k]'hlt).toNat : Int) with
      | true =>
        rw [hb, if_pos rfl] at hI'
        go_wp2
        go_roundw
        case rel => exact ⟨k + 1, by go_num, by omega, by show _ = _; omega, by first | trivial | rfl⟩
        case measure => simp [intOf]; omega
      | false =>
        rw [hb, if_neg (by decide)] at hI'
        go_wp2
        go_ret
        exact ⟨by rw [hI']; rfl, rfl⟩
    · have d1 : decide ((k : Int) < s.size) = false := decide_eq_false (by omega)
      have hI' := hI.out
      rw [drop_end s (by omega)] at hI'
      go_wp2
      go_ret
      exact ⟨by rw [hI']; rfl, rfl⟩
set_option maxRecDepth 20000 in
set_option maxHeartbeats 2000000 in
theorem span_isDigit (s : ByteArray) (w : World) (hs : s.size < 9223372036854775807) : Calls Tryz.prog 92 #[.string s, .func (.func 74) #[] #[]] w fun e w' => e = .returned (.int .i64 (spanL isDigitB s.toList)) ∧ w' = w := by
  obtain ⟨S, hS⟩ : ∃ S, S = spanL isDigitB s.toList := ⟨_, rfl⟩
  rw [← hS]
  have hS2 : S ≤ s.size := by rw [hS, ← toList_len]; exact spanL_le _ _
  go_enter Tryz.func92, Tryz.ntmps92
  go_wp2
  go_loopw [5] (fun n wr => ∃ k : Nat, n = .int .i64 k ∧ k ≤ s.size ∧ Hid (S = k + spanL isDigitB (s.toList.drop k)) ∧ wr = w) (fun n _ => (s.size - intOf n).toNat)
  case atStart => exact ⟨0, rfl, Nat.zero_le _, by rw [List.drop_zero, Nat.zero_add]; exact hS, rfl⟩
  case round =>
    obtain ⟨k, rfl, hk, hI, rfl⟩ := hrel
    by_cases hlt : k < s.size
    · have d1 : decide ((k : Int) < s.size) = true := decide_eq_true (by omega)
      have hc := drop_at s hlt
      replace hc : Hid _ := hc
      have kb : Hid _ := fun w => isDigit_any ((s[k]'hlt).toNat : Int) w
      go_wp2_with fail
      refine Calls.mono (kb.out _) ?_
      rintro e w2 ⟨rfl, rfl⟩
      have hI' := hI.out
      rw [hc.out] at hI'
      unfold spanL at hI'
      cases hb : isDigitB ((s[k]'hlt).toNat : Int) with
      | true =>
        rw [hb, if_pos rfl] at hI'
        go_wp2
        go_roundw
        case rel => exact ⟨k + 1, by go_num, by omega, by show _ = _; omega, by first | trivial | rfl⟩
        case measure => simp [intOf]; omega
      | false =>
        rw [hb, if_neg (by decide)] at hI'
        go_wp2
        go_ret
        exact ⟨by rw [hI']; rfl, rfl⟩
    · have d1 : decide ((k : Int) < s.size) = false := decide_eq_false (by omega)
      have hI' := hI.out
      rw [drop_end s (by omega)] at hI'
      go_wp2
      go_ret
      exact ⟨by rw [hI']; rfl, rfl⟩
set_option maxRecDepth 20000 in
set_option maxHeartbeats 2000000 in
theorem span_isOctal (s : ByteArray) (w : World) (hs : s.size < 9223372036854775807) : Calls Tryz.prog 92 #[.string s, .func (.func 107) #[] #[]] w fun e w' => e = .returned (.int .i64 (spanL isOctalB s.toList)) ∧ w' = w := by
  obtain ⟨S, hS⟩ : ∃ S, S = spanL isOctalB s.toList := ⟨_, rfl⟩
  rw [← hS]
  have hS2 : S ≤ s.size := by rw [hS, ← toList_len]; exact spanL_le _ _
  go_enter Tryz.func92, Tryz.ntmps92
  go_wp2
  go_loopw [5] (fun n wr => ∃ k : Nat, n = .int .i64 k ∧ k ≤ s.size ∧ Hid (S = k + spanL isOctalB (s.toList.drop k)) ∧ wr = w) (fun n _ => (s.size - intOf n).toNat)
  case atStart => exact ⟨0, rfl, Nat.zero_le _, by rw [List.drop_zero, Nat.zero_add]; exact hS, rfl⟩
  case round =>
    obtain ⟨k, rfl, hk, hI, rfl⟩ := hrel
    by_cases hlt : k < s.size
    · have d1 : decide ((k : Int) < s.size) = true := decide_eq_true (by omega)
      have hc := drop_at s hlt
      replace hc : Hid _ := hc
      have kb : Hid _ := fun w => isOctal_any ((s[k]'hlt).toNat : Int) w
      go_wp2_with fail
      refine Calls.mono (kb.out _) ?_
      rintro e w2 ⟨rfl, rfl⟩
      have hI' := hI.out
      rw [hc.out] at hI'
      unfold spanL at hI'
      cases hb : isOctalB ((s[k]'hlt).toNat : Int) with
      | true =>
        rw [hb, if_pos rfl] at hI'
        go_wp2
        go_roundw
        case rel => exact ⟨k + 1, by go_num, by omega, by show _ = _; omega, by first | trivial | rfl⟩
        case measure => simp [intOf]; omega
      | false =>
        rw [hb, if_neg (by decide)] at hI'
        go_wp2
        go_ret
        exact ⟨by rw [hI']; rfl, rfl⟩
    · have d1 : decide ((k : Int) < s.size) = false := decide_eq_false (by omega)
      have hI' := hI.out
      rw [drop_end s (by omega)] at hI'
      go_wp2
      go_ret
      exact ⟨by rw [hI']; rfl, rfl⟩
set_option maxRecDepth 20000 in
set_option maxHeartbeats 2000000 in
theorem span_isBinary (s : ByteArray) (w : World) (hs : s.size < 9223372036854775807) : Calls Tryz.prog 92 #[.string s, .func (.func 108) #[] #[]] w fun e w' => e = .returned (.int .i64 (spanL isBinaryB s.toList)) ∧ w' = w := by
  obtain ⟨S, hS⟩ : ∃ S, S = spanL isBinaryB s.toList := ⟨_, rfl⟩
  rw [← hS]
  have hS2 : S ≤ s.size := by rw [hS, ← toList_len]; exact spanL_le _ _
  go_enter Tryz.func92, Tryz.ntmps92
  go_wp2
  go_loopw [5] (fun n wr => ∃ k : Nat, n = .int .i64 k ∧ k ≤ s.size ∧ Hid (S = k + spanL isBinaryB (s.toList.drop k)) ∧ wr = w) (fun n _ => (s.size - intOf n).toNat)
  case atStart => exact ⟨0, rfl, Nat.zero_le _, by rw [List.drop_zero, Nat.zero_add]; exact hS, rfl⟩
  case round =>
    obtain ⟨k, rfl, hk, hI, rfl⟩ := hrel
    by_cases hlt : k < s.size
    · have d1 : decide ((k : Int) < s.size) = true := decide_eq_true (by omega)
      have hc := drop_at s hlt
      replace hc : Hid _ := hc
      have kb : Hid _ := fun w => isBinary_any ((s[k]'hlt).toNat : Int) w
      go_wp2_with fail
      refine Calls.mono (kb.out _) ?_
      rintro e w2 ⟨rfl, rfl⟩
      have hI' := hI.out
      rw [hc.out] at hI'
      unfold spanL at hI'
      cases hb : isBinaryB ((s[k]'hlt).toNat : Int) with
      | true =>
        rw [hb, if_pos rfl] at hI'
        go_wp2
        go_roundw
        case rel => exact ⟨k + 1, by go_num, by omega, by show _ = _; omega, by first | trivial | rfl⟩
        case measure => simp [intOf]; omega
      | false =>
        rw [hb, if_neg (by decide)] at hI'
        go_wp2
        go_ret
        exact ⟨by rw [hI']; rfl, rfl⟩
    · have d1 : decide ((k : Int) < s.size) = false := decide_eq_false (by omega)
      have hI' := hI.out
      rw [drop_end s (by omega)] at hI'
      go_wp2
      go_ret
      exact ⟨by rw [hI']; rfl, rfl⟩
set_option maxRecDepth 20000 in
set_option maxHeartbeats 2000000 in
theorem span_isHex (s : ByteArray) (w : World) (hs : s.size < 9223372036854775807) : Calls Tryz.prog 92 #[.string s, .func (.func 116) #[] #[]] w fun e w' => e = .returned (.int .i64 (spanL isHexB s.toList)) ∧ w' = w := by
  obtain ⟨S, hS⟩ : ∃ S, S = spanL isHexB s.toList := ⟨_, rfl⟩
  rw [← hS]
  have hS2 : S ≤ s.size := by rw [hS, ← toList_len]; exact spanL_le _ _
  go_enter Tryz.func92, Tryz.ntmps92
  go_wp2
  go_loopw [5] (fun n wr => ∃ k : Nat, n = .int .i64 k ∧ k ≤ s.size ∧ Hid (S = k + spanL isHexB (s.toList.drop k)) ∧ wr = w) (fun n _ => (s.size - intOf n).toNat)
  case atStart => exact ⟨0, rfl, Nat.zero_le _, by rw [List.drop_zero, Nat.zero_add]; exact hS, rfl⟩
  case round =>
    obtain ⟨k, rfl, hk, hI, rfl⟩ := hrel
    by_cases hlt : k < s.size
    · have d1 : decide ((k : Int) < s.size) = true := decide_eq_true (by omega)
      have hc := drop_at s hlt
      replace hc : Hid _ := hc
      have kb : Hid _ := fun w => isHex_any ((s[k]'hlt).toNat : Int) w
      go_wp2_with fail
      refine Calls.mono (kb.out _) ?_
      rintro e w2 ⟨rfl, rfl⟩
      have hI' := hI.out
      rw [hc.out] at hI'
      unfold spanL at hI'
      cases hb : isHexB ((s[k]'hlt).toNat : Int) with
      | true =>
        rw [hb, if_pos rfl] at hI'
        go_wp2
        go_roundw
        case rel => exact ⟨k + 1, by go_num, by omega, by show _ = _; omega, by first | trivial | rfl⟩
        case measure => simp [intOf]; omega
      | false =>
        rw [hb, if_neg (by decide)] at hI'
        go_wp2
        go_ret
        exact ⟨by rw [hI']; rfl, rfl⟩
    · have d1 : decide ((k : Int) < s.size) = false := decide_eq_false (by omega)
      have hI' := hI.out
      rw [drop_end s (by omega)] at hI'
      go_wp2
      go_ret
      exact ⟨by rw [hI']; rfl, rfl⟩
end Go.Proofs.YtfbacidpjpghiaaGreatDoor
