/- scan: bytes and their kinds. -/
import Derived.Test.YtffggadmpdmbdaaDoorChecked
import Derived.WalkKit
import Derived.WalkSpells
import Derived.WalkLawsBesides
import Derived.Outline
import Derived.Deep.QuietTactic
import Derived.BigQuiet
import Derived.OpenShut
import Derived.Below
import Derived.Deep.DrawnRows
import Derived.Test.YtffggadmpdmbdaaDoorBase
import Derived.Test.YtffggadmpdmbdaaDoorStp
namespace Go.Proofs.YtffggadmpdmbdaaDoor
open Go.RowKit
attribute [local go_sem ↓] Go.wp_at_zero Go.wp_at_succ
/-- Kinds of bytes. -/
def isSpaceB (c : Int) : Bool := decide (c = 32 ∨ c = 9 ∨ c = 13)
def isLetterB (c : Int) : Bool := decide ((97 ≤ c ∧ c ≤ 122) ∨ (65 ≤ c ∧ c ≤ 90) ∨ c = 95)
def isDigitB (c : Int) : Bool := decide (48 ≤ c ∧ c ≤ 57)
def inNameB (c : Int) : Bool := isLetterB c || isDigitB c
def isOctalB (c : Int) : Bool := decide (48 ≤ c ∧ c ≤ 55)
def isBinaryB (c : Int) : Bool := decide (c = 48 ∨ c = 49)
def isHexB (c : Int) : Bool := isDigitB c || decide ((97 ≤ c ∧ c ≤ 102) ∨ (65 ≤ c ∧ c ≤ 70))
set_option maxHeartbeats 1000000 in
theorem isSpace_any (c : Int) (w : World) : Calls Tryd.prog 21 #[.int .u8 c] w fun e w' => e = .returned (.bool (isSpaceB c)) ∧ w' = w := by
  go_enter Tryd.func21, Tryd.ntmps21
  go_wp2
  all_goals go_ret
  all_goals refine ⟨congrArg (fun b => Ending.returned (.bool b)) ?_, rfl⟩
  all_goals rw [Bool.eq_iff_iff]
  all_goals simp [isSpaceB]
  all_goals omega
set_option maxHeartbeats 1000000 in
theorem isLetter_any (c : Int) (w : World) : Calls Tryd.prog 46 #[.int .u8 c] w fun e w' => e = .returned (.bool (isLetterB c)) ∧ w' = w := by
  go_enter Tryd.func46, Tryd.ntmps46
  go_wp2
  all_goals go_ret
  all_goals refine ⟨congrArg (fun b => Ending.returned (.bool b)) ?_, rfl⟩
  all_goals rw [Bool.eq_iff_iff]
  all_goals simp [isLetterB]
  all_goals omega
set_option maxHeartbeats 1000000 in
theorem isDigit_any (c : Int) (w : World) : Calls Tryd.prog 48 #[.int .u8 c] w fun e w' => e = .returned (.bool (isDigitB c)) ∧ w' = w := by
  go_enter Tryd.func48, Tryd.ntmps48
  go_wp2
  all_goals go_ret
  all_goals refine ⟨congrArg (fun b => Ending.returned (.bool b)) ?_, rfl⟩
  all_goals rw [Bool.eq_iff_iff]
  all_goals simp [isDigitB]
  all_goals omega
set_option maxHeartbeats 1000000 in
theorem isOctal_any (c : Int) (w : World) : Calls Tryd.prog 66 #[.int .u8 c] w fun e w' => e = .returned (.bool (isOctalB c)) ∧ w' = w := by
  go_enter Tryd.func66, Tryd.ntmps66
  go_wp2
  all_goals go_ret
  all_goals refine ⟨congrArg (fun b => Ending.returned (.bool b)) ?_, rfl⟩
  all_goals rw [Bool.eq_iff_iff]
  all_goals simp [isOctalB]
  all_goals omega
set_option maxHeartbeats 1000000 in
theorem isBinary_any (c : Int) (w : World) : Calls Tryd.prog 67 #[.int .u8 c] w fun e w' => e = .returned (.bool (isBinaryB c)) ∧ w' = w := by
  go_enter Tryd.func67, Tryd.ntmps67
  go_wp2
  all_goals go_ret
  all_goals refine ⟨congrArg (fun b => Ending.returned (.bool b)) ?_, rfl⟩
  all_goals rw [Bool.eq_iff_iff]
  all_goals simp [isBinaryB]
  all_goals omega
theorem inName_any (c : Int) (w : World) : Calls Tryd.prog 56 #[.int .u8 c] w fun e w' => e = .returned (.bool (inNameB c)) ∧ w' = w := by
  have hb : Hid (inNameB c = (isLetterB c || isDigitB c)) := rfl
  go_enter Tryd.func56, Tryd.ntmps56
  go_wp2_with fail
  refine Calls.mono (isLetter_any c _) ?_
  rintro e w1 ⟨rfl, rfl⟩
  cases h : isLetterB c with
  | true =>
    go_wp2
    go_ret
    exact ⟨by rw [hb.out, h]; rfl, rfl⟩
  | false =>
    go_wp2_with fail
    refine Calls.mono (isDigit_any c _) ?_
    rintro e w2 ⟨rfl, rfl⟩
    go_wp2
    go_ret
    exact ⟨by rw [hb.out, h]; rfl, rfl⟩
theorem isHex_any (c : Int) (w : World) : Calls Tryd.prog 73 #[.int .u8 c] w fun e w' => e = .returned (.bool (isHexB c)) ∧ w' = w := by
  have hb : Hid (isHexB c = (isDigitB c || decide ((97 ≤ c ∧ c ≤ 102) ∨ (65 ≤ c ∧ c ≤ 70)))) := rfl
  go_enter Tryd.func73, Tryd.ntmps73
  go_wp2_with fail
  refine Calls.mono (isDigit_any c _) ?_
  rintro e w1 ⟨rfl, rfl⟩
  cases h : isDigitB c with
  | true =>
    go_wp2
    go_ret
    exact ⟨by rw [hb.out, h]; rfl, rfl⟩
  | false =>
    go_wp2
    all_goals go_ret
    all_goals refine ⟨congrArg (fun b => Ending.returned (.bool b)) ?_, rfl⟩
    all_goals rw [hb.out, h, Bool.eq_iff_iff]
    all_goals simp
    all_goals omega
end Go.Proofs.YtffggadmpdmbdaaDoor
