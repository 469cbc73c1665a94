/- scan: bytes and their kinds. -/
import Derived.Test.YtffggadmpdmbdaaGreatDoorChecked
import Derived.WalkKit
import Derived.WalkSpells
import Derived.WalkLawsBesides
import Derived.Outline
import Derived.Deep.QuietTactic
import Derived.BigQuiet
import Derived.OpenShut
import Derived.Below
import Derived.Deep.DrawnRows
import Derived.Test.YtffggadmpdmbdaaGreatDoorBase
import Derived.Test.YtffggadmpdmbdaaGreatDoorStp
namespace Go.Proofs.YtffggadmpdmbdaaGreatDoor
open Go.RowKit
attribute [local go_sem ↓] Go.wp_at_zero Go.wp_at_succ
/-- Kinds of bytes. -/
def isSpaceB (c : Int) : Bool := decide (c = 32 ∨ c = 9 ∨ c = 13)
def isLetterB (c : Int) : Bool := decide ((97 ≤ c ∧ c ≤ 122) ∨ (65 ≤ c ∧ c ≤ 90) ∨ c = 95)
def isDigitB (c : Int) : Bool := decide (48 ≤ c ∧ c ≤ 57)
def inNameB (c : Int) : Bool := isLetterB c || isDigitB c
def isOctalB (c : Int) : Bool := decide (48 ≤ c ∧ c ≤ 55)
def isBinaryB (c : Int) : Bool := decide (c = 48 ∨ c = 49)
def isHexB (c : Int) : Bool := isDigitB c || decide ((97 ≤ c ∧ c ≤ 102) ∨ (65 ≤ c ∧ c ≤ 70))
set_option maxHeartbeats 1000000 in
theorem isSpace_any (c : Int) (w : World) : Calls Tryz.prog 27 #[.int .u8 c] w fun e w' => e = .returned (.bool (isSpaceB c)) ∧ w' = w := by
  go_enter Tryz.func27, Tryz.ntmps27
  go_wp2
  all_goals go_ret
  all_goals refine ⟨congrArg (fun b => Ending.returned (.bool b)) ?_, rfl⟩
  all_goals rw [Bool.eq_iff_iff]
  all_goals simp [isSpaceB]
  all_goals omega
set_option maxHeartbeats 1000000 in
theorem isLetter_any (c : Int) (w : World) : Calls Tryz.prog 52 #[.int .u8 c] w fun e w' => e = .returned (.bool (isLetterB c)) ∧ w' = w := by
  go_enter Tryz.func52, Tryz.ntmps52
  go_wp2
  all_goals go_ret
  all_goals refine ⟨congrArg (fun b => Ending.returned (.bool b)) ?_, rfl⟩
  all_goals rw [Bool.eq_iff_iff]
  all_goals simp [isLetterB]
  all_goals omega
set_option maxHeartbeats 1000000 in
theorem isDigit_any (c : Int) (w : World) : Calls Tryz.prog 54 #[.int .u8 c] w fun e w' => e = .returned (.bool (isDigitB c)) ∧ w' = w := by
  go_enter Tryz.func54, Tryz.ntmps54
  go_wp2
  all_goals go_ret
  all_goals refine ⟨congrArg (fun b => Ending.returned (.bool b)) ?_, rfl⟩
  all_goals rw [Bool.eq_iff_iff]
  all_goals simp [isDigitB]
  all_goals omega
set_option maxHeartbeats 1000000 in
theorem isOctal_any (c : Int) (w : World) : Calls Tryz.prog 72 #[.int .u8 c] w fun e w' => e = .returned (.bool (isOctalB c)) ∧ w' = w := by
  go_enter Tryz.func72, Tryz.ntmps72
  go_wp2
  all_goals go_ret
  all_goals refine ⟨congrArg (fun b => Ending.returned (.bool b)) ?_, rfl⟩
  all_goals rw [Bool.eq_iff_iff]
  all_goals simp [isOctalB]
  all_goals omega
set_option maxHeartbeats 1000000 in
theorem isBinary_any (c : Int) (w : World) : Calls Tryz.prog 73 #[.int .u8 c] w fun e w' => e = .returned (.bool (isBinaryB c)) ∧ w' = w := by
  go_enter Tryz.func73, Tryz.ntmps73
  go_wp2
  all_goals go_ret
  all_goals refine ⟨congrArg (fun b => Ending.returned (.bool b)) ?_, rfl⟩
  all_goals rw [Bool.eq_iff_iff]
  all_goals simp [isBinaryB]
  all_goals omega
theorem inName_any (c : Int) (w : World) : Calls Tryz.prog 62 #[.int .u8 c] w fun e w' => e = .returned (.bool (inNameB c)) ∧ w' = w := by
  have hb : Hid (inNameB c = (isLetterB c || isDigitB c)) := rfl
  go_enter Tryz.func62, Tryz.ntmps62
  go_wp2_with fail
  refine Calls.mono (isLetter_any c _) ?_
  rintro e w1 ⟨rfl, rfl⟩
  cases h : isLetterB c with
  | true =>
    go_wp2
    go_ret
    exact ⟨by rw [hb.out, h]; rfl, rfl⟩
  | false =>
    go_wp2_with fail
    refine Calls.mono (isDigit_any c _) ?_
    rintro e w2 ⟨rfl, rfl⟩
    go_wp2
    go_ret
    exact ⟨by rw [hb.out, h]; rfl, rfl⟩
theorem isHex_any (c : Int) (w : World) : Calls Tryz.prog 79 #[.int .u8 c] w fun e w' => e = .returned (.bool (isHexB c)) ∧ w' = w := by
  have hb : Hid (isHexB c = (isDigitB c || decide ((97 ≤ c ∧ c ≤ 102) ∨ (65 ≤ c ∧ c ≤ 70)))) := rfl
  go_enter Tryz.func79, Tryz.ntmps79
  go_wp2_with fail
  refine Calls.mono (isDigit_any c _) ?_
  rintro e w1 ⟨rfl, rfl⟩
  cases h : isDigitB c with
  | true =>
    go_wp2
    go_ret
    exact ⟨by rw [hb.out, h]; rfl, rfl⟩
  | false =>
    go_wp2
    all_goals go_ret
    all_goals refine ⟨congrArg (fun b => Ending.returned (.bool b)) ?_, rfl⟩
    all_goals rw [hb.out, h, Bool.eq_iff_iff]
    all_goals simp
    all_goals omega
end Go.Proofs.YtffggadmpdmbdaaGreatDoor
