/- scan: words and operators. -/
import Derived.Test.YtffggadmpdmbdaaGreatDoorSa
namespace Go.Proofs.YtffggadmpdmbdaaGreatDoor
open Go.RowKit
attribute [local go_sem ↓] Go.wp_at_zero Go.wp_at_succ
def wordB (l : List UInt8) : Bool := l == [98, 114, 101, 97, 107] || l == [99, 97, 115, 101] || l == [99, 104, 97, 110] || l == [99, 111, 110, 115, 116] || l == [99, 111, 110, 116, 105, 110, 117, 101] || l == [100, 101, 102, 97, 117, 108, 116] || l == [100, 101, 102, 101, 114] || l == [101, 108, 115, 101] || l == [102, 97, 108, 108, 116, 104, 114, 111, 117, 103, 104] || l == [102, 111, 114] || l == [102, 117, 110, 99] || l == [103, 111] || l == [103, 111, 116, 111] || l == [105, 102] || l == [105, 109, 112, 111, 114, 116] || l == [105, 110, 116, 101, 114, 102, 97, 99, 101] || l == [109, 97, 112] || l == [112, 97, 99, 107, 97, 103, 101] || l == [114, 97, 110, 103, 101] || l == [114, 101, 116, 117, 114, 110] || l == [115, 101, 108, 101, 99, 116] || l == [115, 116, 114, 117, 99, 116] || l == [115, 119, 105, 116, 99, 104] || l == [116, 121, 112, 101] || l == [118, 97, 114]
def opB (l : List UInt8) : Bool := l == [43] || l == [45] || l == [42] || l == [47] || l == [37] || l == [38] || l == [124] || l == [94] || l == [38, 94] || l == [43, 61] || l == [45, 61] || l == [42, 61] || l == [47, 61] || l == [37, 61] || l == [38, 61] || l == [124, 61] || l == [94, 61] || l == [38, 94, 61] || l == [38, 38] || l == [124, 124] || l == [61, 61] || l == [33, 61] || l == [60] || l == [60, 61] || l == [62] || l == [62, 61] || l == [33] || l == [40] || l == [41] || l == [91] || l == [93] || l == [123] || l == [125] || l == [44] || l == [46] || l == [58, 61] || l == [61] || l == [43, 43] || l == [45, 45] || l == [126] || l == [58]
set_option maxRecDepth 20000 in
set_option maxHeartbeats 4000000 in
theorem Word_any (s : ByteArray) (w : World) : Calls Tryz.prog 10 #[.string s] w fun e w' => e = .returned (.bool (wordB s.toList)) ∧ w' = w := by
  generalize hl : s.toList = l
  go_enter Tryz.func10, Tryz.ntmps10
  go_wp2
  all_goals go_ret
  all_goals first
    | (exfalso; simp_all; done)
    | (refine ⟨congrArg (fun b => Ending.returned (.bool b)) ?_, rfl⟩; simp_all [wordB]; done)
set_option maxRecDepth 20000 in
set_option maxHeartbeats 4000000 in
theorem isOperator_any (s : ByteArray) (w : World) : Calls Tryz.prog 64 #[.string s] w fun e w' => e = .returned (.bool (opB s.toList)) ∧ w' = w := by
  generalize hl : s.toList = l
  go_enter Tryz.func64, Tryz.ntmps64
  go_wp2
  all_goals go_ret
  all_goals first
    | (exfalso; simp_all; done)
    | (refine ⟨congrArg (fun b => Ending.returned (.bool b)) ?_, rfl⟩; simp_all [opB]; done)
end Go.Proofs.YtffggadmpdmbdaaGreatDoor
