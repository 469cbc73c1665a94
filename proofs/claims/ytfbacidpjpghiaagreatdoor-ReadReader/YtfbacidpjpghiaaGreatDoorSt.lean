/- ScanEnds: what is asked first. -/
import Derived.Test.YtfbacidpjpghiaaGreatDoorSq
import Derived.Lib.SlBytesConst
import Derived.Lib.SmallJoins
import Derived.Laws.IdiomStrings
namespace Go.Proofs.YtfbacidpjpghiaaGreatDoor
open Go.RowKit
attribute [local go_sem ↓] Go.wp_at_zero Go.wp_at_succ
theorem begun_scan : scanM [120, 32, 58, 61, 32, 49, 46, 53, 101, 51, 32, 47, 47, 32, 121, 10] = some (.good [⟨1, ba [120], 0⟩, ⟨5, ba [58, 61], 2⟩, ⟨3, ba [49, 46, 53, 101, 51], 5⟩, ⟨7, ba [10], 15⟩, ⟨0, ba [], 16⟩]) := by kernel_rfl
theorem begun_value : valM [34, 97, 92, 110, 34] = some ([97, 10], true) := by kernel_rfl
theorem begun_word : wordB [102, 117, 110, 99] = true := by kernel_rfl
theorem lit_toList (l : List UInt8) : (⟨l.toArray⟩ : ByteArray).toList = l := ba_toList l
end Go.Proofs.YtfbacidpjpghiaaGreatDoor
