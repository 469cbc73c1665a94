/- EnvChain: its runs, 4 of 4. -/
import Derived.Test.YtcibkkpljcablaaGreatDoorChA
namespace Go.Proofs.YtcibkkpljcablaaGreatDoor
set_option maxRecDepth 1000000
theorem chain_6_false : chainTrue 6 false = true := by kernel_rfl
theorem chain_6_true : chainTrue 6 true = true := by kernel_rfl
theorem chain_7_false : chainTrue 7 false = true := by kernel_rfl
theorem chain_7_true : chainTrue 7 true = true := by kernel_rfl
theorem chain_14_false : chainTrue 14 false = true := by kernel_rfl
theorem chain_14_true : chainTrue 14 true = true := by kernel_rfl
theorem chain_15_false : chainTrue 15 false = true := by kernel_rfl
theorem chain_15_true : chainTrue 15 true = true := by kernel_rfl
theorem chain_22_false : chainTrue 22 false = true := by kernel_rfl
theorem chain_22_true : chainTrue 22 true = true := by kernel_rfl
theorem chain_23_false : chainTrue 23 false = true := by kernel_rfl
theorem chain_23_true : chainTrue 23 true = true := by kernel_rfl
end Go.Proofs.YtcibkkpljcablaaGreatDoor
