/- EnvChain: runs of its rest by the kernel. -/
import Derived.Test.YtcibkkpljcablaaGreatDoorChA
namespace Go.Proofs.YtcibkkpljcablaaGreatDoor
set_option maxRecDepth 1000000
theorem chain_1_false : chainTrue 1 false = true := by kernel_rfl
theorem chain_1_true : chainTrue 1 true = true := by kernel_rfl
theorem chain_6_false : chainTrue 6 false = true := by kernel_rfl
theorem chain_6_true : chainTrue 6 true = true := by kernel_rfl
theorem chain_9_false : chainTrue 9 false = true := by kernel_rfl
theorem chain_9_true : chainTrue 9 true = true := by kernel_rfl
theorem chain_14_false : chainTrue 14 false = true := by kernel_rfl
theorem chain_14_true : chainTrue 14 true = true := by kernel_rfl
theorem chain_17_false : chainTrue 17 false = true := by kernel_rfl
theorem chain_17_true : chainTrue 17 true = true := by kernel_rfl
end Go.Proofs.YtcibkkpljcablaaGreatDoor
