/- EnvChain: runs of its rest by the kernel. -/
import Derived.Test.YtcibkkpljcablaaGreatDoorChA
namespace Go.Proofs.YtcibkkpljcablaaGreatDoor
set_option maxRecDepth 1000000
theorem chain_2_false : chainTrue 2 false = true := by kernel_rfl
theorem chain_2_true : chainTrue 2 true = true := by kernel_rfl
theorem chain_5_false : chainTrue 5 false = true := by kernel_rfl
theorem chain_5_true : chainTrue 5 true = true := by kernel_rfl
theorem chain_10_false : chainTrue 10 false = true := by kernel_rfl
theorem chain_10_true : chainTrue 10 true = true := by kernel_rfl
theorem chain_13_false : chainTrue 13 false = true := by kernel_rfl
theorem chain_13_true : chainTrue 13 true = true := by kernel_rfl
theorem chain_18_false : chainTrue 18 false = true := by kernel_rfl
theorem chain_18_true : chainTrue 18 true = true := by kernel_rfl
end Go.Proofs.YtcibkkpljcablaaGreatDoor
