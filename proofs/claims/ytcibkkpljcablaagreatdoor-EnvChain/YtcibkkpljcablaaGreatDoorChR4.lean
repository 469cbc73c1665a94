/- EnvChain: runs of its rest by the kernel. -/
import Derived.Test.YtcibkkpljcablaaGreatDoorChA
namespace Go.Proofs.YtcibkkpljcablaaGreatDoor
set_option maxRecDepth 1000000
theorem chain_7_false : chainTrue 7 false = true := by kernel_rfl
theorem chain_7_true : chainTrue 7 true = true := by kernel_rfl
theorem chain_8_false : chainTrue 8 false = true := by kernel_rfl
theorem chain_8_true : chainTrue 8 true = true := by kernel_rfl
theorem chain_15_false : chainTrue 15 false = true := by kernel_rfl
theorem chain_15_true : chainTrue 15 true = true := by kernel_rfl
theorem chain_16_false : chainTrue 16 false = true := by kernel_rfl
theorem chain_16_true : chainTrue 16 true = true := by kernel_rfl
end Go.Proofs.YtcibkkpljcablaaGreatDoor
