/- EnvChain: runs of its rest by the kernel. -/
import Derived.Test.YtcibkkpljcablaaGreatDoorChA
namespace Go.Proofs.YtcibkkpljcablaaGreatDoor
set_option maxRecDepth 1000000
theorem chain_3_false : chainTrue 3 false = true := by kernel_rfl
theorem chain_3_true : chainTrue 3 true = true := by kernel_rfl
theorem chain_4_false : chainTrue 4 false = true := by kernel_rfl
theorem chain_4_true : chainTrue 4 true = true := by kernel_rfl
theorem chain_11_false : chainTrue 11 false = true := by kernel_rfl
theorem chain_11_true : chainTrue 11 true = true := by kernel_rfl
theorem chain_12_false : chainTrue 12 false = true := by kernel_rfl
theorem chain_12_true : chainTrue 12 true = true := by kernel_rfl
theorem chain_19_false : chainTrue 19 false = true := by kernel_rfl
theorem chain_19_true : chainTrue 19 true = true := by kernel_rfl
end Go.Proofs.YtcibkkpljcablaaGreatDoor
