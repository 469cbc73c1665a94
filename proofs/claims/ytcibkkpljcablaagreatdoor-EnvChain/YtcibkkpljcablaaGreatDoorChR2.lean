/- EnvChain: its runs, 2 of 4. -/
import Derived.Test.YtcibkkpljcablaaGreatDoorChA
namespace Go.Proofs.YtcibkkpljcablaaGreatDoor
set_option maxRecDepth 1000000
theorem chain_1_false : chainTrue 1 false = true := by kernel_rfl
theorem chain_1_true : chainTrue 1 true = true := by kernel_rfl
theorem chain_4_false : chainTrue 4 false = true := by kernel_rfl
theorem chain_4_true : chainTrue 4 true = true := by kernel_rfl
theorem chain_9_false : chainTrue 9 false = true := by kernel_rfl
theorem chain_9_true : chainTrue 9 true = true := by kernel_rfl
theorem chain_12_false : chainTrue 12 false = true := by kernel_rfl
theorem chain_12_true : chainTrue 12 true = true := by kernel_rfl
theorem chain_17_false : chainTrue 17 false = true := by kernel_rfl
theorem chain_17_true : chainTrue 17 true = true := by kernel_rfl
theorem chain_20_false : chainTrue 20 false = true := by kernel_rfl
theorem chain_20_true : chainTrue 20 true = true := by kernel_rfl
theorem chain_25_false : chainTrue 25 false = true := by kernel_rfl
theorem chain_25_true : chainTrue 25 true = true := by kernel_rfl
end Go.Proofs.YtcibkkpljcablaaGreatDoor
