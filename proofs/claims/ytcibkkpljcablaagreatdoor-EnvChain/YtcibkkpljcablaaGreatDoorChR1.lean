/- EnvChain: its runs, 1 of 4. -/
import Derived.Test.YtcibkkpljcablaaGreatDoorChA
namespace Go.Proofs.YtcibkkpljcablaaGreatDoor
set_option maxRecDepth 1000000
theorem chain_2_false : chainTrue 2 false = true := by kernel_rfl
theorem chain_2_true : chainTrue 2 true = true := by kernel_rfl
theorem chain_3_false : chainTrue 3 false = true := by kernel_rfl
theorem chain_3_true : chainTrue 3 true = true := by kernel_rfl
theorem chain_10_false : chainTrue 10 false = true := by kernel_rfl
theorem chain_10_true : chainTrue 10 true = true := by kernel_rfl
theorem chain_11_false : chainTrue 11 false = true := by kernel_rfl
theorem chain_11_true : chainTrue 11 true = true := by kernel_rfl
theorem chain_18_false : chainTrue 18 false = true := by kernel_rfl
theorem chain_18_true : chainTrue 18 true = true := by kernel_rfl
theorem chain_19_false : chainTrue 19 false = true := by kernel_rfl
theorem chain_19_true : chainTrue 19 true = true := by kernel_rfl
theorem chain_26_false : chainTrue 26 false = true := by kernel_rfl
theorem chain_26_true : chainTrue 26 true = true := by kernel_rfl
end Go.Proofs.YtcibkkpljcablaaGreatDoor
