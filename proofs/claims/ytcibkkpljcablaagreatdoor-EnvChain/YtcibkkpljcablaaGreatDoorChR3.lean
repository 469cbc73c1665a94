/- EnvChain: its runs, 3 of 4. -/
import Derived.Test.YtcibkkpljcablaaGreatDoorChA
namespace Go.Proofs.YtcibkkpljcablaaGreatDoor
set_option maxRecDepth 1000000
theorem chain_5_false : chainTrue 5 false = true := by kernel_rfl
theorem chain_5_true : chainTrue 5 true = true := by kernel_rfl
theorem chain_8_false : chainTrue 8 false = true := by kernel_rfl
theorem chain_8_true : chainTrue 8 true = true := by kernel_rfl
theorem chain_13_false : chainTrue 13 false = true := by kernel_rfl
theorem chain_13_true : chainTrue 13 true = true := by kernel_rfl
theorem chain_16_false : chainTrue 16 false = true := by kernel_rfl
theorem chain_16_true : chainTrue 16 true = true := by kernel_rfl
theorem chain_21_false : chainTrue 21 false = true := by kernel_rfl
theorem chain_21_true : chainTrue 21 true = true := by kernel_rfl
theorem chain_24_false : chainTrue 24 false = true := by kernel_rfl
theorem chain_24_true : chainTrue 24 true = true := by kernel_rfl
end Go.Proofs.YtcibkkpljcablaaGreatDoor
