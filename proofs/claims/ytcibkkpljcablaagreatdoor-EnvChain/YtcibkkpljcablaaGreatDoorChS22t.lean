/- EnvChain: runs of its rest by the kernel. -/
import Derived.Test.YtcibkkpljcablaaGreatDoorChA
namespace Go.Proofs.YtcibkkpljcablaaGreatDoor
set_option maxRecDepth 1000000
theorem chain_22_true : chainTrue 22 true = true := by kernel_rfl
end Go.Proofs.YtcibkkpljcablaaGreatDoor
