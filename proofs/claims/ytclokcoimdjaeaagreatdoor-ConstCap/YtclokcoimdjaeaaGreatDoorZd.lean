/- constants: the second road asks whether a number is in an integer type's range. -/
import Derived.Test.YtclokcoimdjaeaaGreatDoorZcm
namespace Go.Proofs.YtclokcoimdjaeaaGreatDoor
open Go.RowKit
attribute [local go_sem ↓] Go.wp_at_zero Go.wp_at_succ
end Go.Proofs.YtclokcoimdjaeaaGreatDoor
