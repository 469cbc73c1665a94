/- Bits of whole numbers, those below zero as two's complements without end: plain mathematics. -/
import Derived.Test.YtclokcoimdjaeaaGreatDoorLeafm
import Derived.Test.YtclokcoimdjaeaaGreatDoorBitm
import Derived.Test.YtclokcoimdjaeaaGreatDoorNum
namespace Go.Proofs.YtclokcoimdjaeaaGreatDoor
end Go.Proofs.YtclokcoimdjaeaaGreatDoor
namespace Go.Proofs.YtclokcoimdjaeaaGreatDoor
open Go.RowKit
attribute [local go_sem ↓] Go.wp_at_zero Go.wp_at_succ
end Go.Proofs.YtclokcoimdjaeaaGreatDoor
