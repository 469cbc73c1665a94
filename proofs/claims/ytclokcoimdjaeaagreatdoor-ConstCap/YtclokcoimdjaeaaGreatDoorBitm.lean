/- Contracts of complement and Bitwise. -/
import Derived.Test.YtclokcoimdjaeaaGreatDoorQuom
import Derived.Laws.CopyOwn
namespace Go.Proofs.YtclokcoimdjaeaaGreatDoor
open Go.RowKit
attribute [local go_sem ↓] Go.wp_at_zero Go.wp_at_succ
end Go.Proofs.YtclokcoimdjaeaaGreatDoor
namespace Go.Proofs.YtclokcoimdjaeaaGreatDoor
open Go.RowKit
attribute [local go_sem ↓] Go.wp_at_zero Go.wp_at_succ
/-- A row as a two's complement. -/
def signed (ws : List Int) : Int := if 2147483648 ≤ ws[ws.length - 1]?.getD 0 then - ((- val 4294967296 ws) % 4294967296 ^ ws.length) else val 4294967296 ws
end Go.Proofs.YtclokcoimdjaeaaGreatDoor
