/- scan: the builder, and Value. -/
import Derived.Test.YtfbacidpjpghiaaGreatDoorSom
import Derived.Shelf.Strings.Builder1
namespace Go.Proofs.YtfbacidpjpghiaaGreatDoor
open Go.RowKit
attribute [local go_sem ↓] Go.wp_at_zero Go.wp_at_succ
theorem Tryz.info5 : (Tryz.prog.info? 5).map (fun i => (i.zero, i.size, i.bytes)) = some (some (.int .u8 0), 1, 1) := by kernel_rfl
end Go.Proofs.YtfbacidpjpghiaaGreatDoor
