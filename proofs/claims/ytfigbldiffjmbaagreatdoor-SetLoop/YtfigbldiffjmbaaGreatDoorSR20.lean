/- SetLoop: runs by the kernel. -/
import Derived.Test.YtfigbldiffjmbaaGreatDoorSL
namespace Go.Proofs.YtfigbldiffjmbaaGreatDoor
open Cx
set_option maxRecDepth 1000000
theorem p3_22t : part3 [(1, vt), (5, vt), (9, vp 207 0), (12, vf), (13, vf)] 6793 L22t = true := by kernel_rfl
theorem p2_21f : part2 [(1, vf), (5, vt), (9, vp 200 0)] [(1, vf), (5, vt), (9, vp 200 0), (12, vt), (13, vt)] 2620 6676 L21f = true := by kernel_rfl
theorem p3_18t : part3 [(1, vt), (5, vt), (9, vp 175 0), (12, vf), (13, vf)] 5614 L18t = true := by kernel_rfl
theorem p3_13t : part3 [(1, vt), (5, vt), (9, vp 135 0), (12, vf), (13, vf)] 4152 L13t = true := by kernel_rfl
theorem p2_12t : part2 [(1, vt), (5, vt), (9, vp 127 0)] [(1, vt), (5, vt), (9, vp 127 0), (12, vf), (13, vf)] 1587 3866 L12t = true := by kernel_rfl
end Go.Proofs.YtfigbldiffjmbaaGreatDoor
