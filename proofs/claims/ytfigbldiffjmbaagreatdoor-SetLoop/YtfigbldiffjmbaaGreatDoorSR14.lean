/- SetLoop: runs by the kernel. -/
import Derived.Test.YtfigbldiffjmbaaGreatDoorSL
namespace Go.Proofs.YtfigbldiffjmbaaGreatDoor
open Cx
set_option maxRecDepth 1000000
theorem p3_11f : part3 [(1, vf), (5, vt), (9, vp 120 0), (12, vt), (13, vt)] 3732 L11f = true := by kernel_rfl
theorem p2_23f : part2 [(1, vf), (5, vt), (9, vp 216 0)] [(1, vf), (5, vt), (9, vp 216 0), (12, vt), (13, vt)] 2849 7269 L23f = true := by kernel_rfl
theorem p2_20t : part2 [(1, vt), (5, vt), (9, vp 191 0)] [(1, vt), (5, vt), (9, vp 191 0), (12, vf), (13, vf)] 2503 6202 L20t = true := by kernel_rfl
theorem p2_17f : part2 [(1, vf), (5, vt), (9, vp 168 0)] [(1, vf), (5, vt), (9, vp 168 0), (12, vt), (13, vt)] 2160 5492 L17f = true := by kernel_rfl
theorem p2_13f : part2 [(1, vf), (5, vt), (9, vp 136 0)] [(1, vf), (5, vt), (9, vp 136 0), (12, vt), (13, vt)] 1701 4312 L13f = true := by kernel_rfl
end Go.Proofs.YtfigbldiffjmbaaGreatDoor
