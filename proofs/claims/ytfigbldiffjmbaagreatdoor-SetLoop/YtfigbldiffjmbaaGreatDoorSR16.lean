/- SetLoop: runs by the kernel. -/
import Derived.Test.YtfigbldiffjmbaaGreatDoorSL
namespace Go.Proofs.YtfigbldiffjmbaaGreatDoor
open Cx
set_option maxRecDepth 1000000
theorem p2_20f : part2 [(1, vf), (5, vt), (9, vp 192 0)] [(1, vf), (5, vt), (9, vp 192 0), (12, vt), (13, vt)] 2505 6380 L20f = true := by kernel_rfl
theorem p2_18t : part2 [(1, vt), (5, vt), (9, vp 175 0)] [(1, vt), (5, vt), (9, vp 175 0), (12, vf), (13, vf)] 2273 5614 L18t = true := by kernel_rfl
theorem q1_14f : (and (part1 14 false [(1, vf), (5, vt), (9, vp 144 0)] 1815 L14f) (part1 14 true [(1, vt), (5, vt), (9, vp 143 0)] 1813 L14t)) = true := by kernel_rfl
theorem p1_14f : part1 14 false [(1, vf), (5, vt), (9, vp 144 0)] 1815 L14f = true := and_fst q1_14f
theorem p1_14t : part1 14 true [(1, vt), (5, vt), (9, vp 143 0)] 1813 L14t = true := (and_snd q1_14f)
theorem p2_13t : part2 [(1, vt), (5, vt), (9, vp 135 0)] [(1, vt), (5, vt), (9, vp 135 0), (12, vf), (13, vf)] 1700 4152 L13t = true := by kernel_rfl
theorem p3_23t : part3 [(1, vt), (5, vt), (9, vp 215 0), (12, vf), (13, vf)] 7087 L23t = true := by kernel_rfl
end Go.Proofs.YtfigbldiffjmbaaGreatDoor
