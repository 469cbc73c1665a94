/- SetLoop: runs by the kernel. -/
import Derived.Test.YtfigbldiffjmbaaGreatDoorSL
namespace Go.Proofs.YtfigbldiffjmbaaGreatDoor
open Cx
set_option maxRecDepth 1000000
theorem p3_14t : part3 [(1, vt), (5, vt), (9, vp 143 0), (12, vf), (13, vf)] 4438 L14t = true := by kernel_rfl
theorem p2_11t : part2 [(1, vt), (5, vt), (9, vp 119 0)] [(1, vt), (5, vt), (9, vp 119 0), (12, vf), (13, vf)] 1473 3576 L11t = true := by kernel_rfl
theorem p1_21t : part1 21 true [(1, vt), (5, vt), (9, vp 199 0)] 2618 L21t = true := by kernel_rfl
theorem p2_23t : part2 [(1, vt), (5, vt), (9, vp 215 0)] [(1, vt), (5, vt), (9, vp 215 0), (12, vf), (13, vf)] 2848 7087 L23t = true := by kernel_rfl
theorem p3_20f : part3 [(1, vf), (5, vt), (9, vp 192 0), (12, vt), (13, vt)] 6380 L20f = true := by kernel_rfl
theorem q2_8f : (and (part2 [(1, vf), (5, vt), (9, vp 96 0)] [(1, vf), (5, vt), (9, vp 96 0), (12, vt), (13, vt)] 1126 2848 L8f) (part2 [(1, vt), (5, vt), (9, vp 95 0)] [(1, vt), (5, vt), (9, vp 95 0), (12, vf), (13, vf)] 1124 2696 L8t)) = true := by kernel_rfl
theorem p2_8f : part2 [(1, vf), (5, vt), (9, vp 96 0)] [(1, vf), (5, vt), (9, vp 96 0), (12, vt), (13, vt)] 1126 2848 L8f = true := and_fst q2_8f
theorem p2_8t : part2 [(1, vt), (5, vt), (9, vp 95 0)] [(1, vt), (5, vt), (9, vp 95 0), (12, vf), (13, vf)] 1124 2696 L8t = true := (and_snd q2_8f)
end Go.Proofs.YtfigbldiffjmbaaGreatDoor
