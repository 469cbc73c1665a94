/- SetLoop: runs by the kernel. -/
import Derived.Test.YtfigbldiffjmbaaGreatDoorSL
namespace Go.Proofs.YtfigbldiffjmbaaGreatDoor
open Cx
set_option maxRecDepth 1000000
theorem p2_10t : part2 [(1, vt), (5, vt), (9, vp 111 0)] [(1, vt), (5, vt), (9, vp 111 0), (12, vf), (13, vf)] 1352 3279 L10t = true := by kernel_rfl
theorem p3_26t : part3 [(1, vt), (5, vt), (9, vp 239 0), (12, vf), (13, vf)] 7969 L26t = true := by kernel_rfl
theorem p2_18f : part2 [(1, vf), (5, vt), (9, vp 176 0)] [(1, vf), (5, vt), (9, vp 176 0), (12, vt), (13, vt)] 2275 5788 L18f = true := by kernel_rfl
theorem q1_18f : (and (part1 18 false [(1, vf), (5, vt), (9, vp 176 0)] 2275 L18f) (part1 18 true [(1, vt), (5, vt), (9, vp 175 0)] 2273 L18t)) = true := by kernel_rfl
theorem p1_18f : part1 18 false [(1, vf), (5, vt), (9, vp 176 0)] 2275 L18f = true := and_fst q1_18f
theorem p1_18t : part1 18 true [(1, vt), (5, vt), (9, vp 175 0)] 2273 L18t = true := (and_snd q1_18f)
theorem q2_7f : (and (part2 [(1, vf), (5, vt), (9, vp 88 0)] [(1, vf), (5, vt), (9, vp 88 0), (12, vt), (13, vt)] 1012 2556 L7f) (part2 [(1, vt), (5, vt), (9, vp 87 0)] [(1, vt), (5, vt), (9, vp 87 0), (12, vf), (13, vf)] 1010 2406 L7t)) = true := by kernel_rfl
theorem p2_7f : part2 [(1, vf), (5, vt), (9, vp 88 0)] [(1, vf), (5, vt), (9, vp 88 0), (12, vt), (13, vt)] 1012 2556 L7f = true := and_fst q2_7f
theorem p2_7t : part2 [(1, vt), (5, vt), (9, vp 87 0)] [(1, vt), (5, vt), (9, vp 87 0), (12, vf), (13, vf)] 1010 2406 L7t = true := (and_snd q2_7f)
end Go.Proofs.YtfigbldiffjmbaaGreatDoor
