/- SetLoop: runs by the kernel. -/
import Derived.Test.YtfigbldiffjmbaaGreatDoorSL
namespace Go.Proofs.YtfigbldiffjmbaaGreatDoor
open Cx
set_option maxRecDepth 1000000
theorem q2_9f : (and (part2 [(1, vf), (5, vt), (9, vp 104 0)] [(1, vf), (5, vt), (9, vp 104 0), (12, vt), (13, vt)] 1240 3140 L9f) (part2 [(1, vt), (5, vt), (9, vp 103 0)] [(1, vt), (5, vt), (9, vp 103 0), (12, vf), (13, vf)] 1238 2986 L9t)) = true := by kernel_rfl
theorem p2_9f : part2 [(1, vf), (5, vt), (9, vp 104 0)] [(1, vf), (5, vt), (9, vp 104 0), (12, vt), (13, vt)] 1240 3140 L9f = true := and_fst q2_9f
theorem p2_9t : part2 [(1, vt), (5, vt), (9, vp 103 0)] [(1, vt), (5, vt), (9, vp 103 0), (12, vf), (13, vf)] 1238 2986 L9t = true := (and_snd q2_9f)
theorem p2_16f : part2 [(1, vf), (5, vt), (9, vp 160 0)] [(1, vf), (5, vt), (9, vp 160 0), (12, vt), (13, vt)] 2045 5196 L16f = true := by kernel_rfl
theorem p3_15t : part3 [(1, vt), (5, vt), (9, vp 151 0), (12, vf), (13, vf)] 4732 L15t = true := by kernel_rfl
theorem p1_25f : part1 25 false [(1, vf), (5, vt), (9, vp 232 0)] 3079 L25f = true := by kernel_rfl
theorem p1_21f : part1 21 false [(1, vf), (5, vt), (9, vp 200 0)] 2620 L21f = true := by kernel_rfl
theorem p2_25t : part2 [(1, vt), (5, vt), (9, vp 231 0)] [(1, vt), (5, vt), (9, vp 231 0), (12, vf), (13, vf)] 3078 7675 L25t = true := by kernel_rfl
end Go.Proofs.YtfigbldiffjmbaaGreatDoor
