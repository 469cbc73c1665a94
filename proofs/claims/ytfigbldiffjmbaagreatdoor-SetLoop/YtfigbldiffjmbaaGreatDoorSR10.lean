/- SetLoop: runs by the kernel. -/
import Derived.Test.YtfigbldiffjmbaaGreatDoorSL
namespace Go.Proofs.YtfigbldiffjmbaaGreatDoor
open Cx
set_option maxRecDepth 1000000
theorem p2_24f : part2 [(1, vf), (5, vt), (9, vp 224 0)] [(1, vf), (5, vt), (9, vp 224 0), (12, vt), (13, vt)] 2964 7565 L24f = true := by kernel_rfl
theorem q3_9f : (and (part3 [(1, vf), (5, vt), (9, vp 104 0), (12, vt), (13, vt)] 3140 L9f) (part3 [(1, vt), (5, vt), (9, vp 103 0), (12, vf), (13, vf)] 2986 L9t)) = true := by kernel_rfl
theorem p3_9f : part3 [(1, vf), (5, vt), (9, vp 104 0), (12, vt), (13, vt)] 3140 L9f = true := and_fst q3_9f
theorem p3_9t : part3 [(1, vt), (5, vt), (9, vp 103 0), (12, vf), (13, vf)] 2986 L9t = true := (and_snd q3_9f)
theorem q1_8f : (and (part1 8 false [(1, vf), (5, vt), (9, vp 96 0)] 1126 L8f) (and (part1 8 true [(1, vt), (5, vt), (9, vp 95 0)] 1124 L8t) (and (part1 9 false [(1, vf), (5, vt), (9, vp 104 0)] 1240 L9f) (part1 9 true [(1, vt), (5, vt), (9, vp 103 0)] 1238 L9t)))) = true := by kernel_rfl
theorem p1_8f : part1 8 false [(1, vf), (5, vt), (9, vp 96 0)] 1126 L8f = true := and_fst q1_8f
theorem p1_8t : part1 8 true [(1, vt), (5, vt), (9, vp 95 0)] 1124 L8t = true := and_fst (and_snd q1_8f)
theorem p1_9f : part1 9 false [(1, vf), (5, vt), (9, vp 104 0)] 1240 L9f = true := and_fst (and_snd (and_snd q1_8f))
theorem p1_9t : part1 9 true [(1, vt), (5, vt), (9, vp 103 0)] 1238 L9t = true := (and_snd (and_snd (and_snd q1_8f)))
theorem p2_14t : part2 [(1, vt), (5, vt), (9, vp 143 0)] [(1, vt), (5, vt), (9, vp 143 0), (12, vf), (13, vf)] 1813 4438 L14t = true := by kernel_rfl
theorem q1_13f : (and (part1 13 false [(1, vf), (5, vt), (9, vp 136 0)] 1701 L13f) (part1 13 true [(1, vt), (5, vt), (9, vp 135 0)] 1700 L13t)) = true := by kernel_rfl
theorem p1_13f : part1 13 false [(1, vf), (5, vt), (9, vp 136 0)] 1701 L13f = true := and_fst q1_13f
theorem p1_13t : part1 13 true [(1, vt), (5, vt), (9, vp 135 0)] 1700 L13t = true := (and_snd q1_13f)
end Go.Proofs.YtfigbldiffjmbaaGreatDoor
