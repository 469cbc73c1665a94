/- SetLoop: runs by the kernel. -/
import Derived.Test.YtfigbldiffjmbaaGreatDoorSL
namespace Go.Proofs.YtfigbldiffjmbaaGreatDoor
open Cx
set_option maxRecDepth 1000000
theorem p2_15t : part2 [(1, vt), (5, vt), (9, vp 151 0)] [(1, vt), (5, vt), (9, vp 151 0), (12, vf), (13, vf)] 1928 4732 L15t = true := by kernel_rfl
theorem p2_10f : part2 [(1, vf), (5, vt), (9, vp 112 0)] [(1, vf), (5, vt), (9, vp 112 0), (12, vt), (13, vt)] 1353 3433 L10f = true := by kernel_rfl
theorem p3_25t : part3 [(1, vt), (5, vt), (9, vp 231 0), (12, vf), (13, vf)] 7675 L25t = true := by kernel_rfl
theorem q2_5t : (and (part2 [(1, vt), (5, vt), (9, vp 71 0)] [(1, vt), (5, vt), (9, vp 71 0), (12, vf), (13, vf)] 784 1834 L5t) (and (part2 [(1, vf), (5, vt), (9, vp 80 0)] [(1, vf), (5, vt), (9, vp 80 0), (12, vt), (13, vt)] 898 2264 L6f) (part2 [(1, vt), (5, vt), (9, vp 79 0)] [(1, vt), (5, vt), (9, vp 79 0), (12, vf), (13, vf)] 896 2116 L6t))) = true := by kernel_rfl
theorem p2_5t : part2 [(1, vt), (5, vt), (9, vp 71 0)] [(1, vt), (5, vt), (9, vp 71 0), (12, vf), (13, vf)] 784 1834 L5t = true := and_fst q2_5t
theorem p2_6f : part2 [(1, vf), (5, vt), (9, vp 80 0)] [(1, vf), (5, vt), (9, vp 80 0), (12, vt), (13, vt)] 898 2264 L6f = true := and_fst (and_snd q2_5t)
theorem p2_6t : part2 [(1, vt), (5, vt), (9, vp 79 0)] [(1, vt), (5, vt), (9, vp 79 0), (12, vf), (13, vf)] 896 2116 L6t = true := (and_snd (and_snd q2_5t))
theorem q1_11t : (and (part1 11 true [(1, vt), (5, vt), (9, vp 119 0)] 1473 L11t) (and (part1 12 false [(1, vf), (5, vt), (9, vp 128 0)] 1588 L12f) (part1 12 true [(1, vt), (5, vt), (9, vp 127 0)] 1587 L12t))) = true := by kernel_rfl
theorem p1_11t : part1 11 true [(1, vt), (5, vt), (9, vp 119 0)] 1473 L11t = true := and_fst q1_11t
theorem p1_12f : part1 12 false [(1, vf), (5, vt), (9, vp 128 0)] 1588 L12f = true := and_fst (and_snd q1_11t)
theorem p1_12t : part1 12 true [(1, vt), (5, vt), (9, vp 127 0)] 1587 L12t = true := (and_snd (and_snd q1_11t))
end Go.Proofs.YtfigbldiffjmbaaGreatDoor
