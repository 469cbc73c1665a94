/- SetLoop: runs by the kernel. -/
import Derived.Test.YtfigbldiffjmbaaGreatDoorSL
namespace Go.Proofs.YtfigbldiffjmbaaGreatDoor
open Cx
set_option maxRecDepth 1000000
theorem p2_19t : part2 [(1, vt), (5, vt), (9, vp 183 0)] [(1, vt), (5, vt), (9, vp 183 0), (12, vf), (13, vf)] 2388 5908 L19t = true := by kernel_rfl
theorem q1_5t : (and (part1 5 true [(1, vt), (5, vt), (9, vp 71 0)] 784 L5t) (and (part1 6 false [(1, vf), (5, vt), (9, vp 80 0)] 898 L6f) (and (part1 6 true [(1, vt), (5, vt), (9, vp 79 0)] 896 L6t) (and (part1 7 false [(1, vf), (5, vt), (9, vp 88 0)] 1012 L7f) (part1 7 true [(1, vt), (5, vt), (9, vp 87 0)] 1010 L7t))))) = true := by kernel_rfl
theorem p1_5t : part1 5 true [(1, vt), (5, vt), (9, vp 71 0)] 784 L5t = true := and_fst q1_5t
theorem p1_6f : part1 6 false [(1, vf), (5, vt), (9, vp 80 0)] 898 L6f = true := and_fst (and_snd q1_5t)
theorem p1_6t : part1 6 true [(1, vt), (5, vt), (9, vp 79 0)] 896 L6t = true := and_fst (and_snd (and_snd q1_5t))
theorem p1_7f : part1 7 false [(1, vf), (5, vt), (9, vp 88 0)] 1012 L7f = true := and_fst (and_snd (and_snd (and_snd q1_5t)))
theorem p1_7t : part1 7 true [(1, vt), (5, vt), (9, vp 87 0)] 1010 L7t = true := (and_snd (and_snd (and_snd (and_snd q1_5t))))
theorem q3_7f : (and (part3 [(1, vf), (5, vt), (9, vp 88 0), (12, vt), (13, vt)] 2556 L7f) (part3 [(1, vt), (5, vt), (9, vp 87 0), (12, vf), (13, vf)] 2406 L7t)) = true := by kernel_rfl
theorem p3_7f : part3 [(1, vf), (5, vt), (9, vp 88 0), (12, vt), (13, vt)] 2556 L7f = true := and_fst q3_7f
theorem p3_7t : part3 [(1, vt), (5, vt), (9, vp 87 0), (12, vf), (13, vf)] 2406 L7t = true := (and_snd q3_7f)
theorem p3_10t : part3 [(1, vt), (5, vt), (9, vp 111 0), (12, vf), (13, vf)] 3279 L10t = true := by kernel_rfl
theorem p2_25f : part2 [(1, vf), (5, vt), (9, vp 232 0)] [(1, vf), (5, vt), (9, vp 232 0), (12, vt), (13, vt)] 3079 7861 L25f = true := by kernel_rfl
end Go.Proofs.YtfigbldiffjmbaaGreatDoor
