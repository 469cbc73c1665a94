/- SetLoop: runs by the kernel. -/
import Derived.Test.YtfigbldiffjmbaaGreatDoorSL
namespace Go.Proofs.YtfigbldiffjmbaaGreatDoor
open Cx
set_option maxRecDepth 1000000
theorem p3_10f : part3 [(1, vf), (5, vt), (9, vp 112 0), (12, vt), (13, vt)] 3433 L10f = true := by kernel_rfl
theorem p2_22t : part2 [(1, vt), (5, vt), (9, vp 207 0)] [(1, vt), (5, vt), (9, vp 207 0), (12, vf), (13, vf)] 2733 6793 L22t = true := by kernel_rfl
theorem p3_21f : part3 [(1, vf), (5, vt), (9, vp 200 0), (12, vt), (13, vt)] 6676 L21f = true := by kernel_rfl
theorem q1_19f : (and (part1 19 false [(1, vf), (5, vt), (9, vp 184 0)] 2390 L19f) (part1 19 true [(1, vt), (5, vt), (9, vp 183 0)] 2388 L19t)) = true := by kernel_rfl
theorem p1_19f : part1 19 false [(1, vf), (5, vt), (9, vp 184 0)] 2390 L19f = true := and_fst q1_19f
theorem p1_19t : part1 19 true [(1, vt), (5, vt), (9, vp 183 0)] 2388 L19t = true := (and_snd q1_19f)
theorem q1_10f : (and (part1 10 false [(1, vf), (5, vt), (9, vp 112 0)] 1353 L10f) (and (part1 10 true [(1, vt), (5, vt), (9, vp 111 0)] 1352 L10t) (part1 11 false [(1, vf), (5, vt), (9, vp 120 0)] 1474 L11f))) = true := by kernel_rfl
theorem p1_10f : part1 10 false [(1, vf), (5, vt), (9, vp 112 0)] 1353 L10f = true := and_fst q1_10f
theorem p1_10t : part1 10 true [(1, vt), (5, vt), (9, vp 111 0)] 1352 L10t = true := and_fst (and_snd q1_10f)
theorem p1_11f : part1 11 false [(1, vf), (5, vt), (9, vp 120 0)] 1474 L11f = true := (and_snd (and_snd q1_10f))
end Go.Proofs.YtfigbldiffjmbaaGreatDoor
