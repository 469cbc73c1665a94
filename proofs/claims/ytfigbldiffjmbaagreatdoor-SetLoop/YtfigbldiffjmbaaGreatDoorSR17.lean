/- SetLoop: runs by the kernel. -/
import Derived.Test.YtfigbldiffjmbaaGreatDoorSL
namespace Go.Proofs.YtfigbldiffjmbaaGreatDoor
open Cx
set_option maxRecDepth 1000000
theorem p1_23t : part1 23 true [(1, vt), (5, vt), (9, vp 215 0)] 2848 L23t = true := by kernel_rfl
theorem p3_22f : part3 [(1, vf), (5, vt), (9, vp 208 0), (12, vt), (13, vt)] 6973 L22f = true := by kernel_rfl
theorem p3_21t : part3 [(1, vt), (5, vt), (9, vp 199 0), (12, vf), (13, vf)] 6496 L21t = true := by kernel_rfl
theorem p2_17t : part2 [(1, vt), (5, vt), (9, vp 167 0)] [(1, vt), (5, vt), (9, vp 167 0), (12, vf), (13, vf)] 2158 5320 L17t = true := by kernel_rfl
theorem q2_4f : (and (part2 [(1, vf), (5, vt), (9, vp 64 0)] [(1, vf), (5, vt), (9, vp 64 0), (12, vt), (13, vt)] 673 1692 L4f) (and (part2 [(1, vt), (5, vt), (9, vp 63 0)] [(1, vt), (5, vt), (9, vp 63 0), (12, vf), (13, vf)] 672 1552 L4t) (part2 [(1, vf), (5, vt), (9, vp 72 0)] [(1, vf), (5, vt), (9, vp 72 0), (12, vt), (13, vt)] 785 1976 L5f))) = true := by kernel_rfl
theorem p2_4f : part2 [(1, vf), (5, vt), (9, vp 64 0)] [(1, vf), (5, vt), (9, vp 64 0), (12, vt), (13, vt)] 673 1692 L4f = true := and_fst q2_4f
theorem p2_4t : part2 [(1, vt), (5, vt), (9, vp 63 0)] [(1, vt), (5, vt), (9, vp 63 0), (12, vf), (13, vf)] 672 1552 L4t = true := and_fst (and_snd q2_4f)
theorem p2_5f : part2 [(1, vf), (5, vt), (9, vp 72 0)] [(1, vf), (5, vt), (9, vp 72 0), (12, vt), (13, vt)] 785 1976 L5f = true := (and_snd (and_snd q2_4f))
theorem p1_23f : part1 23 false [(1, vf), (5, vt), (9, vp 216 0)] 2849 L23f = true := by kernel_rfl
end Go.Proofs.YtfigbldiffjmbaaGreatDoor
