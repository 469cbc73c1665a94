/- SetLoop: runs by the kernel. -/
import Derived.Test.YtfigbldiffjmbaaGreatDoorSL
namespace Go.Proofs.YtfigbldiffjmbaaGreatDoor
open Cx
set_option maxRecDepth 1000000
theorem q1_15f : (and (part1 15 false [(1, vf), (5, vt), (9, vp 152 0)] 1930 L15f) (part1 15 true [(1, vt), (5, vt), (9, vp 151 0)] 1928 L15t)) = true := by kernel_rfl
theorem p1_15f : part1 15 false [(1, vf), (5, vt), (9, vp 152 0)] 1930 L15f = true := and_fst q1_15f
theorem p1_15t : part1 15 true [(1, vt), (5, vt), (9, vp 151 0)] 1928 L15t = true := (and_snd q1_15f)
theorem p3_12t : part3 [(1, vt), (5, vt), (9, vp 127 0), (12, vf), (13, vf)] 3866 L12t = true := by kernel_rfl
theorem p2_22f : part2 [(1, vf), (5, vt), (9, vp 208 0)] [(1, vf), (5, vt), (9, vp 208 0), (12, vt), (13, vt)] 2734 6973 L22f = true := by kernel_rfl
theorem p2_21t : part2 [(1, vt), (5, vt), (9, vp 199 0)] [(1, vt), (5, vt), (9, vp 199 0), (12, vf), (13, vf)] 2618 6496 L21t = true := by kernel_rfl
theorem p3_17f : part3 [(1, vf), (5, vt), (9, vp 168 0), (12, vt), (13, vt)] 5492 L17f = true := by kernel_rfl
end Go.Proofs.YtfigbldiffjmbaaGreatDoor
