/- SetLoop: runs by the kernel. -/
import Derived.Test.YtfigbldiffjmbaaGreatDoorSL
namespace Go.Proofs.YtfigbldiffjmbaaGreatDoor
open Cx
set_option maxRecDepth 1000000
theorem q1_20f : (and (part1 20 false [(1, vf), (5, vt), (9, vp 192 0)] 2505 L20f) (part1 20 true [(1, vt), (5, vt), (9, vp 191 0)] 2503 L20t)) = true := by kernel_rfl
theorem p1_20f : part1 20 false [(1, vf), (5, vt), (9, vp 192 0)] 2505 L20f = true := and_fst q1_20f
theorem p1_20t : part1 20 true [(1, vt), (5, vt), (9, vp 191 0)] 2503 L20t = true := (and_snd q1_20f)
theorem p2_16t : part2 [(1, vt), (5, vt), (9, vp 159 0)] [(1, vt), (5, vt), (9, vp 159 0), (12, vf), (13, vf)] 2043 5026 L16t = true := by kernel_rfl
theorem p2_14f : part2 [(1, vf), (5, vt), (9, vp 144 0)] [(1, vf), (5, vt), (9, vp 144 0), (12, vt), (13, vt)] 1815 4604 L14f = true := by kernel_rfl
theorem p1_26f : part1 26 false [(1, vf), (5, vt), (9, vp 240 0)] 3194 L26f = true := by kernel_rfl
theorem p3_26f : part3 [(1, vf), (5, vt), (9, vp 240 0), (12, vt), (13, vt)] 8157 L26f = true := by kernel_rfl
end Go.Proofs.YtfigbldiffjmbaaGreatDoor
