/- SetLoop: runs by the kernel. -/
import Derived.Test.YtfigbldiffjmbaaGreatDoorSL
namespace Go.Proofs.YtfigbldiffjmbaaGreatDoor
open Cx
set_option maxRecDepth 1000000
theorem p3_19f : part3 [(1, vf), (5, vt), (9, vp 184 0), (12, vt), (13, vt)] 6084 L19f = true := by kernel_rfl
theorem q3_8f : (and (part3 [(1, vf), (5, vt), (9, vp 96 0), (12, vt), (13, vt)] 2848 L8f) (part3 [(1, vt), (5, vt), (9, vp 95 0), (12, vf), (13, vf)] 2696 L8t)) = true := by kernel_rfl
theorem p3_8f : part3 [(1, vf), (5, vt), (9, vp 96 0), (12, vt), (13, vt)] 2848 L8f = true := and_fst q3_8f
theorem p3_8t : part3 [(1, vt), (5, vt), (9, vp 95 0), (12, vf), (13, vf)] 2696 L8t = true := (and_snd q3_8f)
theorem p3_13f : part3 [(1, vf), (5, vt), (9, vp 136 0), (12, vt), (13, vt)] 4312 L13f = true := by kernel_rfl
theorem p2_11f : part2 [(1, vf), (5, vt), (9, vp 120 0)] [(1, vf), (5, vt), (9, vp 120 0), (12, vt), (13, vt)] 1474 3732 L11f = true := by kernel_rfl
theorem p2_24t : part2 [(1, vt), (5, vt), (9, vp 223 0)] [(1, vt), (5, vt), (9, vp 223 0), (12, vf), (13, vf)] 2963 7381 L24t = true := by kernel_rfl
end Go.Proofs.YtfigbldiffjmbaaGreatDoor
