/- SetLoop: runs by the kernel. -/
import Derived.Test.YtfigbldiffjmbaaGreatDoorSL
namespace Go.Proofs.YtfigbldiffjmbaaGreatDoor
open Cx
set_option maxRecDepth 1000000
theorem p1_22f : part1 22 false [(1, vf), (5, vt), (9, vp 208 0)] 2734 L22f = true := by kernel_rfl
theorem p3_25f : part3 [(1, vf), (5, vt), (9, vp 232 0), (12, vt), (13, vt)] 7861 L25f = true := by kernel_rfl
theorem p3_19t : part3 [(1, vt), (5, vt), (9, vp 183 0), (12, vf), (13, vf)] 5908 L19t = true := by kernel_rfl
theorem q3_4f : (and (part3 [(1, vf), (5, vt), (9, vp 64 0), (12, vt), (13, vt)] 1692 L4f) (and (part3 [(1, vt), (5, vt), (9, vp 63 0), (12, vf), (13, vf)] 1552 L4t) (part3 [(1, vf), (5, vt), (9, vp 72 0), (12, vt), (13, vt)] 1976 L5f))) = true := by kernel_rfl
theorem p3_4f : part3 [(1, vf), (5, vt), (9, vp 64 0), (12, vt), (13, vt)] 1692 L4f = true := and_fst q3_4f
theorem p3_4t : part3 [(1, vt), (5, vt), (9, vp 63 0), (12, vf), (13, vf)] 1552 L4t = true := and_fst (and_snd q3_4f)
theorem p3_5f : part3 [(1, vf), (5, vt), (9, vp 72 0), (12, vt), (13, vt)] 1976 L5f = true := (and_snd (and_snd q3_4f))
theorem p2_15f : part2 [(1, vf), (5, vt), (9, vp 152 0)] [(1, vf), (5, vt), (9, vp 152 0), (12, vt), (13, vt)] 1930 4900 L15f = true := by kernel_rfl
theorem p1_24f : part1 24 false [(1, vf), (5, vt), (9, vp 224 0)] 2964 L24f = true := by kernel_rfl
end Go.Proofs.YtfigbldiffjmbaaGreatDoor
