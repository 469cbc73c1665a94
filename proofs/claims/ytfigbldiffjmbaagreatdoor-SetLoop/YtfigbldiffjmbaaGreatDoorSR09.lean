/- SetLoop: runs by the kernel. -/
import Derived.Test.YtfigbldiffjmbaaGreatDoorSL
namespace Go.Proofs.YtfigbldiffjmbaaGreatDoor
open Cx
set_option maxRecDepth 1000000
theorem p1_26t : part1 26 true [(1, vt), (5, vt), (9, vp 239 0)] 3193 L26t = true := by kernel_rfl
theorem p3_24f : part3 [(1, vf), (5, vt), (9, vp 224 0), (12, vt), (13, vt)] 7565 L24f = true := by kernel_rfl
theorem q3_5t : (and (part3 [(1, vt), (5, vt), (9, vp 71 0), (12, vf), (13, vf)] 1834 L5t) (and (part3 [(1, vf), (5, vt), (9, vp 80 0), (12, vt), (13, vt)] 2264 L6f) (part3 [(1, vt), (5, vt), (9, vp 79 0), (12, vf), (13, vf)] 2116 L6t))) = true := by kernel_rfl
theorem p3_5t : part3 [(1, vt), (5, vt), (9, vp 71 0), (12, vf), (13, vf)] 1834 L5t = true := and_fst q3_5t
theorem p3_6f : part3 [(1, vf), (5, vt), (9, vp 80 0), (12, vt), (13, vt)] 2264 L6f = true := and_fst (and_snd q3_5t)
theorem p3_6t : part3 [(1, vt), (5, vt), (9, vp 79 0), (12, vf), (13, vf)] 2116 L6t = true := (and_snd (and_snd q3_5t))
theorem p3_16f : part3 [(1, vf), (5, vt), (9, vp 160 0), (12, vt), (13, vt)] 5196 L16f = true := by kernel_rfl
theorem p3_14f : part3 [(1, vf), (5, vt), (9, vp 144 0), (12, vt), (13, vt)] 4604 L14f = true := by kernel_rfl
end Go.Proofs.YtfigbldiffjmbaaGreatDoor
