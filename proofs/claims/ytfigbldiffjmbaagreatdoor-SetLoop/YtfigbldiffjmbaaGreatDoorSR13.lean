/- SetLoop: runs by the kernel. -/
import Derived.Test.YtfigbldiffjmbaaGreatDoorSL
namespace Go.Proofs.YtfigbldiffjmbaaGreatDoor
open Cx
set_option maxRecDepth 1000000
theorem p3_20t : part3 [(1, vt), (5, vt), (9, vp 191 0), (12, vf), (13, vf)] 6202 L20t = true := by kernel_rfl
theorem p3_17t : part3 [(1, vt), (5, vt), (9, vp 167 0), (12, vf), (13, vf)] 5320 L17t = true := by kernel_rfl
theorem p3_15f : part3 [(1, vf), (5, vt), (9, vp 152 0), (12, vt), (13, vt)] 4900 L15f = true := by kernel_rfl
theorem p1_24t : part1 24 true [(1, vt), (5, vt), (9, vp 223 0)] 2963 L24t = true := by kernel_rfl
theorem p1_22t : part1 22 true [(1, vt), (5, vt), (9, vp 207 0)] 2733 L22t = true := by kernel_rfl
theorem p3_23f : part3 [(1, vf), (5, vt), (9, vp 216 0), (12, vt), (13, vt)] 7269 L23f = true := by kernel_rfl
end Go.Proofs.YtfigbldiffjmbaaGreatDoor
