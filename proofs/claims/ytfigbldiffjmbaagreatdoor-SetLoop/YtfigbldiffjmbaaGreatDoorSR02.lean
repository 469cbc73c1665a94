/- SetLoop: runs by the kernel. -/
import Derived.Test.YtfigbldiffjmbaaGreatDoorSL
namespace Go.Proofs.YtfigbldiffjmbaaGreatDoor
open Cx
set_option maxRecDepth 1000000
theorem q1_16f : (and (part1 16 false [(1, vf), (5, vt), (9, vp 160 0)] 2045 L16f) (part1 16 true [(1, vt), (5, vt), (9, vp 159 0)] 2043 L16t)) = true := by kernel_rfl
theorem p1_16f : part1 16 false [(1, vf), (5, vt), (9, vp 160 0)] 2045 L16f = true := and_fst q1_16f
theorem p1_16t : part1 16 true [(1, vt), (5, vt), (9, vp 159 0)] 2043 L16t = true := (and_snd q1_16f)
theorem p3_16t : part3 [(1, vt), (5, vt), (9, vp 159 0), (12, vf), (13, vf)] 5026 L16t = true := by kernel_rfl
theorem p3_11t : part3 [(1, vt), (5, vt), (9, vp 119 0), (12, vf), (13, vf)] 3576 L11t = true := by kernel_rfl
theorem p2_26f : part2 [(1, vf), (5, vt), (9, vp 240 0)] [(1, vf), (5, vt), (9, vp 240 0), (12, vt), (13, vt)] 3194 8157 L26f = true := by kernel_rfl
theorem q3_1f : (and (part3 [(1, vf), (5, vt), (9, vp 40 0), (12, vt), (13, vt)] 831 L1f) (and (part3 [(1, vt), (5, vt), (9, vp 39 0), (12, vf), (13, vf)] 699 L1t) (and (part3 [(1, vf), (5, vt), (9, vp 48 0), (12, vt), (13, vt)] 1115 L2f) (and (part3 [(1, vt), (5, vt), (9, vp 47 0), (12, vf), (13, vf)] 977 L2t) (and (part3 [(1, vf), (5, vt), (9, vp 56 0), (12, vt), (13, vt)] 1403 L3f) (part3 [(1, vt), (5, vt), (9, vp 55 0), (12, vf), (13, vf)] 1263 L3t)))))) = true := by kernel_rfl
theorem p3_1f : part3 [(1, vf), (5, vt), (9, vp 40 0), (12, vt), (13, vt)] 831 L1f = true := and_fst q3_1f
theorem p3_1t : part3 [(1, vt), (5, vt), (9, vp 39 0), (12, vf), (13, vf)] 699 L1t = true := and_fst (and_snd q3_1f)
theorem p3_2f : part3 [(1, vf), (5, vt), (9, vp 48 0), (12, vt), (13, vt)] 1115 L2f = true := and_fst (and_snd (and_snd q3_1f))
theorem p3_2t : part3 [(1, vt), (5, vt), (9, vp 47 0), (12, vf), (13, vf)] 977 L2t = true := and_fst (and_snd (and_snd (and_snd q3_1f)))
theorem p3_3f : part3 [(1, vf), (5, vt), (9, vp 56 0), (12, vt), (13, vt)] 1403 L3f = true := and_fst (and_snd (and_snd (and_snd (and_snd q3_1f))))
theorem p3_3t : part3 [(1, vt), (5, vt), (9, vp 55 0), (12, vf), (13, vf)] 1263 L3t = true := (and_snd (and_snd (and_snd (and_snd (and_snd q3_1f)))))
end Go.Proofs.YtfigbldiffjmbaaGreatDoor
