/- SetLoop: runs by the kernel. -/
import Derived.Test.YtfigbldiffjmbaaGreatDoorSL
namespace Go.Proofs.YtfigbldiffjmbaaGreatDoor
open Cx
set_option maxRecDepth 1000000
theorem q2_1f : (and (part2 [(1, vf), (5, vt), (9, vp 40 0)] [(1, vf), (5, vt), (9, vp 40 0), (12, vt), (13, vt)] 336 831 L1f) (and (part2 [(1, vt), (5, vt), (9, vp 39 0)] [(1, vt), (5, vt), (9, vp 39 0), (12, vf), (13, vf)] 335 699 L1t) (and (part2 [(1, vf), (5, vt), (9, vp 48 0)] [(1, vf), (5, vt), (9, vp 48 0), (12, vt), (13, vt)] 448 1115 L2f) (and (part2 [(1, vt), (5, vt), (9, vp 47 0)] [(1, vt), (5, vt), (9, vp 47 0), (12, vf), (13, vf)] 446 977 L2t) (and (part2 [(1, vf), (5, vt), (9, vp 56 0)] [(1, vf), (5, vt), (9, vp 56 0), (12, vt), (13, vt)] 561 1403 L3f) (part2 [(1, vt), (5, vt), (9, vp 55 0)] [(1, vt), (5, vt), (9, vp 55 0), (12, vf), (13, vf)] 559 1263 L3t)))))) = true := by kernel_rfl
theorem p2_1f : part2 [(1, vf), (5, vt), (9, vp 40 0)] [(1, vf), (5, vt), (9, vp 40 0), (12, vt), (13, vt)] 336 831 L1f = true := and_fst q2_1f
theorem p2_1t : part2 [(1, vt), (5, vt), (9, vp 39 0)] [(1, vt), (5, vt), (9, vp 39 0), (12, vf), (13, vf)] 335 699 L1t = true := and_fst (and_snd q2_1f)
theorem p2_2f : part2 [(1, vf), (5, vt), (9, vp 48 0)] [(1, vf), (5, vt), (9, vp 48 0), (12, vt), (13, vt)] 448 1115 L2f = true := and_fst (and_snd (and_snd q2_1f))
theorem p2_2t : part2 [(1, vt), (5, vt), (9, vp 47 0)] [(1, vt), (5, vt), (9, vp 47 0), (12, vf), (13, vf)] 446 977 L2t = true := and_fst (and_snd (and_snd (and_snd q2_1f)))
theorem p2_3f : part2 [(1, vf), (5, vt), (9, vp 56 0)] [(1, vf), (5, vt), (9, vp 56 0), (12, vt), (13, vt)] 561 1403 L3f = true := and_fst (and_snd (and_snd (and_snd (and_snd q2_1f))))
theorem p2_3t : part2 [(1, vt), (5, vt), (9, vp 55 0)] [(1, vt), (5, vt), (9, vp 55 0), (12, vf), (13, vf)] 559 1263 L3t = true := (and_snd (and_snd (and_snd (and_snd (and_snd q2_1f)))))
theorem p3_12f : part3 [(1, vf), (5, vt), (9, vp 128 0), (12, vt), (13, vt)] 4024 L12f = true := by kernel_rfl
theorem p2_12f : part2 [(1, vf), (5, vt), (9, vp 128 0)] [(1, vf), (5, vt), (9, vp 128 0), (12, vt), (13, vt)] 1588 4024 L12f = true := by kernel_rfl
theorem p3_24t : part3 [(1, vt), (5, vt), (9, vp 223 0), (12, vf), (13, vf)] 7381 L24t = true := by kernel_rfl
theorem p2_19f : part2 [(1, vf), (5, vt), (9, vp 184 0)] [(1, vf), (5, vt), (9, vp 184 0), (12, vt), (13, vt)] 2390 6084 L19f = true := by kernel_rfl
end Go.Proofs.YtfigbldiffjmbaaGreatDoor
