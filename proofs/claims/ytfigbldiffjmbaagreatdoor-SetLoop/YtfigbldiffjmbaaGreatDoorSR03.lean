/- SetLoop: runs by the kernel. -/
import Derived.Test.YtfigbldiffjmbaaGreatDoorSL
namespace Go.Proofs.YtfigbldiffjmbaaGreatDoor
open Cx
set_option maxRecDepth 1000000
theorem q1_17f : (and (part1 17 false [(1, vf), (5, vt), (9, vp 168 0)] 2160 L17f) (part1 17 true [(1, vt), (5, vt), (9, vp 167 0)] 2158 L17t)) = true := by kernel_rfl
theorem p1_17f : part1 17 false [(1, vf), (5, vt), (9, vp 168 0)] 2160 L17f = true := and_fst q1_17f
theorem p1_17t : part1 17 true [(1, vt), (5, vt), (9, vp 167 0)] 2158 L17t = true := (and_snd q1_17f)
theorem p1_25t : part1 25 true [(1, vt), (5, vt), (9, vp 231 0)] 3078 L25t = true := by kernel_rfl
theorem p2_26t : part2 [(1, vt), (5, vt), (9, vp 239 0)] [(1, vt), (5, vt), (9, vp 239 0), (12, vf), (13, vf)] 3193 7969 L26t = true := by kernel_rfl
theorem p3_18f : part3 [(1, vf), (5, vt), (9, vp 176 0), (12, vt), (13, vt)] 5788 L18f = true := by kernel_rfl
theorem q1_1f : (and (part1 1 false [(1, vf), (5, vt), (9, vp 40 0)] 336 L1f) (and (part1 1 true [(1, vt), (5, vt), (9, vp 39 0)] 335 L1t) (and (part1 2 false [(1, vf), (5, vt), (9, vp 48 0)] 448 L2f) (and (part1 2 true [(1, vt), (5, vt), (9, vp 47 0)] 446 L2t) (and (part1 3 false [(1, vf), (5, vt), (9, vp 56 0)] 561 L3f) (and (part1 3 true [(1, vt), (5, vt), (9, vp 55 0)] 559 L3t) (and (part1 4 false [(1, vf), (5, vt), (9, vp 64 0)] 673 L4f) (and (part1 4 true [(1, vt), (5, vt), (9, vp 63 0)] 672 L4t) (part1 5 false [(1, vf), (5, vt), (9, vp 72 0)] 785 L5f))))))))) = true := by kernel_rfl
theorem p1_1f : part1 1 false [(1, vf), (5, vt), (9, vp 40 0)] 336 L1f = true := and_fst q1_1f
theorem p1_1t : part1 1 true [(1, vt), (5, vt), (9, vp 39 0)] 335 L1t = true := and_fst (and_snd q1_1f)
theorem p1_2f : part1 2 false [(1, vf), (5, vt), (9, vp 48 0)] 448 L2f = true := and_fst (and_snd (and_snd q1_1f))
theorem p1_2t : part1 2 true [(1, vt), (5, vt), (9, vp 47 0)] 446 L2t = true := and_fst (and_snd (and_snd (and_snd q1_1f)))
theorem p1_3f : part1 3 false [(1, vf), (5, vt), (9, vp 56 0)] 561 L3f = true := and_fst (and_snd (and_snd (and_snd (and_snd q1_1f))))
theorem p1_3t : part1 3 true [(1, vt), (5, vt), (9, vp 55 0)] 559 L3t = true := and_fst (and_snd (and_snd (and_snd (and_snd (and_snd q1_1f)))))
theorem p1_4f : part1 4 false [(1, vf), (5, vt), (9, vp 64 0)] 673 L4f = true := and_fst (and_snd (and_snd (and_snd (and_snd (and_snd (and_snd q1_1f))))))
theorem p1_4t : part1 4 true [(1, vt), (5, vt), (9, vp 63 0)] 672 L4t = true := and_fst (and_snd (and_snd (and_snd (and_snd (and_snd (and_snd (and_snd q1_1f)))))))
theorem p1_5f : part1 5 false [(1, vf), (5, vt), (9, vp 72 0)] 785 L5f = true := (and_snd (and_snd (and_snd (and_snd (and_snd (and_snd (and_snd (and_snd q1_1f))))))))
end Go.Proofs.YtfigbldiffjmbaaGreatDoor
