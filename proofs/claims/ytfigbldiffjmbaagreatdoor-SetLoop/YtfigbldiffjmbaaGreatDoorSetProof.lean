/- SetLoop holds: called with any number and any truth, the law returns true, without a panic, where the listed package-level variables hold what the program's text lays. -/
import Derived.Test.YtfigbldiffjmbaaGreatDoorSb
import Derived.Test.YtfigbldiffjmbaaGreatDoorSR01
import Derived.Test.YtfigbldiffjmbaaGreatDoorSR02
import Derived.Test.YtfigbldiffjmbaaGreatDoorSR03
import Derived.Test.YtfigbldiffjmbaaGreatDoorSR04
import Derived.Test.YtfigbldiffjmbaaGreatDoorSR05
import Derived.Test.YtfigbldiffjmbaaGreatDoorSR06
import Derived.Test.YtfigbldiffjmbaaGreatDoorSR07
import Derived.Test.YtfigbldiffjmbaaGreatDoorSR08
import Derived.Test.YtfigbldiffjmbaaGreatDoorSR09
import Derived.Test.YtfigbldiffjmbaaGreatDoorSR10
import Derived.Test.YtfigbldiffjmbaaGreatDoorSR11
import Derived.Test.YtfigbldiffjmbaaGreatDoorSR12
import Derived.Test.YtfigbldiffjmbaaGreatDoorSR13
import Derived.Test.YtfigbldiffjmbaaGreatDoorSR14
import Derived.Test.YtfigbldiffjmbaaGreatDoorSR15
import Derived.Test.YtfigbldiffjmbaaGreatDoorSR16
import Derived.Test.YtfigbldiffjmbaaGreatDoorSR17
import Derived.Test.YtfigbldiffjmbaaGreatDoorSR18
import Derived.Test.YtfigbldiffjmbaaGreatDoorSR19
import Derived.Test.YtfigbldiffjmbaaGreatDoorSR20
import Derived.KernelRfl
namespace Go.Proofs.YtfigbldiffjmbaaGreatDoor
open Go.ChangeShapes Go.WideShapes Go.ChangeAt Go.RowKit Go.Lib Go.Shelf
open Go.Joins
open Cx
set_option linter.unusedVariables false
set_option maxRecDepth 1000000
theorem r_1f : Runs 1 false := ⟨[(1, vf), (5, vt), (9, vp 40 0)], 336, L1f, [(1, vf), (5, vt), (9, vp 40 0), (12, vt), (13, vt)], 831, p1_1f, p2_1f, p3_1f⟩
theorem r_1t : Runs 1 true := ⟨[(1, vt), (5, vt), (9, vp 39 0)], 335, L1t, [(1, vt), (5, vt), (9, vp 39 0), (12, vf), (13, vf)], 699, p1_1t, p2_1t, p3_1t⟩
theorem r_2f : Runs 2 false := ⟨[(1, vf), (5, vt), (9, vp 48 0)], 448, L2f, [(1, vf), (5, vt), (9, vp 48 0), (12, vt), (13, vt)], 1115, p1_2f, p2_2f, p3_2f⟩
theorem r_2t : Runs 2 true := ⟨[(1, vt), (5, vt), (9, vp 47 0)], 446, L2t, [(1, vt), (5, vt), (9, vp 47 0), (12, vf), (13, vf)], 977, p1_2t, p2_2t, p3_2t⟩
theorem r_3f : Runs 3 false := ⟨[(1, vf), (5, vt), (9, vp 56 0)], 561, L3f, [(1, vf), (5, vt), (9, vp 56 0), (12, vt), (13, vt)], 1403, p1_3f, p2_3f, p3_3f⟩
theorem r_3t : Runs 3 true := ⟨[(1, vt), (5, vt), (9, vp 55 0)], 559, L3t, [(1, vt), (5, vt), (9, vp 55 0), (12, vf), (13, vf)], 1263, p1_3t, p2_3t, p3_3t⟩
theorem r_4f : Runs 4 false := ⟨[(1, vf), (5, vt), (9, vp 64 0)], 673, L4f, [(1, vf), (5, vt), (9, vp 64 0), (12, vt), (13, vt)], 1692, p1_4f, p2_4f, p3_4f⟩
theorem r_4t : Runs 4 true := ⟨[(1, vt), (5, vt), (9, vp 63 0)], 672, L4t, [(1, vt), (5, vt), (9, vp 63 0), (12, vf), (13, vf)], 1552, p1_4t, p2_4t, p3_4t⟩
theorem r_5f : Runs 5 false := ⟨[(1, vf), (5, vt), (9, vp 72 0)], 785, L5f, [(1, vf), (5, vt), (9, vp 72 0), (12, vt), (13, vt)], 1976, p1_5f, p2_5f, p3_5f⟩
theorem r_5t : Runs 5 true := ⟨[(1, vt), (5, vt), (9, vp 71 0)], 784, L5t, [(1, vt), (5, vt), (9, vp 71 0), (12, vf), (13, vf)], 1834, p1_5t, p2_5t, p3_5t⟩
theorem r_6f : Runs 6 false := ⟨[(1, vf), (5, vt), (9, vp 80 0)], 898, L6f, [(1, vf), (5, vt), (9, vp 80 0), (12, vt), (13, vt)], 2264, p1_6f, p2_6f, p3_6f⟩
theorem r_6t : Runs 6 true := ⟨[(1, vt), (5, vt), (9, vp 79 0)], 896, L6t, [(1, vt), (5, vt), (9, vp 79 0), (12, vf), (13, vf)], 2116, p1_6t, p2_6t, p3_6t⟩
theorem r_7f : Runs 7 false := ⟨[(1, vf), (5, vt), (9, vp 88 0)], 1012, L7f, [(1, vf), (5, vt), (9, vp 88 0), (12, vt), (13, vt)], 2556, p1_7f, p2_7f, p3_7f⟩
theorem r_7t : Runs 7 true := ⟨[(1, vt), (5, vt), (9, vp 87 0)], 1010, L7t, [(1, vt), (5, vt), (9, vp 87 0), (12, vf), (13, vf)], 2406, p1_7t, p2_7t, p3_7t⟩
theorem r_8f : Runs 8 false := ⟨[(1, vf), (5, vt), (9, vp 96 0)], 1126, L8f, [(1, vf), (5, vt), (9, vp 96 0), (12, vt), (13, vt)], 2848, p1_8f, p2_8f, p3_8f⟩
theorem r_8t : Runs 8 true := ⟨[(1, vt), (5, vt), (9, vp 95 0)], 1124, L8t, [(1, vt), (5, vt), (9, vp 95 0), (12, vf), (13, vf)], 2696, p1_8t, p2_8t, p3_8t⟩
theorem r_9f : Runs 9 false := ⟨[(1, vf), (5, vt), (9, vp 104 0)], 1240, L9f, [(1, vf), (5, vt), (9, vp 104 0), (12, vt), (13, vt)], 3140, p1_9f, p2_9f, p3_9f⟩
theorem r_9t : Runs 9 true := ⟨[(1, vt), (5, vt), (9, vp 103 0)], 1238, L9t, [(1, vt), (5, vt), (9, vp 103 0), (12, vf), (13, vf)], 2986, p1_9t, p2_9t, p3_9t⟩
theorem r_10f : Runs 10 false := ⟨[(1, vf), (5, vt), (9, vp 112 0)], 1353, L10f, [(1, vf), (5, vt), (9, vp 112 0), (12, vt), (13, vt)], 3433, p1_10f, p2_10f, p3_10f⟩
theorem r_10t : Runs 10 true := ⟨[(1, vt), (5, vt), (9, vp 111 0)], 1352, L10t, [(1, vt), (5, vt), (9, vp 111 0), (12, vf), (13, vf)], 3279, p1_10t, p2_10t, p3_10t⟩
theorem r_11f : Runs 11 false := ⟨[(1, vf), (5, vt), (9, vp 120 0)], 1474, L11f, [(1, vf), (5, vt), (9, vp 120 0), (12, vt), (13, vt)], 3732, p1_11f, p2_11f, p3_11f⟩
theorem r_11t : Runs 11 true := ⟨[(1, vt), (5, vt), (9, vp 119 0)], 1473, L11t, [(1, vt), (5, vt), (9, vp 119 0), (12, vf), (13, vf)], 3576, p1_11t, p2_11t, p3_11t⟩
theorem r_12f : Runs 12 false := ⟨[(1, vf), (5, vt), (9, vp 128 0)], 1588, L12f, [(1, vf), (5, vt), (9, vp 128 0), (12, vt), (13, vt)], 4024, p1_12f, p2_12f, p3_12f⟩
theorem r_12t : Runs 12 true := ⟨[(1, vt), (5, vt), (9, vp 127 0)], 1587, L12t, [(1, vt), (5, vt), (9, vp 127 0), (12, vf), (13, vf)], 3866, p1_12t, p2_12t, p3_12t⟩
theorem r_13f : Runs 13 false := ⟨[(1, vf), (5, vt), (9, vp 136 0)], 1701, L13f, [(1, vf), (5, vt), (9, vp 136 0), (12, vt), (13, vt)], 4312, p1_13f, p2_13f, p3_13f⟩
theorem r_13t : Runs 13 true := ⟨[(1, vt), (5, vt), (9, vp 135 0)], 1700, L13t, [(1, vt), (5, vt), (9, vp 135 0), (12, vf), (13, vf)], 4152, p1_13t, p2_13t, p3_13t⟩
theorem r_14f : Runs 14 false := ⟨[(1, vf), (5, vt), (9, vp 144 0)], 1815, L14f, [(1, vf), (5, vt), (9, vp 144 0), (12, vt), (13, vt)], 4604, p1_14f, p2_14f, p3_14f⟩
theorem r_14t : Runs 14 true := ⟨[(1, vt), (5, vt), (9, vp 143 0)], 1813, L14t, [(1, vt), (5, vt), (9, vp 143 0), (12, vf), (13, vf)], 4438, p1_14t, p2_14t, p3_14t⟩
theorem r_15f : Runs 15 false := ⟨[(1, vf), (5, vt), (9, vp 152 0)], 1930, L15f, [(1, vf), (5, vt), (9, vp 152 0), (12, vt), (13, vt)], 4900, p1_15f, p2_15f, p3_15f⟩
theorem r_15t : Runs 15 true := ⟨[(1, vt), (5, vt), (9, vp 151 0)], 1928, L15t, [(1, vt), (5, vt), (9, vp 151 0), (12, vf), (13, vf)], 4732, p1_15t, p2_15t, p3_15t⟩
theorem r_16f : Runs 16 false := ⟨[(1, vf), (5, vt), (9, vp 160 0)], 2045, L16f, [(1, vf), (5, vt), (9, vp 160 0), (12, vt), (13, vt)], 5196, p1_16f, p2_16f, p3_16f⟩
theorem r_16t : Runs 16 true := ⟨[(1, vt), (5, vt), (9, vp 159 0)], 2043, L16t, [(1, vt), (5, vt), (9, vp 159 0), (12, vf), (13, vf)], 5026, p1_16t, p2_16t, p3_16t⟩
theorem r_17f : Runs 17 false := ⟨[(1, vf), (5, vt), (9, vp 168 0)], 2160, L17f, [(1, vf), (5, vt), (9, vp 168 0), (12, vt), (13, vt)], 5492, p1_17f, p2_17f, p3_17f⟩
theorem r_17t : Runs 17 true := ⟨[(1, vt), (5, vt), (9, vp 167 0)], 2158, L17t, [(1, vt), (5, vt), (9, vp 167 0), (12, vf), (13, vf)], 5320, p1_17t, p2_17t, p3_17t⟩
theorem r_18f : Runs 18 false := ⟨[(1, vf), (5, vt), (9, vp 176 0)], 2275, L18f, [(1, vf), (5, vt), (9, vp 176 0), (12, vt), (13, vt)], 5788, p1_18f, p2_18f, p3_18f⟩
theorem r_18t : Runs 18 true := ⟨[(1, vt), (5, vt), (9, vp 175 0)], 2273, L18t, [(1, vt), (5, vt), (9, vp 175 0), (12, vf), (13, vf)], 5614, p1_18t, p2_18t, p3_18t⟩
theorem r_19f : Runs 19 false := ⟨[(1, vf), (5, vt), (9, vp 184 0)], 2390, L19f, [(1, vf), (5, vt), (9, vp 184 0), (12, vt), (13, vt)], 6084, p1_19f, p2_19f, p3_19f⟩
theorem r_19t : Runs 19 true := ⟨[(1, vt), (5, vt), (9, vp 183 0)], 2388, L19t, [(1, vt), (5, vt), (9, vp 183 0), (12, vf), (13, vf)], 5908, p1_19t, p2_19t, p3_19t⟩
theorem r_20f : Runs 20 false := ⟨[(1, vf), (5, vt), (9, vp 192 0)], 2505, L20f, [(1, vf), (5, vt), (9, vp 192 0), (12, vt), (13, vt)], 6380, p1_20f, p2_20f, p3_20f⟩
theorem r_20t : Runs 20 true := ⟨[(1, vt), (5, vt), (9, vp 191 0)], 2503, L20t, [(1, vt), (5, vt), (9, vp 191 0), (12, vf), (13, vf)], 6202, p1_20t, p2_20t, p3_20t⟩
theorem r_21f : Runs 21 false := ⟨[(1, vf), (5, vt), (9, vp 200 0)], 2620, L21f, [(1, vf), (5, vt), (9, vp 200 0), (12, vt), (13, vt)], 6676, p1_21f, p2_21f, p3_21f⟩
theorem r_21t : Runs 21 true := ⟨[(1, vt), (5, vt), (9, vp 199 0)], 2618, L21t, [(1, vt), (5, vt), (9, vp 199 0), (12, vf), (13, vf)], 6496, p1_21t, p2_21t, p3_21t⟩
theorem r_22f : Runs 22 false := ⟨[(1, vf), (5, vt), (9, vp 208 0)], 2734, L22f, [(1, vf), (5, vt), (9, vp 208 0), (12, vt), (13, vt)], 6973, p1_22f, p2_22f, p3_22f⟩
theorem r_22t : Runs 22 true := ⟨[(1, vt), (5, vt), (9, vp 207 0)], 2733, L22t, [(1, vt), (5, vt), (9, vp 207 0), (12, vf), (13, vf)], 6793, p1_22t, p2_22t, p3_22t⟩
theorem r_23f : Runs 23 false := ⟨[(1, vf), (5, vt), (9, vp 216 0)], 2849, L23f, [(1, vf), (5, vt), (9, vp 216 0), (12, vt), (13, vt)], 7269, p1_23f, p2_23f, p3_23f⟩
theorem r_23t : Runs 23 true := ⟨[(1, vt), (5, vt), (9, vp 215 0)], 2848, L23t, [(1, vt), (5, vt), (9, vp 215 0), (12, vf), (13, vf)], 7087, p1_23t, p2_23t, p3_23t⟩
theorem r_24f : Runs 24 false := ⟨[(1, vf), (5, vt), (9, vp 224 0)], 2964, L24f, [(1, vf), (5, vt), (9, vp 224 0), (12, vt), (13, vt)], 7565, p1_24f, p2_24f, p3_24f⟩
theorem r_24t : Runs 24 true := ⟨[(1, vt), (5, vt), (9, vp 223 0)], 2963, L24t, [(1, vt), (5, vt), (9, vp 223 0), (12, vf), (13, vf)], 7381, p1_24t, p2_24t, p3_24t⟩
theorem r_25f : Runs 25 false := ⟨[(1, vf), (5, vt), (9, vp 232 0)], 3079, L25f, [(1, vf), (5, vt), (9, vp 232 0), (12, vt), (13, vt)], 7861, p1_25f, p2_25f, p3_25f⟩
theorem r_25t : Runs 25 true := ⟨[(1, vt), (5, vt), (9, vp 231 0)], 3078, L25t, [(1, vt), (5, vt), (9, vp 231 0), (12, vf), (13, vf)], 7675, p1_25t, p2_25t, p3_25t⟩
theorem r_26f : Runs 26 false := ⟨[(1, vf), (5, vt), (9, vp 240 0)], 3194, L26f, [(1, vf), (5, vt), (9, vp 240 0), (12, vt), (13, vt)], 8157, p1_26f, p2_26f, p3_26f⟩
theorem r_26t : Runs 26 true := ⟨[(1, vt), (5, vt), (9, vp 239 0)], 3193, L26t, [(1, vt), (5, vt), (9, vp 239 0), (12, vf), (13, vf)], 7969, p1_26t, p2_26t, p3_26t⟩
theorem set_runs (k : Nat) (ring : Bool) (h1 : 1 ≤ k) (h2 : k ≤ 26) : Runs k ring := by
  match k, h1, h2 with
  | 1, _, _ => exact (match ring with | false => r_1f | true => r_1t)
  | 2, _, _ => exact (match ring with | false => r_2f | true => r_2t)
  | 3, _, _ => exact (match ring with | false => r_3f | true => r_3t)
  | 4, _, _ => exact (match ring with | false => r_4f | true => r_4t)
  | 5, _, _ => exact (match ring with | false => r_5f | true => r_5t)
  | 6, _, _ => exact (match ring with | false => r_6f | true => r_6t)
  | 7, _, _ => exact (match ring with | false => r_7f | true => r_7t)
  | 8, _, _ => exact (match ring with | false => r_8f | true => r_8t)
  | 9, _, _ => exact (match ring with | false => r_9f | true => r_9t)
  | 10, _, _ => exact (match ring with | false => r_10f | true => r_10t)
  | 11, _, _ => exact (match ring with | false => r_11f | true => r_11t)
  | 12, _, _ => exact (match ring with | false => r_12f | true => r_12t)
  | 13, _, _ => exact (match ring with | false => r_13f | true => r_13t)
  | 14, _, _ => exact (match ring with | false => r_14f | true => r_14t)
  | 15, _, _ => exact (match ring with | false => r_15f | true => r_15t)
  | 16, _, _ => exact (match ring with | false => r_16f | true => r_16t)
  | 17, _, _ => exact (match ring with | false => r_17f | true => r_17t)
  | 18, _, _ => exact (match ring with | false => r_18f | true => r_18t)
  | 19, _, _ => exact (match ring with | false => r_19f | true => r_19t)
  | 20, _, _ => exact (match ring with | false => r_20f | true => r_20t)
  | 21, _, _ => exact (match ring with | false => r_21f | true => r_21t)
  | 22, _, _ => exact (match ring with | false => r_22f | true => r_22t)
  | 23, _, _ => exact (match ring with | false => r_23f | true => r_23t)
  | 24, _, _ => exact (match ring with | false => r_24f | true => r_24t)
  | 25, _, _ => exact (match ring with | false => r_25f | true => r_25t)
  | 26, _, _ => exact (match ring with | false => r_26f | true => r_26t)
  | k + 27, _, h => omega
theorem set_any (n : Int) (ring : Bool) (W : World) (hW : Tab W) : Calls Tryz.prog 3 #[.int .i64 n, .bool ring] W fun e W' => e = .returned (.bool true) ∧ Below W.heap.size W W' := by
  by_cases hn : n < 1 ∨ 26 < n
  · exact set_out n ring W hW hn
  · obtain ⟨k, rfl⟩ : ∃ k : Nat, n = k := ⟨n.toNat, by omega⟩
    exact set_in k ring W hW (by omega) (by omega) (set_runs k ring (by omega) (by omega))
theorem setLoop_lifted (os : Os) (started : os.Started) (H : Type) (enc : TypeId × Value → H) :
    ReturnsInHanded {} Tryz.checked os 3 .any (fun w args => (Rows.setLoopSpec.pre enc Tryz.prog Tryz.f3 [] false w args ∧ laidMetH Tryz.prog laidE w) ∧ sizedMet enc Tryz.prog Tryz.f3 (OpenSpec.ofChange Rows.setLoopSpec) false w args)
      (Rows.setLoopSpec.post enc Tryz.prog Tryz.f3 false true false false) := by
  refine of_change_and_shaped (C := Tryz.checked) (X := fun w _ => laidMetH Tryz.prog laidE w) (fun _ _ _ hh h => h.of_heap hh) ownNone started (by kernel_rfl) Tryz.func3
    (ChangeSpec.witness_shaped (enc := enc) (C := Tryz.checked) (os := os) (X := fun w _ => laidMetH Tryz.prog laidE w) false (World.laidAll Tryz.prog os laidE) #[.int .i64 0, .bool false] 8 (World.laidAll_os _ _ _)
      (World.shaped_of_ZipB (by kernel_rfl) (by kernel_rfl)) (by kernel_rfl) (by kernel_rfl) (by kernel_rfl)
      (by rw [MakeChecks.laidMetH_plain _ _ _ (by kernel_rfl)]; exact laidMet_laidAll _ (by kernel_rfl) (by kernel_rfl))) ?_
  intro W base args ds gs before hval0 hW hL hsh
  have hval : ∀ (j : Nat) t v, Tryz.f3.params[j]? = some t → args[j]? = some v → Value.okWide Tryz.prog W .any base t v := hval0
  have hW' := hW
  obtain ⟨p, q, hA0, hV, rfl, _, _⟩ := hW
  have hA : DataW.TrodAll enc Tryz.prog W 0 (fun _ => true) true Tryz.f3.params.toList args.toList ds p := hA0
  rw [Tryz.params3] at hA hval
  obtain ⟨v0, vs0, d0, ds0, p0, q0, hargs, rfl, rfl, h0, r0⟩ := trodAll_cons hA
  obtain ⟨v1, vs1, d1, ds1, p1, q1, rfl, rfl, rfl, h1, r1⟩ := trodAll_cons r0
  obtain ⟨rfl, rfl, rfl⟩ := trodAll_nil r1
  obtain rfl : args = #[v0, v1] := by cases args; simp_all
  obtain ⟨rfl, rfl⟩ := trodVars_none hV
  have k0 := h0
  have lt0 : ∀ x ∈ p0, x.block < W.heap.size := by obtain ⟨m, hm⟩ := k0; exact DataW.trod_lt m _ _ _ hm
  have k1 := h1
  have lt1 : ∀ x ∈ p1, x.block < W.heap.size := by obtain ⟨m, hm⟩ := k1; exact DataW.trod_lt m _ _ _ hm
  obtain ⟨z0, rfl, rfl, rfl, w0⟩ := open_int Tryz.underlying3 (hval 0 3 v0 rfl rfl) h0
  obtain ⟨z1, rfl, rfl, rfl⟩ := open_bool Tryz.underlying4 (hval 1 4 v1 rfl rfl) h1
  clear hA0 hval0
  refine (set_any z0 z1 W (tab_of hL)).mono fun e W' ⟨he, bel⟩ => ?_
  subst he
  exact ⟨_, rfl, _, _, _, [], _, [], hW', trodAll_mk1 (shut_bool Tryz.underlying4 _), (trodAll_cons_mk (Below.trod laidAll (by kernel_rfl) (of_decide_eq_true (by kernel_rfl)) k0 bel lt0) (trodAll_cons_mk (Below.trod laidAll (by kernel_rfl) (of_decide_eq_true (by kernel_rfl)) k1 bel lt1) trodAll_mk0)), rfl, bel.frame _, fun h => by cases h⟩
theorem setLoop_c1 : (Rows.setLoopRow.inPlace == Tryz.pinned.checked.prog.inPlace 3) = true := by kernel_rfl
theorem setLoop_c2 : (Rows.setLoopRow.unfollowed == Tryz.pinned.checked.prog.unfollowed 3) = true := by kernel_rfl
theorem setLoop_c3 : (Rows.setLoopRow.named == Tryz.pinned.checked.prog.varsNamed 3) = true := by kernel_rfl
theorem setLoop_c4 : (Rows.setLoopRow.recurses == Tryz.pinned.checked.prog.recurses 3) = true := by kernel_rfl
theorem setLoop_closed : joinedFacts Tryz.pinned.checked.prog 3 Tryz.f3 Rows.setLoopSpec Rows.setLoopRow = true := by
  unfold joinedFacts
  rw [setLoop_c1, setLoop_c2, setLoop_c3, setLoop_c4]
  kernel_rfl
theorem setLoop_name : Tryz.prog.funcNamed "sterling/sterlinglaw14.SetLoop" = some 3 := by kernel_rfl
theorem setLoop_inst : Tryz.f3.isInstance Tryz.pinned.checked.prog Rows.setLoopRow.origin Rows.setLoopRow.targs := of_decide_eq_true (by kernel_rfl)
theorem setLoop_wrap : Tryz.f3.isWrapper Tryz.pinned.checked.prog Rows.setLoopRow.wrapper Rows.setLoopRow.mainSum := by unfold Func.isWrapper; first | (rw [if_pos (by decide +kernel)]; kernel_rfl) | (rw [if_neg (by decide +kernel)]; exact ⟨rfl, rfl⟩)
theorem setLoop_over : Rows.SetLoopSaid :=
  OpenClaim.holds_of_wide 3 Tryz.f3 rfl rfl rfl rfl rfl rfl rfl ⟨rfl, rfl, rfl, rfl, rfl⟩ rfl rfl rfl rfl rfl setLoop_name Tryz.func3 setLoop_closed setLoop_inst setLoop_wrap
    (fun os started H enc _ => setLoop_lifted os started H enc)
theorem setLoop_goes : false = Rows.setLoopRow.goesBy Tryz.pinned.checked.prog := by kernel_rfl
theorem setLoop_main : Tryz.pinned.checked.prog.mainIs = some (true, ("a3d9a567b8701bec0ad2d0653f7e80e23b15d25b7d2f3efe274f16ec5c4ac08a" : String).toList) := by kernel_rfl
theorem setLoop_looks : true = Tryz.pinned.checked.prog.looks [] := by kernel_rfl
theorem setLoop_text : Rows.setLoopRow.wfByText (OpenSpec.ofChange Rows.setLoopSpec) = true := by kernel_rfl
theorem setLoop_stand : ([3, 4].all fun u => !Tryz.prog.wantsStandIn u) = true := by kernel_rfl
/-- The statement. -/
theorem setLoop_holds : Rows.SetLoopCardSaid :=
  Claim7.holds_tied_plain_at .later [] [.data, .data, .data, .sentinel, .sentinel, .data] true (true, "a3d9a567b8701bec0ad2d0653f7e80e23b15d25b7d2f3efe274f16ec5c4ac08a") true setLoop_over (fun _ h => by cases h) setLoop_text (fun _ h => by cases h) setLoop_row_tie rfl ⟨rfl, rfl⟩ setLoop_main rfl
    (fun f fn hf hfn => by
      obtain rfl : f = 3 := Option.some.inj (setLoop_name.symm.trans hf) |>.symm
      obtain rfl : fn = Tryz.f3 := (Option.some.inj (Tryz.func3.symm.trans hfn)).symm
      exact ⟨setLoop_looks, fun j t ht => by
        rw [Tryz.params3] at ht
        have hm : t ∈ [3, 4] := by simpa using Array.mem_of_getElem? ht
        exact (show Tryz.prog.wantsStandIn t = false by simpa using List.all_eq_true.1 setLoop_stand t hm)⟩)
    setLoop_goes
end Go.Proofs.YtfigbldiffjmbaaGreatDoor
