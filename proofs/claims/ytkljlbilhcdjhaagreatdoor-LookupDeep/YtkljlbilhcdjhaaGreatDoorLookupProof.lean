/- LookupDeep holds: called with any number and any two truths, the law returns true, without a panic, where the listed package-level variables hold what the program's text lays. -/
import Derived.Test.YtkljlbilhcdjhaaGreatDoorLpB
import Derived.Test.YtkljlbilhcdjhaaGreatDoorLR01
import Derived.Test.YtkljlbilhcdjhaaGreatDoorLR02
import Derived.Test.YtkljlbilhcdjhaaGreatDoorLR03
import Derived.Test.YtkljlbilhcdjhaaGreatDoorLR04
import Derived.Test.YtkljlbilhcdjhaaGreatDoorLR05
import Derived.Test.YtkljlbilhcdjhaaGreatDoorLR06
import Derived.Test.YtkljlbilhcdjhaaGreatDoorLR07
import Derived.Test.YtkljlbilhcdjhaaGreatDoorLR08
import Derived.Test.YtkljlbilhcdjhaaGreatDoorLR09
import Derived.Test.YtkljlbilhcdjhaaGreatDoorLR10
import Derived.Test.YtkljlbilhcdjhaaGreatDoorLR11
import Derived.Test.YtkljlbilhcdjhaaGreatDoorLR12
import Derived.Test.YtkljlbilhcdjhaaGreatDoorLR13
import Derived.Test.YtkljlbilhcdjhaaGreatDoorLR14
import Derived.Test.YtkljlbilhcdjhaaGreatDoorLR15
import Derived.Test.YtkljlbilhcdjhaaGreatDoorLR16
import Derived.Test.YtkljlbilhcdjhaaGreatDoorLR17
import Derived.Test.YtkljlbilhcdjhaaGreatDoorLR18
import Derived.Test.YtkljlbilhcdjhaaGreatDoorLR19
import Derived.Test.YtkljlbilhcdjhaaGreatDoorLR20
import Derived.KernelRfl
namespace Go.Proofs.YtkljlbilhcdjhaaGreatDoor
open Go.ChangeShapes Go.WideShapes Go.ChangeAt Go.RowKit Go.Lib Go.Shelf
open Go.Joins
open Cx
set_option linter.unusedVariables false
set_option maxRecDepth 1000000
theorem deep_runs (k : Nat) (near twice : Bool) (h1 : 1 ≤ k) (h2 : k ≤ 20) : deepTrue k near twice = true := by
  match k, h1, h2 with
  | 1, _, _ => exact (match near, twice with | false, false => deep_1_false_false | false, true => deep_1_false_true | true, false => deep_1_true_false | true, true => deep_1_true_true)
  | 2, _, _ => exact (match near, twice with | false, false => deep_2_false_false | false, true => deep_2_false_true | true, false => deep_2_true_false | true, true => deep_2_true_true)
  | 3, _, _ => exact (match near, twice with | false, false => deep_3_false_false | false, true => deep_3_false_true | true, false => deep_3_true_false | true, true => deep_3_true_true)
  | 4, _, _ => exact (match near, twice with | false, false => deep_4_false_false | false, true => deep_4_false_true | true, false => deep_4_true_false | true, true => deep_4_true_true)
  | 5, _, _ => exact (match near, twice with | false, false => deep_5_false_false | false, true => deep_5_false_true | true, false => deep_5_true_false | true, true => deep_5_true_true)
  | 6, _, _ => exact (match near, twice with | false, false => deep_6_false_false | false, true => deep_6_false_true | true, false => deep_6_true_false | true, true => deep_6_true_true)
  | 7, _, _ => exact (match near, twice with | false, false => deep_7_false_false | false, true => deep_7_false_true | true, false => deep_7_true_false | true, true => deep_7_true_true)
  | 8, _, _ => exact (match near, twice with | false, false => deep_8_false_false | false, true => deep_8_false_true | true, false => deep_8_true_false | true, true => deep_8_true_true)
  | 9, _, _ => exact (match near, twice with | false, false => deep_9_false_false | false, true => deep_9_false_true | true, false => deep_9_true_false | true, true => deep_9_true_true)
  | 10, _, _ => exact (match near, twice with | false, false => deep_10_false_false | false, true => deep_10_false_true | true, false => deep_10_true_false | true, true => deep_10_true_true)
  | 11, _, _ => exact (match near, twice with | false, false => deep_11_false_false | false, true => deep_11_false_true | true, false => deep_11_true_false | true, true => deep_11_true_true)
  | 12, _, _ => exact (match near, twice with | false, false => deep_12_false_false | false, true => deep_12_false_true | true, false => deep_12_true_false | true, true => deep_12_true_true)
  | 13, _, _ => exact (match near, twice with | false, false => deep_13_false_false | false, true => deep_13_false_true | true, false => deep_13_true_false | true, true => deep_13_true_true)
  | 14, _, _ => exact (match near, twice with | false, false => deep_14_false_false | false, true => deep_14_false_true | true, false => deep_14_true_false | true, true => deep_14_true_true)
  | 15, _, _ => exact (match near, twice with | false, false => deep_15_false_false | false, true => deep_15_false_true | true, false => deep_15_true_false | true, true => deep_15_true_true)
  | 16, _, _ => exact (match near, twice with | false, false => deep_16_false_false | false, true => deep_16_false_true | true, false => deep_16_true_false | true, true => deep_16_true_true)
  | 17, _, _ => exact (match near, twice with | false, false => deep_17_false_false | false, true => deep_17_false_true | true, false => deep_17_true_false | true, true => deep_17_true_true)
  | 18, _, _ => exact (match near, twice with | false, false => deep_18_false_false | false, true => deep_18_false_true | true, false => deep_18_true_false | true, true => deep_18_true_true)
  | 19, _, _ => exact (match near, twice with | false, false => deep_19_false_false | false, true => deep_19_false_true | true, false => deep_19_true_false | true, true => deep_19_true_true)
  | 20, _, _ => exact (match near, twice with | false, false => deep_20_false_false | false, true => deep_20_false_true | true, false => deep_20_true_false | true, true => deep_20_true_true)
  | k + 21, _, h => omega
theorem deep_any (n : Int) (near twice : Bool) (W : World) (hW : Tb W) : Calls Tryz.prog 3 #[.int .i64 n, .bool near, .bool twice] W fun e W' => e = .returned (.bool true) ∧ Below W.heap.size W W' := by
  by_cases hn : n < 1 ∨ 20 < n
  · exact deep_out n near twice W hW hn
  · obtain ⟨k, rfl⟩ : ∃ k : Nat, n = k := ⟨n.toNat, by omega⟩
    exact deep_in k near twice W hW (by omega) (by omega) (deep_runs k near twice (by omega) (by omega))
theorem lookupDeep_lifted (os : Os) (started : os.Started) (H : Type) (enc : TypeId × Value → H) :
    ReturnsInHanded {} Tryz.checked os 3 .any (fun w args => (Rows.lookupDeepSpec.pre enc Tryz.prog Tryz.f3 [] false w args ∧ laidMetH Tryz.prog laidE w) ∧ sizedMet enc Tryz.prog Tryz.f3 (OpenSpec.ofChange Rows.lookupDeepSpec) false w args)
      (Rows.lookupDeepSpec.post enc Tryz.prog Tryz.f3 false true false false) := by
  refine of_change_and_shaped (C := Tryz.checked) (X := fun w _ => laidMetH Tryz.prog laidE w) (fun _ _ _ hh h => h.of_heap hh) ownNone started (by kernel_rfl) Tryz.func3
    (ChangeSpec.witness_shaped (enc := enc) (C := Tryz.checked) (os := os) (X := fun w _ => laidMetH Tryz.prog laidE w) false (World.laidAll Tryz.prog os laidE) #[.int .i64 0, .bool false, .bool false] 8 (World.laidAll_os _ _ _)
      (World.shaped_of_ZipB (by kernel_rfl) (by kernel_rfl)) (by kernel_rfl) (by kernel_rfl) (by kernel_rfl)
      (by rw [MakeChecks.laidMetH_plain _ _ _ (by kernel_rfl)]; exact laidMet_laidAll _ (by kernel_rfl) (by kernel_rfl))) ?_
  intro W base args ds gs before hval0 hW hL hsh
  have hval : ∀ (j : Nat) t v, Tryz.f3.params[j]? = some t → args[j]? = some v → Value.okWide Tryz.prog W .any base t v := hval0
  have hW' := hW
  obtain ⟨p, q, hA0, hV, rfl, _, _⟩ := hW
  have hA : DataW.TrodAll enc Tryz.prog W 0 (fun _ => true) true Tryz.f3.params.toList args.toList ds p := hA0
  rw [Tryz.params3] at hA hval
  obtain ⟨v0, vs0, d0, ds0, p0, q0, hargs, rfl, rfl, h0, r0⟩ := trodAll_cons hA
  obtain ⟨v1, vs1, d1, ds1, p1, q1, rfl, rfl, rfl, h1, r1⟩ := trodAll_cons r0
  obtain ⟨v2, vs2, d2, ds2, p2, q2, rfl, rfl, rfl, h2, r2⟩ := trodAll_cons r1
  obtain ⟨rfl, rfl, rfl⟩ := trodAll_nil r2
  obtain rfl : args = #[v0, v1, v2] := by cases args; simp_all
  obtain ⟨rfl, rfl⟩ := trodVars_none hV
  have k0 := h0
  have lt0 : ∀ x ∈ p0, x.block < W.heap.size := by obtain ⟨m, hm⟩ := k0; exact DataW.trod_lt m _ _ _ hm
  have k1 := h1
  have lt1 : ∀ x ∈ p1, x.block < W.heap.size := by obtain ⟨m, hm⟩ := k1; exact DataW.trod_lt m _ _ _ hm
  have k2 := h2
  have lt2 : ∀ x ∈ p2, x.block < W.heap.size := by obtain ⟨m, hm⟩ := k2; exact DataW.trod_lt m _ _ _ hm
  obtain ⟨z0, rfl, rfl, rfl, w0⟩ := open_int Tryz.underlying3 (hval 0 3 v0 rfl rfl) h0
  obtain ⟨z1, rfl, rfl, rfl⟩ := open_bool Tryz.underlying4 (hval 1 4 v1 rfl rfl) h1
  obtain ⟨z2, rfl, rfl, rfl⟩ := open_bool Tryz.underlying4 (hval 2 4 v2 rfl rfl) h2
  clear hA0 hval0
  refine (deep_any z0 z1 z2 W ⟨tab_of hL, big_of hL⟩).mono fun e W' ⟨he, bel⟩ => ?_
  subst he
  exact ⟨_, rfl, _, _, _, [], _, [], hW', trodAll_mk1 (shut_bool Tryz.underlying4 _), (trodAll_cons_mk (Below.trod laidAll (by kernel_rfl) (of_decide_eq_true (by kernel_rfl)) k0 bel lt0) (trodAll_cons_mk (Below.trod laidAll (by kernel_rfl) (of_decide_eq_true (by kernel_rfl)) k1 bel lt1) (trodAll_cons_mk (Below.trod laidAll (by kernel_rfl) (of_decide_eq_true (by kernel_rfl)) k2 bel lt2) trodAll_mk0))), rfl, bel.frame _, fun h => by cases h⟩
theorem lookupDeep_c1 : (Rows.lookupDeepRow.inPlace == Tryz.pinned.checked.prog.inPlace 3) = true := by kernel_rfl
theorem lookupDeep_c2 : (Rows.lookupDeepRow.unfollowed == Tryz.pinned.checked.prog.unfollowed 3) = true := by kernel_rfl
theorem lookupDeep_c3 : (Rows.lookupDeepRow.named == Tryz.pinned.checked.prog.varsNamed 3) = true := by kernel_rfl
theorem lookupDeep_c4 : (Rows.lookupDeepRow.recurses == Tryz.pinned.checked.prog.recurses 3) = true := by kernel_rfl
theorem lookupDeep_closed : joinedFacts Tryz.pinned.checked.prog 3 Tryz.f3 Rows.lookupDeepSpec Rows.lookupDeepRow = true := by
  unfold joinedFacts
  rw [lookupDeep_c1, lookupDeep_c2, lookupDeep_c3, lookupDeep_c4]
  kernel_rfl
theorem lookupDeep_name : Tryz.prog.funcNamed "sterling/sterlinglaw15.LookupDeep" = some 3 := by kernel_rfl
theorem lookupDeep_inst : Tryz.f3.isInstance Tryz.pinned.checked.prog Rows.lookupDeepRow.origin Rows.lookupDeepRow.targs := of_decide_eq_true (by kernel_rfl)
theorem lookupDeep_wrap : Tryz.f3.isWrapper Tryz.pinned.checked.prog Rows.lookupDeepRow.wrapper Rows.lookupDeepRow.mainSum := by unfold Func.isWrapper; first | (rw [if_pos (by decide +kernel)]; kernel_rfl) | (rw [if_neg (by decide +kernel)]; exact ⟨rfl, rfl⟩)
theorem lookupDeep_over : Rows.LookupDeepSaid :=
  OpenClaim.holds_of_wide 3 Tryz.f3 rfl rfl rfl rfl rfl rfl rfl ⟨rfl, rfl, rfl, rfl, rfl⟩ rfl rfl rfl rfl rfl lookupDeep_name Tryz.func3 lookupDeep_closed lookupDeep_inst lookupDeep_wrap
    (fun os started H enc _ => lookupDeep_lifted os started H enc)
theorem lookupDeep_goes : false = Rows.lookupDeepRow.goesBy Tryz.pinned.checked.prog := by kernel_rfl
theorem lookupDeep_main : Tryz.pinned.checked.prog.mainIs = some (true, ("ce325644800f76fe49e77926fee5d4525b75428eca384e8a8e1b3239200583bf" : String).toList) := by kernel_rfl
theorem lookupDeep_looks : true = Tryz.pinned.checked.prog.looks [] := by kernel_rfl
theorem lookupDeep_text : Rows.lookupDeepRow.wfByText (OpenSpec.ofChange Rows.lookupDeepSpec) = true := by kernel_rfl
theorem lookupDeep_stand : ([3, 4, 4].all fun u => !Tryz.prog.wantsStandIn u) = true := by kernel_rfl
/-- The statement. -/
theorem lookupDeep_holds : Rows.LookupDeepCardSaid :=
  Claim7.holds_tied_plain_at .later [] [.data, .data, .data, .sentinel, .sentinel, .data] true (true, "ce325644800f76fe49e77926fee5d4525b75428eca384e8a8e1b3239200583bf") true lookupDeep_over (fun _ h => by cases h) lookupDeep_text (fun _ h => by cases h) lookupDeep_row_tie rfl ⟨rfl, rfl⟩ lookupDeep_main rfl
    (fun f fn hf hfn => by
      obtain rfl : f = 3 := Option.some.inj (lookupDeep_name.symm.trans hf) |>.symm
      obtain rfl : fn = Tryz.f3 := (Option.some.inj (Tryz.func3.symm.trans hfn)).symm
      exact ⟨lookupDeep_looks, fun j t ht => by
        rw [Tryz.params3] at ht
        have hm : t ∈ [3, 4, 4] := by simpa using Array.mem_of_getElem? ht
        exact (show Tryz.prog.wantsStandIn t = false by simpa using List.all_eq_true.1 lookupDeep_stand t hm)⟩)
    lookupDeep_goes
end Go.Proofs.YtkljlbilhcdjhaaGreatDoor
