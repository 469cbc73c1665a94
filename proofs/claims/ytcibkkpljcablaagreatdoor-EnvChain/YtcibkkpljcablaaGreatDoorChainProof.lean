/- EnvChain holds: called with any number and any truth, the law returns true, without a panic, where the listed package-level variables hold what the program's text lays. -/
import Derived.Test.YtcibkkpljcablaaGreatDoorChB
import Derived.Test.YtcibkkpljcablaaGreatDoorChR1
import Derived.Test.YtcibkkpljcablaaGreatDoorChR2
import Derived.Test.YtcibkkpljcablaaGreatDoorChR3
import Derived.Test.YtcibkkpljcablaaGreatDoorChR4
import Derived.Test.YtcibkkpljcablaaGreatDoorChS20f
import Derived.Test.YtcibkkpljcablaaGreatDoorChS20t
import Derived.Test.YtcibkkpljcablaaGreatDoorChS21f
import Derived.Test.YtcibkkpljcablaaGreatDoorChS21t
import Derived.Test.YtcibkkpljcablaaGreatDoorChS22f
import Derived.Test.YtcibkkpljcablaaGreatDoorChS22t
import Derived.Test.YtcibkkpljcablaaGreatDoorChS23f
import Derived.Test.YtcibkkpljcablaaGreatDoorChS23t
import Derived.Test.YtcibkkpljcablaaGreatDoorChS24f
import Derived.Test.YtcibkkpljcablaaGreatDoorChS24t
import Derived.Test.YtcibkkpljcablaaGreatDoorChS25f
import Derived.Test.YtcibkkpljcablaaGreatDoorChS25t
import Derived.Test.YtcibkkpljcablaaGreatDoorChS26f
import Derived.Test.YtcibkkpljcablaaGreatDoorChS26t
import Derived.KernelRfl
namespace Go.Proofs.YtcibkkpljcablaaGreatDoor
open Go.ChangeShapes Go.WideShapes Go.ChangeAt Go.RowKit Go.Lib Go.Shelf
open Go.Joins
open Cx
set_option linter.unusedVariables false
set_option maxRecDepth 1000000
theorem chain_runs (k : Nat) (ring : Bool) (h1 : 1 ≤ k) (h2 : k ≤ 26) : chainTrue k ring = true := by
  match k, h1, h2 with
  | 1, _, _ => exact (match ring with | false => chain_1_false | true => chain_1_true)
  | 2, _, _ => exact (match ring with | false => chain_2_false | true => chain_2_true)
  | 3, _, _ => exact (match ring with | false => chain_3_false | true => chain_3_true)
  | 4, _, _ => exact (match ring with | false => chain_4_false | true => chain_4_true)
  | 5, _, _ => exact (match ring with | false => chain_5_false | true => chain_5_true)
  | 6, _, _ => exact (match ring with | false => chain_6_false | true => chain_6_true)
  | 7, _, _ => exact (match ring with | false => chain_7_false | true => chain_7_true)
  | 8, _, _ => exact (match ring with | false => chain_8_false | true => chain_8_true)
  | 9, _, _ => exact (match ring with | false => chain_9_false | true => chain_9_true)
  | 10, _, _ => exact (match ring with | false => chain_10_false | true => chain_10_true)
  | 11, _, _ => exact (match ring with | false => chain_11_false | true => chain_11_true)
  | 12, _, _ => exact (match ring with | false => chain_12_false | true => chain_12_true)
  | 13, _, _ => exact (match ring with | false => chain_13_false | true => chain_13_true)
  | 14, _, _ => exact (match ring with | false => chain_14_false | true => chain_14_true)
  | 15, _, _ => exact (match ring with | false => chain_15_false | true => chain_15_true)
  | 16, _, _ => exact (match ring with | false => chain_16_false | true => chain_16_true)
  | 17, _, _ => exact (match ring with | false => chain_17_false | true => chain_17_true)
  | 18, _, _ => exact (match ring with | false => chain_18_false | true => chain_18_true)
  | 19, _, _ => exact (match ring with | false => chain_19_false | true => chain_19_true)
  | 20, _, _ => exact (match ring with | false => chain_20_false | true => chain_20_true)
  | 21, _, _ => exact (match ring with | false => chain_21_false | true => chain_21_true)
  | 22, _, _ => exact (match ring with | false => chain_22_false | true => chain_22_true)
  | 23, _, _ => exact (match ring with | false => chain_23_false | true => chain_23_true)
  | 24, _, _ => exact (match ring with | false => chain_24_false | true => chain_24_true)
  | 25, _, _ => exact (match ring with | false => chain_25_false | true => chain_25_true)
  | 26, _, _ => exact (match ring with | false => chain_26_false | true => chain_26_true)
  | k + 27, _, h => omega
theorem chain_any (n : Int) (ring : Bool) (W : World) (hW : Tab W) : Calls Tryz.prog 6 #[.int .i64 n, .bool ring] W fun e W' => e = .returned (.bool true) ∧ Below W.heap.size W W' := by
  by_cases hn : n < 1 ∨ 26 < n
  · exact chain_out n ring W hW hn
  · obtain ⟨k, rfl⟩ : ∃ k : Nat, n = k := ⟨n.toNat, by omega⟩
    exact chain_in k ring W hW (by omega) (by omega) (chain_runs k ring (by omega) (by omega))
theorem envChain_lifted (os : Os) (started : os.Started) (H : Type) (enc : TypeId × Value → H) :
    ReturnsInHanded {} Tryz.checked os 6 .any (fun w args => (Rows.envChainSpec.pre enc Tryz.prog Tryz.f6 [] false w args ∧ laidMetH Tryz.prog laidE w) ∧ sizedMet enc Tryz.prog Tryz.f6 (OpenSpec.ofChange Rows.envChainSpec) false w args)
      (Rows.envChainSpec.post enc Tryz.prog Tryz.f6 false true false false) := by
  refine of_change_and_shaped (C := Tryz.checked) (X := fun w _ => laidMetH Tryz.prog laidE w) (fun _ _ _ hh h => h.of_heap hh) ownNone started (by kernel_rfl) Tryz.func6
    (ChangeSpec.witness_shaped (enc := enc) (C := Tryz.checked) (os := os) (X := fun w _ => laidMetH Tryz.prog laidE w) false (World.laidAll Tryz.prog os laidE) #[.int .i64 0, .bool false] 8 (World.laidAll_os _ _ _)
      (World.shaped_of_ZipB (by kernel_rfl) (by kernel_rfl)) (by kernel_rfl) (by kernel_rfl) (by kernel_rfl)
      (by rw [MakeChecks.laidMetH_plain _ _ _ (by kernel_rfl)]; exact laidMet_laidAll _ (by kernel_rfl) (by kernel_rfl))) ?_
  intro W base args ds gs before hval0 hW hL hsh
  have hval : ∀ (j : Nat) t v, Tryz.f6.params[j]? = some t → args[j]? = some v → Value.okWide Tryz.prog W .any base t v := hval0
  have hW' := hW
  obtain ⟨p, q, hA0, hV, rfl, _, _⟩ := hW
  have hA : DataW.TrodAll enc Tryz.prog W 0 (fun _ => true) true Tryz.f6.params.toList args.toList ds p := hA0
  rw [Tryz.params6] at hA hval
  obtain ⟨v0, vs0, d0, ds0, p0, q0, hargs, rfl, rfl, h0, r0⟩ := trodAll_cons hA
  obtain ⟨v1, vs1, d1, ds1, p1, q1, rfl, rfl, rfl, h1, r1⟩ := trodAll_cons r0
  obtain ⟨rfl, rfl, rfl⟩ := trodAll_nil r1
  obtain rfl : args = #[v0, v1] := by cases args; simp_all
  obtain ⟨rfl, rfl⟩ := trodVars_none hV
  have k0 := h0
  have lt0 : ∀ x ∈ p0, x.block < W.heap.size := by obtain ⟨m, hm⟩ := k0; exact DataW.trod_lt m _ _ _ hm
  have k1 := h1
  have lt1 : ∀ x ∈ p1, x.block < W.heap.size := by obtain ⟨m, hm⟩ := k1; exact DataW.trod_lt m _ _ _ hm
  obtain ⟨z0, rfl, rfl, rfl, w0⟩ := open_int Tryz.underlying3 (hval 0 3 v0 rfl rfl) h0
  obtain ⟨z1, rfl, rfl, rfl⟩ := open_bool Tryz.underlying4 (hval 1 4 v1 rfl rfl) h1
  clear hA0 hval0
  refine (chain_any z0 z1 W (tab_of hL)).mono fun e W' ⟨he, bel⟩ => ?_
  subst he
  exact ⟨_, rfl, _, _, _, [], _, [], hW', trodAll_mk1 (shut_bool Tryz.underlying4 _), (trodAll_cons_mk (Below.trod laidAll (by kernel_rfl) (of_decide_eq_true (by kernel_rfl)) k0 bel lt0) (trodAll_cons_mk (Below.trod laidAll (by kernel_rfl) (of_decide_eq_true (by kernel_rfl)) k1 bel lt1) trodAll_mk0)), rfl, bel.frame _, fun h => by cases h⟩
theorem envChain_c1 : (Rows.envChainRow.inPlace == Tryz.pinned.checked.prog.inPlace 6) = true := by kernel_rfl
theorem envChain_c2 : (Rows.envChainRow.unfollowed == Tryz.pinned.checked.prog.unfollowed 6) = true := by kernel_rfl
theorem envChain_c3 : (Rows.envChainRow.named == Tryz.pinned.checked.prog.varsNamed 6) = true := by kernel_rfl
theorem envChain_c4 : (Rows.envChainRow.recurses == Tryz.pinned.checked.prog.recurses 6) = true := by kernel_rfl
theorem envChain_closed : joinedFacts Tryz.pinned.checked.prog 6 Tryz.f6 Rows.envChainSpec Rows.envChainRow = true := by
  unfold joinedFacts
  rw [envChain_c1, envChain_c2, envChain_c3, envChain_c4]
  kernel_rfl
theorem envChain_name : Tryz.prog.funcNamed "sterling/sterlinglaw13.EnvChain" = some 6 := by kernel_rfl
theorem envChain_inst : Tryz.f6.isInstance Tryz.pinned.checked.prog Rows.envChainRow.origin Rows.envChainRow.targs := of_decide_eq_true (by kernel_rfl)
theorem envChain_wrap : Tryz.f6.isWrapper Tryz.pinned.checked.prog Rows.envChainRow.wrapper Rows.envChainRow.mainSum := by unfold Func.isWrapper; first | (rw [if_pos (by decide +kernel)]; kernel_rfl) | (rw [if_neg (by decide +kernel)]; exact ⟨rfl, rfl⟩)
theorem envChain_over : Rows.EnvChainSaid :=
  OpenClaim.holds_of_wide 6 Tryz.f6 rfl rfl rfl rfl rfl rfl rfl ⟨rfl, rfl, rfl, rfl, rfl⟩ rfl rfl rfl rfl rfl envChain_name Tryz.func6 envChain_closed envChain_inst envChain_wrap
    (fun os started H enc _ => envChain_lifted os started H enc)
theorem envChain_goes : false = Rows.envChainRow.goesBy Tryz.pinned.checked.prog := by kernel_rfl
theorem envChain_main : Tryz.pinned.checked.prog.mainIs = some (true, ("38d6a1140ad95cde1bf907a8c238045723f8fd964aeb17ad5764c515a6aff2b1" : String).toList) := by kernel_rfl
theorem envChain_looks : true = Tryz.pinned.checked.prog.looks [] := by kernel_rfl
theorem envChain_text : Rows.envChainRow.wfByText (OpenSpec.ofChange Rows.envChainSpec) = true := by kernel_rfl
theorem envChain_stand : ([3, 4].all fun u => !Tryz.prog.wantsStandIn u) = true := by kernel_rfl
/-- The statement. -/
theorem envChain_holds : Rows.EnvChainCardSaid :=
  Claim7.holds_tied_plain_at .later [] [.data, .data, .data, .sentinel, .sentinel, .data] true (true, "38d6a1140ad95cde1bf907a8c238045723f8fd964aeb17ad5764c515a6aff2b1") true envChain_over (fun _ h => by cases h) envChain_text (fun _ h => by cases h) envChain_row_tie rfl ⟨rfl, rfl⟩ envChain_main rfl
    (fun f fn hf hfn => by
      obtain rfl : f = 6 := Option.some.inj (envChain_name.symm.trans hf) |>.symm
      obtain rfl : fn = Tryz.f6 := (Option.some.inj (Tryz.func6.symm.trans hfn)).symm
      exact ⟨envChain_looks, fun j t ht => by
        rw [Tryz.params6] at ht
        have hm : t ∈ [3, 4] := by simpa using Array.mem_of_getElem? ht
        exact (show Tryz.prog.wantsStandIn t = false by simpa using List.all_eq_true.1 envChain_stand t hm)⟩)
    envChain_goes
end Go.Proofs.YtcibkkpljcablaaGreatDoor
