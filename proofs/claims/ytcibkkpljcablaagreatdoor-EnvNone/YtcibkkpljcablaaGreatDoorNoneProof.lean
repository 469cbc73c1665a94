/- EnvNone holds: called, the law returns true, without a panic, where the listed package-level variables hold what the program's text lays. -/
import Derived.Test.YtcibkkpljcablaaGreatDoorRw
import Derived.KernelRfl
namespace Go.Proofs.YtcibkkpljcablaaGreatDoor
open Go.ChangeShapes Go.WideShapes Go.ChangeAt Go.RowKit Go.Lib Go.Shelf
open Go.Joins
open Cx
set_option linter.unusedVariables false
set_option maxRecDepth 1000000
theorem envNone_run : Cx.isTrue (callN Tryz.prog 4 100000 5 [] h0) = true := by kernel_rfl
noncomputable def envNone_code : Code := match Tryz.f5.body with | some c => c | none => .skip
theorem envNone_body : Tryz.f5.body = some envNone_code := by kernel_rfl
theorem envNone_any (W : World) (hW : Tab W) : Calls Tryz.prog 5 #[] W fun e W' => e = .returned (.bool true) ∧ Below W.heap.size W W' :=
  closed_any Tryz.func5 envNone_body envNone_run W hW
theorem envNone_lifted (os : Os) (started : os.Started) (H : Type) (enc : TypeId × Value → H) :
    ReturnsInHanded {} Tryz.checked os 5 .any (fun w args => (Rows.envNoneSpec.pre enc Tryz.prog Tryz.f5 [] false w args ∧ laidMetH Tryz.prog laidE w) ∧ sizedMet enc Tryz.prog Tryz.f5 (OpenSpec.ofChange Rows.envNoneSpec) false w args)
      (Rows.envNoneSpec.post enc Tryz.prog Tryz.f5 false true false false) := by
  refine of_change_and_shaped (C := Tryz.checked) (X := fun w _ => laidMetH Tryz.prog laidE w) (fun _ _ _ hh h => h.of_heap hh) ownNone started (by kernel_rfl) Tryz.func5
    (ChangeSpec.witness_shaped (enc := enc) (C := Tryz.checked) (os := os) (X := fun w _ => laidMetH Tryz.prog laidE w) false (World.laidAll Tryz.prog os laidE) #[] 8 (World.laidAll_os _ _ _)
      (World.shaped_of_ZipB (by kernel_rfl) (by kernel_rfl)) (by kernel_rfl) (by kernel_rfl) (by kernel_rfl)
      (by rw [MakeChecks.laidMetH_plain _ _ _ (by kernel_rfl)]; exact laidMet_laidAll _ (by kernel_rfl) (by kernel_rfl))) ?_
  intro W base args ds gs before hval0 hW hL hsh
  have hW' := hW
  obtain ⟨p, q, hA0, hV, rfl, _, _⟩ := hW
  have hA : DataW.TrodAll enc Tryz.prog W 0 (fun _ => true) true Tryz.f5.params.toList args.toList ds p := hA0
  rw [Tryz.params5] at hA
  obtain ⟨rfl, rfl, rfl⟩ := trodAll_none hA
  obtain ⟨rfl, rfl⟩ := trodVars_none hV
  clear hA0 hval0
  refine (envNone_any W (tab_of hL)).mono fun e W' ⟨he, bel⟩ => ?_
  subst he
  exact ⟨_, rfl, _, _, _, [], _, [], hW', trodAll_mk1 (shut_bool Tryz.underlying4 _), trodAll_mk0, rfl, bel.frame _, fun h => by cases h⟩
theorem envNone_c1 : (Rows.envNoneRow.inPlace == Tryz.pinned.checked.prog.inPlace 5) = true := by kernel_rfl
theorem envNone_c2 : (Rows.envNoneRow.unfollowed == Tryz.pinned.checked.prog.unfollowed 5) = true := by kernel_rfl
theorem envNone_c3 : (Rows.envNoneRow.named == Tryz.pinned.checked.prog.varsNamed 5) = true := by kernel_rfl
theorem envNone_c4 : (Rows.envNoneRow.recurses == Tryz.pinned.checked.prog.recurses 5) = true := by kernel_rfl
theorem envNone_closed : joinedFacts Tryz.pinned.checked.prog 5 Tryz.f5 Rows.envNoneSpec Rows.envNoneRow = true := by
  unfold joinedFacts
  rw [envNone_c1, envNone_c2, envNone_c3, envNone_c4]
  kernel_rfl
theorem envNone_name : Tryz.prog.funcNamed "sterling/sterlinglaw13.EnvNone" = some 5 := by kernel_rfl
theorem envNone_inst : Tryz.f5.isInstance Tryz.pinned.checked.prog Rows.envNoneRow.origin Rows.envNoneRow.targs := of_decide_eq_true (by kernel_rfl)
theorem envNone_wrap : Tryz.f5.isWrapper Tryz.pinned.checked.prog Rows.envNoneRow.wrapper Rows.envNoneRow.mainSum := by unfold Func.isWrapper; first | (rw [if_pos (by decide +kernel)]; kernel_rfl) | (rw [if_neg (by decide +kernel)]; exact ⟨rfl, rfl⟩)
theorem envNone_over : Rows.EnvNoneSaid :=
  OpenClaim.holds_of_wide 5 Tryz.f5 rfl rfl rfl rfl rfl rfl rfl ⟨rfl, rfl, rfl, rfl, rfl⟩ rfl rfl rfl rfl rfl envNone_name Tryz.func5 envNone_closed envNone_inst envNone_wrap
    (fun os started H enc _ => envNone_lifted os started H enc)
theorem envNone_goes : false = Rows.envNoneRow.goesBy Tryz.pinned.checked.prog := by kernel_rfl
theorem envNone_main : Tryz.pinned.checked.prog.mainIs = some (true, ("38d6a1140ad95cde1bf907a8c238045723f8fd964aeb17ad5764c515a6aff2b1" : String).toList) := by kernel_rfl
theorem envNone_looks : true = Tryz.pinned.checked.prog.looks [] := by kernel_rfl
theorem envNone_text : Rows.envNoneRow.wfByText (OpenSpec.ofChange Rows.envNoneSpec) = true := by kernel_rfl
/-- The statement. -/
theorem envNone_holds : Rows.EnvNoneCardSaid :=
  Claim7.holds_tied_plain_at .later [] [.data, .data, .data, .sentinel, .sentinel, .data] true (true, "38d6a1140ad95cde1bf907a8c238045723f8fd964aeb17ad5764c515a6aff2b1") true envNone_over (fun _ h => by cases h) envNone_text (fun _ h => by cases h) envNone_row_tie rfl ⟨rfl, rfl⟩ envNone_main rfl
    (fun f fn hf hfn => by
      obtain rfl : f = 5 := Option.some.inj (envNone_name.symm.trans hf) |>.symm
      obtain rfl : fn = Tryz.f5 := (Option.some.inj (Tryz.func5.symm.trans hfn)).symm
      exact ⟨envNone_looks, fun j t ht => by rw [Tryz.params5] at ht; simp at ht⟩)
    envNone_goes
end Go.Proofs.YtcibkkpljcablaaGreatDoor
