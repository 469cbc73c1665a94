/- ConstCap holds: called with any text and any number, the law returns true, without a panic, where the listed package-level variables hold what the program's text lays. -/
import Derived.Test.YtclokcoimdjaeaaGreatDoorYr
import Derived.Test.YtclokcoimdjaeaaGreatDoorCjm
namespace Go.Proofs.YtclokcoimdjaeaaGreatDoor
open Go.ChangeShapes Go.WideShapes Go.ChangeAt Go.RowKit Go.Lib Go.Shelf
open Go.Joins
open Go.ChangeMaps (open_string)
set_option linter.unusedVariables false
set_option maxRecDepth 100000 in
theorem constCap_lifted (os : Os) (started : os.Started) (H : Type) (enc : TypeId × Value → H) :
    ReturnsInHanded {} Tryz.checked os 8 .any (fun w args => (Rows.constCapSpec.pre enc Tryz.prog Tryz.f8 [] false w args ∧ laidMetH Tryz.prog laidE w) ∧ sizedMet enc Tryz.prog Tryz.f8 (OpenSpec.ofChange Rows.constCapSpec) false w args)
      (Rows.constCapSpec.post enc Tryz.prog Tryz.f8 false true false false) := by
  refine of_change_and_shaped (C := Tryz.checked) (X := fun w _ => laidMetH Tryz.prog laidE w) (fun _ _ _ hh h => h.of_heap hh) ownNone started (by kernel_rfl) Tryz.func8
    (ChangeSpec.witness_shaped (enc := enc) (C := Tryz.checked) (os := os) (X := fun w _ => laidMetH Tryz.prog laidE w) false (World.laidAll Tryz.prog os laidE) #[.string ⟨#[]⟩, .int .i64 0] 8 (World.laidAll_os _ _ _)
      (World.shaped_of_ZipB (by kernel_rfl) (by kernel_rfl)) (by kernel_rfl) (by kernel_rfl) (by kernel_rfl)
      (by rw [MakeChecks.laidMetH_plain _ _ _ (by kernel_rfl)]; exact laidMet_laidAll _ (by kernel_rfl) (by kernel_rfl))) ?_
  intro W base args ds gs before hval0 hW hL hsh
  have hval : ∀ (j : Nat) t v, Tryz.f8.params[j]? = some t → args[j]? = some v → Value.okWide Tryz.prog W .any base t v := hval0
  have hW' := hW
  obtain ⟨p, q, hA0, hV, rfl, _, _⟩ := hW
  have hA : DataW.TrodAll enc Tryz.prog W 0 (fun _ => true) true Tryz.f8.params.toList args.toList ds p := hA0
  rw [Tryz.params8] at hA hval
  obtain ⟨v0, vs0, d0, ds0, p0, q0, hargs, rfl, rfl, h0, r0⟩ := trodAll_cons hA
  obtain ⟨v1, vs1, d1, ds1, p1, q1, rfl, rfl, rfl, h1, r1⟩ := trodAll_cons r0
  obtain ⟨rfl, rfl, rfl⟩ := trodAll_nil r1
  obtain rfl : args = #[v0, v1] := by cases args; simp_all
  obtain ⟨rfl, rfl⟩ := trodVars_none hV
  have k0 := h0
  have lt0 : ∀ x ∈ p0, x.block < W.heap.size := by obtain ⟨m, hm⟩ := k0; exact DataW.trod_lt m _ _ _ hm
  have k1 := h1
  have lt1 : ∀ x ∈ p1, x.block < W.heap.size := by obtain ⟨m, hm⟩ := k1; exact DataW.trod_lt m _ _ _ hm
  obtain ⟨s0, rfl, rfl, rfl, w0⟩ := open_string Tryz.underlying9 (hval 0 9 v0 rfl rfl) h0
  obtain ⟨z1, rfl, rfl, rfl, w1⟩ := open_int Tryz.underlying3 (hval 1 3 v1 rfl rfl) h1
  have hG := glob_of hL hsh
  clear hA0 hval0
  refine (constCap_any s0 z1 hG (heap_big hG)).mono fun e W' ⟨he, bel⟩ => ?_
  subst he
  exact ⟨_, rfl, _, _, _, [], _, [], hW', trodAll_mk1 (shut_bool Tryz.underlying4 _), (trodAll_cons_mk (Below.trod laidAll (by kernel_rfl) (of_decide_eq_true (by kernel_rfl)) k0 bel lt0) (trodAll_cons_mk (Below.trod laidAll (by kernel_rfl) (of_decide_eq_true (by kernel_rfl)) k1 bel lt1) trodAll_mk0)), rfl, bel.frame _, fun h => by cases h⟩
theorem constCap_c1 : (Rows.constCapRow.inPlace == Tryz.pinned.checked.prog.inPlace 8) = true := by kernel_rfl
theorem constCap_c2 : (Rows.constCapRow.unfollowed == Tryz.pinned.checked.prog.unfollowed 8) = true := by kernel_rfl
theorem constCap_c3 : (Rows.constCapRow.named == Tryz.pinned.checked.prog.varsNamed 8) = true := by kernel_rfl
theorem constCap_c4 : (Rows.constCapRow.recurses == Tryz.pinned.checked.prog.recurses 8) = true := by kernel_rfl
set_option maxRecDepth 100000 in
theorem constCap_closed : joinedFacts Tryz.pinned.checked.prog 8 Tryz.f8 Rows.constCapSpec Rows.constCapRow = true := by
  unfold joinedFacts
  rw [constCap_c1, constCap_c2, constCap_c3, constCap_c4]
  kernel_rfl
theorem constCap_name : Tryz.prog.funcNamed "sterling/sterlinglaw10.ConstCap" = some 8 := by kernel_rfl
theorem constCap_inst : Tryz.f8.isInstance Tryz.pinned.checked.prog Rows.constCapRow.origin Rows.constCapRow.targs := of_decide_eq_true (by kernel_rfl)
theorem constCap_wrap : Tryz.f8.isWrapper Tryz.pinned.checked.prog Rows.constCapRow.wrapper Rows.constCapRow.mainSum := by unfold Func.isWrapper; first | (rw [if_pos (by decide +kernel)]; kernel_rfl) | (rw [if_neg (by decide +kernel)]; exact ⟨rfl, rfl⟩)
theorem constCap_over : Rows.ConstCapSaid :=
  OpenClaim.holds_of_wide 8 Tryz.f8 rfl rfl rfl rfl rfl rfl rfl ⟨rfl, rfl, rfl, rfl, rfl⟩ rfl rfl rfl rfl rfl constCap_name Tryz.func8 constCap_closed constCap_inst constCap_wrap
    (fun os started H enc _ => constCap_lifted os started H enc)
theorem constCap_goes : false = Rows.constCapRow.goesBy Tryz.pinned.checked.prog := by kernel_rfl
theorem constCap_main : Tryz.pinned.checked.prog.mainIs = some (true, ("6c951534660fcf77556e1a6c41ee720d1b957bb96e98882a078ad53c49f08265" : String).toList) := by kernel_rfl
theorem constCap_looks : true = Tryz.pinned.checked.prog.looks [] := by kernel_rfl
theorem constCap_text : Rows.constCapRow.wfByText (OpenSpec.ofChange Rows.constCapSpec) = true := by kernel_rfl
theorem constCap_stand : ([9, 3].all fun u => !Tryz.prog.wantsStandIn u) = true := by kernel_rfl
/-- The statement. -/
theorem constCap_holds : Rows.ConstCapCardSaid :=
  Claim7.holds_tied_plain_at .later [] [.data, .data, .data, .data, .sentinel, .sentinel, .pinned] true (true, "6c951534660fcf77556e1a6c41ee720d1b957bb96e98882a078ad53c49f08265") true constCap_over (fun _ h => by cases h) constCap_text (fun _ h => by cases h) constCap_row_tie rfl ⟨rfl, rfl⟩ constCap_main rfl
    (fun f fn hf hfn => by
      obtain rfl : f = 8 := Option.some.inj (constCap_name.symm.trans hf) |>.symm
      obtain rfl : fn = Tryz.f8 := (Option.some.inj (Tryz.func8.symm.trans hfn)).symm
      exact ⟨constCap_looks, fun j t ht => by
        rw [Tryz.params8] at ht
        have hm : t ∈ [9, 3] := by simpa using Array.mem_of_getElem? ht
        exact (show Tryz.prog.wantsStandIn t = false by simpa using List.all_eq_true.1 constCap_stand t hm)⟩)
    constCap_goes
end Go.Proofs.YtclokcoimdjaeaaGreatDoor
