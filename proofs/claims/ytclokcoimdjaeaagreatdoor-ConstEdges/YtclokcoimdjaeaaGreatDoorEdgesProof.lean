/- ConstEdges holds: called with any two numbers and any truth, the law returns true, without a panic, where the listed package-level variables hold what the program's text lays. -/
import Derived.Test.YtclokcoimdjaeaaGreatDoorYr
import Derived.Test.YtclokcoimdjaeaaGreatDoorEgm
namespace Go.Proofs.YtclokcoimdjaeaaGreatDoor
open Go.ChangeShapes Go.WideShapes Go.ChangeAt Go.RowKit Go.Lib Go.Shelf
open Go.Joins
set_option linter.unusedVariables false
set_option maxRecDepth 100000 in
theorem constEdges_lifted (os : Os) (started : os.Started) (H : Type) (enc : TypeId × Value → H) :
    ReturnsInHanded {} Tryz.checked os 6 .any (fun w args => (Rows.constEdgesSpec.pre enc Tryz.prog Tryz.f6 [] false w args ∧ laidMetH Tryz.prog laidE w) ∧ sizedMet enc Tryz.prog Tryz.f6 (OpenSpec.ofChange Rows.constEdgesSpec) false w args)
      (Rows.constEdgesSpec.post enc Tryz.prog Tryz.f6 false true false false) := by
  refine of_change_and_shaped (C := Tryz.checked) (X := fun w _ => laidMetH Tryz.prog laidE w) (fun _ _ _ hh h => h.of_heap hh) ownNone started (by kernel_rfl) Tryz.func6
    (ChangeSpec.witness_shaped (enc := enc) (C := Tryz.checked) (os := os) (X := fun w _ => laidMetH Tryz.prog laidE w) false (World.laidAll Tryz.prog os laidE) #[.int .i64 0, .int .i64 0, .bool false] 8 (World.laidAll_os _ _ _)
      (World.shaped_of_ZipB (by kernel_rfl) (by kernel_rfl)) (by kernel_rfl) (by kernel_rfl) (by kernel_rfl)
      (by rw [MakeChecks.laidMetH_plain _ _ _ (by kernel_rfl)]; exact laidMet_laidAll _ (by kernel_rfl) (by kernel_rfl))) ?_
  intro W base args ds gs before hval0 hW hL hsh
  have hval : ∀ (j : Nat) t v, Tryz.f6.params[j]? = some t → args[j]? = some v → Value.okWide Tryz.prog W .any base t v := hval0
  have hW' := hW
  obtain ⟨p, q, hA0, hV, rfl, _, _⟩ := hW
  have hA : DataW.TrodAll enc Tryz.prog W 0 (fun _ => true) true Tryz.f6.params.toList args.toList ds p := hA0
  rw [Tryz.params6] at hA hval
  obtain ⟨v0, vs0, d0, ds0, p0, q0, hargs, rfl, rfl, h0, r0⟩ := trodAll_cons hA
  obtain ⟨v1, vs1, d1, ds1, p1, q1, rfl, rfl, rfl, h1, r1⟩ := trodAll_cons r0
  obtain ⟨v2, vs2, d2, ds2, p2, q2, rfl, rfl, rfl, h2, r2⟩ := trodAll_cons r1
  obtain ⟨rfl, rfl, rfl⟩ := trodAll_nil r2
  obtain rfl : args = #[v0, v1, v2] := by cases args; simp_all
  obtain ⟨rfl, rfl⟩ := trodVars_none hV
  have k0 := h0
  have lt0 : ∀ x ∈ p0, x.block < W.heap.size := by obtain ⟨m, hm⟩ := k0; exact DataW.trod_lt m _ _ _ hm
  have k1 := h1
  have lt1 : ∀ x ∈ p1, x.block < W.heap.size := by obtain ⟨m, hm⟩ := k1; exact DataW.trod_lt m _ _ _ hm
  have k2 := h2
  have lt2 : ∀ x ∈ p2, x.block < W.heap.size := by obtain ⟨m, hm⟩ := k2; exact DataW.trod_lt m _ _ _ hm
  obtain ⟨z0, rfl, rfl, rfl, w0⟩ := open_int Tryz.underlying3 (hval 0 3 v0 rfl rfl) h0
  obtain ⟨z1, rfl, rfl, rfl, w1⟩ := open_int Tryz.underlying3 (hval 1 3 v1 rfl rfl) h1
  obtain ⟨b2, rfl, rfl, rfl⟩ := open_bool Tryz.underlying4 (hval 2 4 v2 rfl rfl) h2
  have hG := glob_of hL hsh
  clear hA0 hval0
  refine (constEdges_any z0 z1 b2 hG (heap_big hG)).mono fun e W' ⟨he, bel⟩ => ?_
  subst he
  exact ⟨_, rfl, _, _, _, [], _, [], hW', trodAll_mk1 (shut_bool Tryz.underlying4 _), (trodAll_cons_mk (Below.trod laidAll (by kernel_rfl) (of_decide_eq_true (by kernel_rfl)) k0 bel lt0) (trodAll_cons_mk (Below.trod laidAll (by kernel_rfl) (of_decide_eq_true (by kernel_rfl)) k1 bel lt1) (trodAll_cons_mk (Below.trod laidAll (by kernel_rfl) (of_decide_eq_true (by kernel_rfl)) k2 bel lt2) trodAll_mk0))), rfl, bel.frame _, fun h => by cases h⟩
theorem constEdges_c1 : (Rows.constEdgesRow.inPlace == Tryz.pinned.checked.prog.inPlace 6) = true := by kernel_rfl
theorem constEdges_c2 : (Rows.constEdgesRow.unfollowed == Tryz.pinned.checked.prog.unfollowed 6) = true := by kernel_rfl
theorem constEdges_c3 : (Rows.constEdgesRow.named == Tryz.pinned.checked.prog.varsNamed 6) = true := by kernel_rfl
theorem constEdges_c4 : (Rows.constEdgesRow.recurses == Tryz.pinned.checked.prog.recurses 6) = true := by kernel_rfl
set_option maxRecDepth 100000 in
theorem constEdges_closed : joinedFacts Tryz.pinned.checked.prog 6 Tryz.f6 Rows.constEdgesSpec Rows.constEdgesRow = true := by
  unfold joinedFacts
  rw [constEdges_c1, constEdges_c2, constEdges_c3, constEdges_c4]
  kernel_rfl
theorem constEdges_name : Tryz.prog.funcNamed "sterling/sterlinglaw10.ConstEdges" = some 6 := by kernel_rfl
theorem constEdges_inst : Tryz.f6.isInstance Tryz.pinned.checked.prog Rows.constEdgesRow.origin Rows.constEdgesRow.targs := of_decide_eq_true (by kernel_rfl)
theorem constEdges_wrap : Tryz.f6.isWrapper Tryz.pinned.checked.prog Rows.constEdgesRow.wrapper Rows.constEdgesRow.mainSum := by unfold Func.isWrapper; first | (rw [if_pos (by decide +kernel)]; kernel_rfl) | (rw [if_neg (by decide +kernel)]; exact ⟨rfl, rfl⟩)
theorem constEdges_over : Rows.ConstEdgesSaid :=
  OpenClaim.holds_of_wide 6 Tryz.f6 rfl rfl rfl rfl rfl rfl rfl ⟨rfl, rfl, rfl, rfl, rfl⟩ rfl rfl rfl rfl rfl constEdges_name Tryz.func6 constEdges_closed constEdges_inst constEdges_wrap
    (fun os started H enc _ => constEdges_lifted os started H enc)
theorem constEdges_goes : false = Rows.constEdgesRow.goesBy Tryz.pinned.checked.prog := by kernel_rfl
theorem constEdges_main : Tryz.pinned.checked.prog.mainIs = some (true, ("6c951534660fcf77556e1a6c41ee720d1b957bb96e98882a078ad53c49f08265" : String).toList) := by kernel_rfl
theorem constEdges_looks : true = Tryz.pinned.checked.prog.looks [] := by kernel_rfl
theorem constEdges_text : Rows.constEdgesRow.wfByText (OpenSpec.ofChange Rows.constEdgesSpec) = true := by kernel_rfl
theorem constEdges_stand : ([3, 3, 4].all fun u => !Tryz.prog.wantsStandIn u) = true := by kernel_rfl
/-- The statement. -/
theorem constEdges_holds : Rows.ConstEdgesCardSaid :=
  Claim7.holds_tied_plain_at .later [] [.data, .data, .data, .data, .sentinel, .sentinel, .pinned] true (true, "6c951534660fcf77556e1a6c41ee720d1b957bb96e98882a078ad53c49f08265") true constEdges_over (fun _ h => by cases h) constEdges_text (fun _ h => by cases h) constEdges_row_tie rfl ⟨rfl, rfl⟩ constEdges_main rfl
    (fun f fn hf hfn => by
      obtain rfl : f = 6 := Option.some.inj (constEdges_name.symm.trans hf) |>.symm
      obtain rfl : fn = Tryz.f6 := (Option.some.inj (Tryz.func6.symm.trans hfn)).symm
      exact ⟨constEdges_looks, fun j t ht => by
        rw [Tryz.params6] at ht
        have hm : t ∈ [3, 3, 4] := by simpa using Array.mem_of_getElem? ht
        exact (show Tryz.prog.wantsStandIn t = false by simpa using List.all_eq_true.1 constEdges_stand t hm)⟩)
    constEdges_goes
end Go.Proofs.YtclokcoimdjaeaaGreatDoor
