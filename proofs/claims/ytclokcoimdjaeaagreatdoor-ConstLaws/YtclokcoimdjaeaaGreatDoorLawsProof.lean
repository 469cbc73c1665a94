/- ConstLaws holds: called with any two constants, the law returns true, without a panic, where the listed package-level variables hold what the program's text lays. -/
import Derived.Test.YtclokcoimdjaeaaGreatDoorYr
import Derived.Test.YtclokcoimdjaeaaGreatDoorYe
namespace Go.Proofs.YtclokcoimdjaeaaGreatDoor
open Go.ChangeShapes Go.WideShapes Go.ChangeAt Go.RowKit Go.Lib Go.Shelf
open Go.Joins
set_option linter.unusedVariables false
set_option maxRecDepth 100000 in
theorem constLaws_lifted (os : Os) (started : os.Started) (H : Type) (enc : TypeId × Value → H) :
    ReturnsInHanded {} Tryz.checked os 7 .any (fun w args => (Rows.constLawsSpec.pre enc Tryz.prog Tryz.f7 [] false w args ∧ laidMetH Tryz.prog laidE w) ∧ sizedMet enc Tryz.prog Tryz.f7 (OpenSpec.ofChange Rows.constLawsSpec) false w args)
      (Rows.constLawsSpec.post enc Tryz.prog Tryz.f7 false true false false) := by
  refine of_change_and_shaped (C := Tryz.checked) (X := fun w _ => laidMetH Tryz.prog laidE w) (fun _ _ _ hh h => h.of_heap hh) ownNone started (by kernel_rfl) Tryz.func7
    (ChangeSpec.witness_shaped (enc := enc) (C := Tryz.checked) (os := os) (X := fun w _ => laidMetH Tryz.prog laidE w) false (World.laidAll Tryz.prog os laidE) #[.agg #[.int .i64 0, .bool false, .string ⟨#[]⟩, .bool false, .slice none 0 0, .bool false, .slice none 0 0], .agg #[.int .i64 0, .bool false, .string ⟨#[]⟩, .bool false, .slice none 0 0, .bool false, .slice none 0 0]] 8 (World.laidAll_os _ _ _)
      (World.shaped_of_ZipB (by kernel_rfl) (by kernel_rfl)) (by kernel_rfl) (by kernel_rfl) (by kernel_rfl)
      (by rw [MakeChecks.laidMetH_plain _ _ _ (by kernel_rfl)]; exact laidMet_laidAll _ (by kernel_rfl) (by kernel_rfl))) ?_
  intro W base args ds gs before hval0 hW hL hsh
  have hval : ∀ (j : Nat) t v, Tryz.f7.params[j]? = some t → args[j]? = some v → Value.okWide Tryz.prog W .any base t v := hval0
  have hW' := hW
  obtain ⟨p, q, hA0, hV, rfl, _, _⟩ := hW
  have hA : DataW.TrodAll enc Tryz.prog W 0 (fun _ => true) true Tryz.f7.params.toList args.toList ds p := hA0
  rw [Tryz.params7] at hA hval
  obtain ⟨v0, vs0, d0, ds0, p0, q0, hargs, rfl, rfl, h0, r0⟩ := trodAll_cons hA
  obtain ⟨v1, vs1, d1, ds1, p1, q1, rfl, rfl, rfl, h1, r1⟩ := trodAll_cons r0
  obtain ⟨rfl, rfl, rfl⟩ := trodAll_nil r1
  obtain rfl : args = #[v0, v1] := by cases args; simp_all
  obtain ⟨rfl, rfl⟩ := trodVars_none hV
  have k0 := h0
  have lt0 : ∀ x ∈ p0, x.block < W.heap.size := by obtain ⟨m, hm⟩ := k0; exact DataW.trod_lt m _ _ _ hm
  have k1 := h1
  have lt1 : ∀ x ∈ p1, x.block < W.heap.size := by obtain ⟨m, hm⟩ := k1; exact DataW.trod_lt m _ _ _ hm
  obtain ⟨z0, t0, s0, n0, a0, c0, zs0, m0, b0, e0, us0, rfl, w0, x0⟩ := open_const (hval 0 32 v0 rfl rfl) h0
  obtain ⟨z1, t1, s1, n1, a1, c1, zs1, m1, b1, e1, us1, rfl, w1, x1⟩ := open_const (hval 1 32 v1 rfl rfl) h1
  have hG := glob_of hL hsh
  clear hA0 hval0
  refine (constLaws_any z0 t0 s0 n0 a0 c0 zs0 m0 b0 e0 us0 z1 t1 s1 n1 a1 c1 zs1 m1 b1 e1 us1 w0 x0 w1 x1 hG (heap_big hG)).mono fun e W' ⟨he, bel⟩ => ?_
  subst he
  exact ⟨_, rfl, _, _, _, [], _, [], hW', trodAll_mk1 (shut_bool Tryz.underlying4 _), (trodAll_cons_mk (Below.trod laidAll (by kernel_rfl) (of_decide_eq_true (by kernel_rfl)) k0 bel lt0) (trodAll_cons_mk (Below.trod laidAll (by kernel_rfl) (of_decide_eq_true (by kernel_rfl)) k1 bel lt1) trodAll_mk0)), rfl, bel.frame _, fun h => by cases h⟩
theorem constLaws_c1 : (Rows.constLawsRow.inPlace == Tryz.pinned.checked.prog.inPlace 7) = true := by kernel_rfl
theorem constLaws_c2 : (Rows.constLawsRow.unfollowed == Tryz.pinned.checked.prog.unfollowed 7) = true := by kernel_rfl
theorem constLaws_c3 : (Rows.constLawsRow.named == Tryz.pinned.checked.prog.varsNamed 7) = true := by kernel_rfl
theorem constLaws_c4 : (Rows.constLawsRow.recurses == Tryz.pinned.checked.prog.recurses 7) = true := by kernel_rfl
set_option maxRecDepth 100000 in
theorem constLaws_closed : joinedFacts Tryz.pinned.checked.prog 7 Tryz.f7 Rows.constLawsSpec Rows.constLawsRow = true := by
  unfold joinedFacts
  rw [constLaws_c1, constLaws_c2, constLaws_c3, constLaws_c4]
  kernel_rfl
theorem constLaws_name : Tryz.prog.funcNamed "sterling/sterlinglaw10.ConstLaws" = some 7 := by kernel_rfl
theorem constLaws_inst : Tryz.f7.isInstance Tryz.pinned.checked.prog Rows.constLawsRow.origin Rows.constLawsRow.targs := of_decide_eq_true (by kernel_rfl)
theorem constLaws_wrap : Tryz.f7.isWrapper Tryz.pinned.checked.prog Rows.constLawsRow.wrapper Rows.constLawsRow.mainSum := by unfold Func.isWrapper; first | (rw [if_pos (by decide +kernel)]; kernel_rfl) | (rw [if_neg (by decide +kernel)]; exact ⟨rfl, rfl⟩)
theorem constLaws_over : Rows.ConstLawsSaid :=
  OpenClaim.holds_of_wide 7 Tryz.f7 rfl rfl rfl rfl rfl rfl rfl ⟨rfl, rfl, rfl, rfl, rfl⟩ rfl rfl rfl rfl rfl constLaws_name Tryz.func7 constLaws_closed constLaws_inst constLaws_wrap
    (fun os started H enc _ => constLaws_lifted os started H enc)
theorem constLaws_goes : false = Rows.constLawsRow.goesBy Tryz.pinned.checked.prog := by kernel_rfl
theorem constLaws_main : Tryz.pinned.checked.prog.mainIs = some (true, ("6c951534660fcf77556e1a6c41ee720d1b957bb96e98882a078ad53c49f08265" : String).toList) := by kernel_rfl
theorem constLaws_looks : true = Tryz.pinned.checked.prog.looks [] := by kernel_rfl
theorem constLaws_text : Rows.constLawsRow.wfByText (OpenSpec.ofChange Rows.constLawsSpec) = true := by kernel_rfl
theorem constLaws_stand : ([32, 32].all fun u => !Tryz.prog.wantsStandIn u) = true := by kernel_rfl
/-- The statement. -/
theorem constLaws_holds : Rows.ConstLawsCardSaid :=
  Claim7.holds_tied_plain_at .later [] [.data, .data, .data, .data, .sentinel, .sentinel, .pinned] true (true, "6c951534660fcf77556e1a6c41ee720d1b957bb96e98882a078ad53c49f08265") true constLaws_over (fun _ h => by cases h) constLaws_text (fun _ h => by cases h) constLaws_row_tie rfl ⟨rfl, rfl⟩ constLaws_main rfl
    (fun f fn hf hfn => by
      obtain rfl : f = 7 := Option.some.inj (constLaws_name.symm.trans hf) |>.symm
      obtain rfl : fn = Tryz.f7 := (Option.some.inj (Tryz.func7.symm.trans hfn)).symm
      exact ⟨constLaws_looks, fun j t ht => by
        rw [Tryz.params7] at ht
        have hm : t ∈ [32, 32] := by simpa using Array.mem_of_getElem? ht
        exact (show Tryz.prog.wantsStandIn t = false by simpa using List.all_eq_true.1 constLaws_stand t hm)⟩)
    constLaws_goes
end Go.Proofs.YtclokcoimdjaeaaGreatDoor
