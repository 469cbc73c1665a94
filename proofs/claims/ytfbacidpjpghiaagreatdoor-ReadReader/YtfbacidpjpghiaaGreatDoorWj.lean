/- ReadReader holds: called with any bytes and any number, the law returns true, without a panic, where the listed package-level variables hold what the program's text lays. -/
import Derived.Test.YtfbacidpjpghiaaGreatDoorRows
import Derived.Test.YtfbacidpjpghiaaGreatDoorCards
import Derived.Test.YtfbacidpjpghiaaGreatDoorTie
import Derived.Test.YtfbacidpjpghiaaGreatDoorWim
import Derived.ProofKit
import Derived.PinnedBridge
import Derived.Lay
import Derived.SevenTiedAt
import Derived.Lib.LaidU8T
import Derived.Lib.LaidIn
import Derived.Shelf.Vars
import Derived.SizedLaws
import Derived.OpenShut
import Derived.ChangeMaps5
import Derived.WalkKit
import Derived.ChangeOld
import Derived.Below
import Derived.Lib.SmallJoins
namespace Go.Proofs.YtfbacidpjpghiaaGreatDoor
open Go.ChangeShapes Go.WideShapes Go.ChangeAt Go.RowKit Go.Lib Go.Shelf
open Go.Joins
set_option linter.unusedVariables false
/-- The wrap with a condition on the world and its shape. -/
theorem of_change_and_shaped {H : Type} {enc : TypeId × Value → H} {a : Assume} {C : Checked} {os : Os} {f : FuncId} {fn : Func} {s : ChangeSpec} {conds : List PathCond} {apart fresh handsOn again : Bool} {X : World → Array Value → Prop}
    (hX : ∀ (w w' : World) (args : Array Value), w.heap = w'.heap → X w args → X w' args)
    (own : ownKnob C.prog.godebug = none) (started : os.Started) (noInit : C.prog.inits.idxOf? f = none) (hfn : C.prog.funcs[f]? = some fn)
    (witness : ∃ (w : World) (tape : Tape) (i : Input), w.os = os ∧ (w.forCall tape i).Shaped C.prog ∧ i.vars = [] ∧ Input.okWide C.prog (w.forCall tape i) .any w.heap.size f i ∧
      ((s.pre enc C.prog fn conds apart (w.forCall tape i).memory i.args ∧ X (w.forCall tape i).memory i.args) ∧ sizedMet enc C.prog fn (OpenSpec.ofChange s) apart (w.forCall tape i).memory i.args) ∧ a.holds C.prog (lone (Frame.enter C.prog f i.args .normal) [] (w.forCall tape i)))
    (contract : ∀ (W : World) (base : Nat) (args : Array Value) (ds gs : List (DataW H)) (before : List MemPlace),
      (∀ (j : Nat) t v, fn.params[j]? = some t → args[j]? = some v → Value.okWide C.prog W .any base t v) →
      DataW.Whole enc C.prog fn.params.toList s.vars apart W args.toList ds gs before → X W args → W.ShapedOpen C.prog →
      Calls C.prog f args W fun e W' => ∃ v, e = .returned v ∧ s.post enc C.prog fn apart fresh handsOn again W args v W') :
    ReturnsInHanded a C os f .any (fun w args => (s.pre enc C.prog fn conds apart w args ∧ X w args) ∧ sizedMet enc C.prog fn (OpenSpec.ofChange s) apart w args) (s.post enc C.prog fn apart fresh handsOn again) := by
  refine returnsInHanded_of_calls own started noInit witness ?_
  intro w tape i _ hsh _ hok hpre hholds
  obtain ⟨_, _, _, fn', hfn', _, _, _, _, hval⟩ := hok
  have e : fn' = fn := Option.some.inj (hfn'.symm.trans hfn)
  subst e
  obtain ⟨⟨⟨ds, gs, before, hw, hc⟩, hx⟩, hz⟩ := hpre
  have hw' := DataW.Whole.of_heap (w' := w.forCall tape i) (by rfl) hw
  refine (contract (w.forCall tape i) w.heap.size i.args ds gs before hval hw' (hX _ _ _ (by rfl) hx) hsh).mono fun e W' ⟨v, he, hp⟩ => ?_
  subst he
  exact ChangeSpec.post_blind hp
theorem ownNone : ownKnob Tryz.prog.godebug = none := by kernel_rfl
def laidE : List (String × DataW Unit) := Rows.readReaderRow.laid
theorem maxLen_some {W : World} (h : W.ShapedOpen Tryz.prog) : ∃ m, W.cell? ⟨0, 0, none⟩ = some (.int .i64 m) :=
  cell_of_shapedOpen_int (zero := #[.int .i64 0]) (t := 3) h (by decide +kernel) (by kernel_rfl) rfl (by kernel_rfl) (by kernel_rfl) Tryz.underlying3
theorem err_cell {W : World} {d : DataW Unit} {name : String} (h : VarReads Tryz.prog W "strconv.ErrSyntax" (.iface name d)) : ∃ te pe, W.cell? ⟨3, 0, none⟩ = some (.iface te pe) := by
  obtain ⟨g, t, cs, fuel, p, h1, h2, h3, h4⟩ := h
  obtain rfl : g = 3 := Option.some.inj (h1.symm.trans (show Tryz.prog.globalNamed "strconv.ErrSyntax" = some 3 by kernel_rfl))
  obtain rfl : t = 131 := Option.some.inj (h2.symm.trans (show (Tryz.prog.globals[3]?).map (·.type) = some 131 by kernel_rfl))
  obtain ⟨ms, hu⟩ : ∃ ms, Tryz.prog.underlying 131 = some (.interface ms) := ⟨_, Tryz.underlying131⟩
  have hcs : ∃ te pe, cs.toList = [.iface te pe] := by
    cases fuel with
    | zero => cases h4
    | succ fuel =>
      unfold DataW.trod at h4
      rw [hu] at h4
      rcases hl : cs.toList with _ | ⟨x, _ | ⟨y, r⟩⟩
      · rw [hl] at h4; simp at h4
      · rw [hl] at h4
        cases x with
        | iface te pe => exact ⟨te, pe, rfl⟩
        | _ => simp at h4
      · rw [hl] at h4
        exfalso
        cases x <;> simp at h4
  obtain ⟨te, pe, hcs⟩ := hcs
  refine ⟨te, pe, ?_⟩
  unfold World.var? at h3
  rw [h1] at h3
  simp only [Option.bind_some] at h3
  split at h3
  · rename_i cs' _ _ hh
    obtain rfl := Option.some.inj h3
    unfold World.cell?
    rw [hh]
    have : cs' = #[.iface te pe] := by
      rw [← Array.toList_inj, hcs]
    rw [this]
    rfl
  · cases h3
theorem glob_of {W : World} (hL : laidMetH Tryz.prog laidE W) (hs : W.ShapedOpen Tryz.prog) : Glob W := by
  rw [MakeChecks.laidMetH_plain _ _ _ (by kernel_rfl)] at hL
  have e3 : Rows.laid_unicode_utf8_first = firstData := Pinned.utf8First_eq
  have e4 : (Rows.laid_unicode_utf8_acceptRanges : DataW Unit) = acceptData := by kernel_rfl
  have h3 : VarReads Tryz.prog W "unicode/utf8.first" firstData := e3 ▸ Lib.laidMet.reads hL (.tail _ (.tail _ (.tail _ (.tail _ (.tail _ (.tail _ (.head _)))))))
  have h4 : VarReads Tryz.prog W "unicode/utf8.acceptRanges" acceptData := e4 ▸ Lib.laidMet.reads hL (.tail _ (.tail _ (.tail _ (.head _))))
  have h5 : VarReads Tryz.prog W "strconv.ErrSyntax" Rows.laid_strconv_ErrSyntax := Lib.laidMet.reads hL (.tail _ (.tail _ (.tail _ (.tail _ (.tail _ (.head _))))))
  exact ⟨⟨utf8Tabs_of_readsT (U8Types.of260 Tryz.lays260) ⟨by kernel_rfl, by kernel_rfl, by kernel_rfl, by kernel_rfl, by kernel_rfl, by kernel_rfl, by kernel_rfl⟩ h3 h4, err_cell h5⟩, maxLen_some hs⟩
theorem heap_big {W : World} (hL : laidMetH Tryz.prog laidE W) : 7 < W.heap.size := by
  rw [MakeChecks.laidMetH_plain _ _ _ (by kernel_rfl)] at hL
  have h : VarReads Tryz.prog W "math/bits.deBruijn64tab" Rows.laid_math_bits_deBruijn64tab := Lib.laidMet.reads hL (.tail _ (.head _))
  obtain ⟨g, t, cs, fuel, p, h1, h2, h3, h4⟩ := h
  obtain rfl : g = 7 := Option.some.inj (h1.symm.trans (show Tryz.prog.globalNamed "math/bits.deBruijn64tab" = some 7 by kernel_rfl))
  unfold World.var? at h3
  rw [h1] at h3
  simp only [Option.bind_some] at h3
  split at h3
  · rename_i cs' ty fr hh
    exact (Array.getElem?_eq_some_iff.1 hh).1
  · cases h3
theorem laidAll : laidOutB Tryz.prog = true := by kernel_rfl
theorem Tryz.cells5 : Tryz.prog.cellsOf 5 = 1 := by kernel_rfl
set_option maxRecDepth 100000 in
/-- Bytes that were handed in. -/
theorem open_bytes5 {H : Type} {enc : TypeId × Value → H} {W : World} {b0 : Nat} {v : Value} {d : DataW H} {p : List MemPlace} (hv : Value.okWide Tryz.prog W .any b0 22 v) (h : DataW.Trod enc Tryz.prog W 0 (fun _ => true) true 22 v d p) :
    ∃ (a : Option Addr) (cap : Nat) (zs : List Int), v = .slice a zs.length cap ∧ Row W .u8 256 a cap zs := by
  obtain ⟨a0, len, cap, rfl⟩ := okWide_slice Tryz.underlying22 hv
  obtain ⟨m, hm'⟩ := h
  rcases open_ints Tryz.underlying22 Tryz.underlying5 Tryz.cells5 hm' with ⟨hcs, _⟩ | ⟨x, l, c, zs, hcs, _, hl, hm, hz, _, hcell, hwz⟩
  · simp [Value.cells] at hcs
    obtain ⟨rfl, rfl, rfl⟩ := hcs
    exact ⟨none, 0, [], rfl, Row.empty _ _ _⟩
  · simp [Value.cells] at hcs
    obtain ⟨rfl, rfl, rfl⟩ := hcs
    simp only [if_true] at hz
    have hlen : (zs.take len).length = len := by rw [List.length_take]; omega
    refine ⟨some x, cap, zs.take len, by rw [hlen], ⟨by omega, hm, fun h => (by cases h), fun x' hx i hi => ?_, fun n hn => ?_⟩⟩
    · cases hx
      rw [hcell i (by omega), List.getElem?_take_of_lt (by omega)]
      simp
    · have := hwz n (List.mem_of_mem_take hn)
      simp [Lit.wf, IntKind.min, IntKind.max, IntKind.signed, IntKind.bits] at this
      omega
set_option maxRecDepth 100000 in
theorem readReader_lifted (os : Os) (started : os.Started) (H : Type) (enc : TypeId × Value → H) :
    ReturnsInHanded {} Tryz.checked os 3 .any (fun w args => (Rows.readReaderSpec.pre enc Tryz.prog Tryz.f3 [] false w args ∧ laidMetH Tryz.prog laidE w) ∧ sizedMet enc Tryz.prog Tryz.f3 (OpenSpec.ofChange Rows.readReaderSpec) false w args)
      (Rows.readReaderSpec.post enc Tryz.prog Tryz.f3 false true false false) := by
  refine of_change_and_shaped (C := Tryz.checked) (X := fun w _ => laidMetH Tryz.prog laidE w) (fun _ _ _ hh h => h.of_heap hh) ownNone started (by kernel_rfl) Tryz.func3
    (ChangeSpec.witness_shaped (enc := enc) (C := Tryz.checked) (os := os) (X := fun w _ => laidMetH Tryz.prog laidE w) false (World.laidAll Tryz.prog os laidE) #[.slice none 0 0, .int .i64 0] 8 (World.laidAll_os _ _ _)
      (World.shaped_of_ZipB (by kernel_rfl) (by kernel_rfl)) (by kernel_rfl) (by kernel_rfl) (by kernel_rfl)
      (by rw [MakeChecks.laidMetH_plain _ _ _ (by kernel_rfl)]; exact laidMet_laidAll _ (by kernel_rfl) (by kernel_rfl))) ?_
  intro W base args ds gs before hval0 hW hL hsh
  have hval : ∀ (j : Nat) t v, Tryz.f3.params[j]? = some t → args[j]? = some v → Value.okWide Tryz.prog W .any base t v := hval0
  have hW' := hW
  obtain ⟨p, q, hA0, hV, rfl, _, _⟩ := hW
  have hA : DataW.TrodAll enc Tryz.prog W 0 (fun _ => true) true Tryz.f3.params.toList args.toList ds p := hA0
  rw [Tryz.params3] at hA hval
  obtain ⟨v0, vs0, d0, ds0, p0, q0, hargs, rfl, rfl, h0, r0⟩ := trodAll_cons hA
  obtain ⟨v1, vs1, d1, ds1, p1, q1, rfl, rfl, rfl, h1, r1⟩ := trodAll_cons r0
  obtain ⟨rfl, rfl, rfl⟩ := trodAll_nil r1
  obtain rfl : args = #[v0, v1] := by cases args; simp_all
  obtain ⟨rfl, rfl⟩ := trodVars_none hV
  have k0 := h0
  have lt0 : ∀ x ∈ p0, x.block < W.heap.size := by obtain ⟨m, hm⟩ := k0; exact DataW.trod_lt m _ _ _ hm
  have k1 := h1
  have lt1 : ∀ x ∈ p1, x.block < W.heap.size := by obtain ⟨m, hm⟩ := k1; exact DataW.trod_lt m _ _ _ hm
  obtain ⟨a, cap, zs, rfl, hrow⟩ := open_bytes5 (hval 0 22 v0 rfl rfl) h0
  obtain ⟨z1, rfl, rfl, rfl, w1⟩ := open_int Tryz.underlying3 (hval 1 3 v1 rfl rfl) h1
  clear hA0 hval0
  refine (readReader_any a cap zs z1 W hrow (glob_of hL hsh) (heap_big hL)).mono fun e W' ⟨he, bel⟩ => ?_
  subst he
  exact ⟨_, rfl, _, _, _, [], _, [], hW', trodAll_mk1 (shut_bool Tryz.underlying4 _), (trodAll_cons_mk (Below.trod laidAll (by kernel_rfl) (of_decide_eq_true (by kernel_rfl)) k0 bel lt0) (trodAll_cons_mk (Below.trod laidAll (by kernel_rfl) (of_decide_eq_true (by kernel_rfl)) k1 bel lt1) trodAll_mk0)), rfl, bel.frame _, fun h => by cases h⟩
theorem readReader_c1 : (Rows.readReaderRow.inPlace == Tryz.pinned.checked.prog.inPlace 3) = true := by kernel_rfl
theorem readReader_c2 : (Rows.readReaderRow.unfollowed == Tryz.pinned.checked.prog.unfollowed 3) = true := by kernel_rfl
theorem readReader_c3 : (Rows.readReaderRow.named == Tryz.pinned.checked.prog.varsNamed 3) = true := by kernel_rfl
theorem readReader_c4 : (Rows.readReaderRow.recurses == Tryz.pinned.checked.prog.recurses 3) = true := by kernel_rfl
theorem readReader_closed : joinedFacts Tryz.pinned.checked.prog 3 Tryz.f3 Rows.readReaderSpec Rows.readReaderRow = true := by
  unfold joinedFacts
  rw [readReader_c1, readReader_c2, readReader_c3, readReader_c4]
  kernel_rfl
theorem readReader_name : Tryz.prog.funcNamed "sterling/sterlinglaw7.ReadReader" = some 3 := by kernel_rfl
theorem readReader_inst : Tryz.f3.isInstance Tryz.pinned.checked.prog Rows.readReaderRow.origin Rows.readReaderRow.targs := of_decide_eq_true (by kernel_rfl)
theorem readReader_wrap : Tryz.f3.isWrapper Tryz.pinned.checked.prog Rows.readReaderRow.wrapper Rows.readReaderRow.mainSum := by unfold Func.isWrapper; first | (rw [if_pos (by decide +kernel)]; kernel_rfl) | (rw [if_neg (by decide +kernel)]; exact ⟨rfl, rfl⟩)
theorem readReader_over : Rows.ReadReaderSaid :=
  OpenClaim.holds_of_wide 3 Tryz.f3 rfl rfl rfl rfl rfl rfl rfl ⟨rfl, rfl, rfl, rfl, rfl⟩ rfl rfl rfl rfl rfl readReader_name Tryz.func3 readReader_closed readReader_inst readReader_wrap
    (fun os started H enc _ => readReader_lifted os started H enc)
theorem readReader_goes : false = Rows.readReaderRow.goesBy Tryz.pinned.checked.prog := by kernel_rfl
theorem readReader_main : Tryz.pinned.checked.prog.mainIs = some (true, ("710718bd84002d8274644c4dff42e38d4825117409b7d1de652aadad9efceb9a" : String).toList) := by kernel_rfl
theorem readReader_looks : true = Tryz.pinned.checked.prog.looks [] := by kernel_rfl
theorem readReader_text : Rows.readReaderRow.wfByText (OpenSpec.ofChange Rows.readReaderSpec) = true := by kernel_rfl
theorem readReader_stand : ([22, 3].all fun u => !Tryz.prog.wantsStandIn u) = true := by kernel_rfl
/-- The statement. -/
theorem readReader_holds : Rows.ReadReaderCardSaid :=
  Claim7.holds_tied_plain_at .later [] [.data, .data, .data, .data, .sentinel, .sentinel, .pinned] true (true, "710718bd84002d8274644c4dff42e38d4825117409b7d1de652aadad9efceb9a") true readReader_over (fun _ h => by cases h) readReader_text (fun _ h => by cases h) readReader_row_tie rfl ⟨rfl, rfl⟩ readReader_main rfl
    (fun f fn hf hfn => by
      obtain rfl : f = 3 := Option.some.inj (readReader_name.symm.trans hf) |>.symm
      obtain rfl : fn = Tryz.f3 := (Option.some.inj (Tryz.func3.symm.trans hfn)).symm
      exact ⟨readReader_looks, fun j t ht => by
        rw [Tryz.params3] at ht
        have hm : t ∈ [22, 3] := by simpa using Array.mem_of_getElem? ht
        exact (show Tryz.prog.wantsStandIn t = false by simpa using List.all_eq_true.1 readReader_stand t hm)⟩)
    readReader_goes
end Go.Proofs.YtfbacidpjpghiaaGreatDoor
