/- Constants that were handed in, and what the listed variables hold. -/
import Derived.Test.YtclokcoimdjaeaaGreatDoorRows
import Derived.Test.YtclokcoimdjaeaaGreatDoorCards
import Derived.Test.YtclokcoimdjaeaaGreatDoorTie
import Derived.Test.YtclokcoimdjaeaaGreatDoorYc
import Derived.ProofKit
import Derived.PinnedBridge
import Derived.Lay
import Derived.SevenTiedAt
import Derived.Lib.LaidU8T
import Derived.Lib.LaidIn
import Derived.Shelf.Vars
import Derived.SizedLaws
import Derived.OpenShut
import Derived.ChangeMaps5
import Derived.WalkKit
import Derived.ChangeOld
import Derived.Below
import Derived.Lib.SmallJoins
namespace Go.Proofs.YtclokcoimdjaeaaGreatDoor
open Go.ChangeShapes Go.WideShapes Go.ChangeAt Go.RowKit Go.Lib Go.Shelf
open Go.Joins
set_option linter.unusedVariables false
/-- The wrap with a condition on the world and its shape. -/
theorem of_change_and_shaped {H : Type} {enc : TypeId × Value → H} {a : Assume} {C : Checked} {os : Os} {f : FuncId} {fn : Func} {s : ChangeSpec} {conds : List PathCond} {apart fresh handsOn again : Bool} {X : World → Array Value → Prop}
    (hX : ∀ (w w' : World) (args : Array Value), w.heap = w'.heap → X w args → X w' args)
    (own : ownKnob C.prog.godebug = none) (started : os.Started) (noInit : C.prog.inits.idxOf? f = none) (hfn : C.prog.funcs[f]? = some fn)
    (witness : ∃ (w : World) (tape : Tape) (i : Input), w.os = os ∧ (w.forCall tape i).Shaped C.prog ∧ i.vars = [] ∧ Input.okWide C.prog (w.forCall tape i) .any w.heap.size f i ∧
      ((s.pre enc C.prog fn conds apart (w.forCall tape i).memory i.args ∧ X (w.forCall tape i).memory i.args) ∧ sizedMet enc C.prog fn (OpenSpec.ofChange s) apart (w.forCall tape i).memory i.args) ∧ a.holds C.prog (lone (Frame.enter C.prog f i.args .normal) [] (w.forCall tape i)))
    (contract : ∀ (W : World) (base : Nat) (args : Array Value) (ds gs : List (DataW H)) (before : List MemPlace),
      (∀ (j : Nat) t v, fn.params[j]? = some t → args[j]? = some v → Value.okWide C.prog W .any base t v) →
      DataW.Whole enc C.prog fn.params.toList s.vars apart W args.toList ds gs before → X W args → W.ShapedOpen C.prog →
      Calls C.prog f args W fun e W' => ∃ v, e = .returned v ∧ s.post enc C.prog fn apart fresh handsOn again W args v W') :
    ReturnsInHanded a C os f .any (fun w args => (s.pre enc C.prog fn conds apart w args ∧ X w args) ∧ sizedMet enc C.prog fn (OpenSpec.ofChange s) apart w args) (s.post enc C.prog fn apart fresh handsOn again) := by
  refine returnsInHanded_of_calls own started noInit witness ?_
  intro w tape i _ hsh _ hok hpre hholds
  obtain ⟨_, _, _, fn', hfn', _, _, _, _, hval⟩ := hok
  have e : fn' = fn := Option.some.inj (hfn'.symm.trans hfn)
  subst e
  obtain ⟨⟨⟨ds, gs, before, hw, hc⟩, hx⟩, hz⟩ := hpre
  have hw' := DataW.Whole.of_heap (w' := w.forCall tape i) (by rfl) hw
  refine (contract (w.forCall tape i) w.heap.size i.args ds gs before hval hw' (hX _ _ _ (by rfl) hx) hsh).mono fun e W' ⟨v, he, hp⟩ => ?_
  subst he
  exact ChangeSpec.post_blind hp
theorem ownNone : ownKnob Tryz.prog.godebug = none := by kernel_rfl
theorem laidAll : laidOutB Tryz.prog = true := by kernel_rfl
def laidE : List (String × DataW Unit) := Rows.constLawsRow.laid
theorem maxLen_some {W : World} (h : W.ShapedOpen Tryz.prog) : ∃ m, W.cell? ⟨0, 0, none⟩ = some (.int .i64 m) :=
  cell_of_shapedOpen_int (zero := #[.int .i64 0]) (t := 3) h (by decide +kernel) (by kernel_rfl) rfl (by kernel_rfl) (by kernel_rfl) Tryz.underlying3
theorem err_cell {W : World} {d : DataW Unit} {name : String} (h : VarReads Tryz.prog W "strconv.ErrSyntax" (.iface name d)) : ∃ te pe, W.cell? ⟨4, 0, none⟩ = some (.iface te pe) := by
  obtain ⟨g, t, cs, fuel, p, h1, h2, h3, h4⟩ := h
  obtain rfl : g = 4 := Option.some.inj (h1.symm.trans (show Tryz.prog.globalNamed "strconv.ErrSyntax" = some 4 by kernel_rfl))
  obtain rfl : t = 119 := Option.some.inj (h2.symm.trans (show (Tryz.prog.globals[4]?).map (·.type) = some 119 by kernel_rfl))
  obtain ⟨ms, hu⟩ : ∃ ms, Tryz.prog.underlying 119 = some (.interface ms) := ⟨_, Tryz.underlying119⟩
  have hcs : ∃ te pe, cs.toList = [.iface te pe] := by
    cases fuel with
    | zero => cases h4
    | succ fuel =>
      unfold DataW.trod at h4
      rw [hu] at h4
      rcases hl : cs.toList with _ | ⟨x, _ | ⟨y, r⟩⟩
      · rw [hl] at h4; simp at h4
      · rw [hl] at h4
        cases x with
        | iface te pe => exact ⟨te, pe, rfl⟩
        | _ => simp at h4
      · rw [hl] at h4
        exfalso
        cases x <;> simp at h4
  obtain ⟨te, pe, hcs⟩ := hcs
  refine ⟨te, pe, ?_⟩
  unfold World.var? at h3
  rw [h1] at h3
  simp only [Option.bind_some] at h3
  split at h3
  · rename_i cs' _ _ hh
    obtain rfl := Option.some.inj h3
    unfold World.cell?
    rw [hh]
    have : cs' = #[.iface te pe] := by
      rw [← Array.toList_inj, hcs]
    rw [this]
    rfl
  · cases h3
theorem glob_of {W : World} (hL : laidMetH Tryz.prog laidE W) (hs : W.ShapedOpen Tryz.prog) : Glob W := by
  rw [MakeChecks.laidMetH_plain _ _ _ (by kernel_rfl)] at hL
  have e3 : Rows.laid_unicode_utf8_first = firstData := Pinned.utf8First_eq
  have e4 : (Rows.laid_unicode_utf8_acceptRanges : DataW Unit) = acceptData := by kernel_rfl
  have h3 : VarReads Tryz.prog W "unicode/utf8.first" firstData := e3 ▸ Lib.laidMet.reads hL (.tail _ (.tail _ (.tail _ (.tail _ (.tail _ (.tail _ (.head _)))))))
  have h4 : VarReads Tryz.prog W "unicode/utf8.acceptRanges" acceptData := e4 ▸ Lib.laidMet.reads hL (.tail _ (.tail _ (.tail _ (.head _))))
  have h5 : VarReads Tryz.prog W "strconv.ErrSyntax" Rows.laid_strconv_ErrSyntax := Lib.laidMet.reads hL (.tail _ (.tail _ (.tail _ (.tail _ (.tail _ (.head _))))))
  exact ⟨⟨utf8Tabs_of_readsT (U8Types.of260 Tryz.lays260) ⟨by kernel_rfl, by kernel_rfl, by kernel_rfl, by kernel_rfl, by kernel_rfl, by kernel_rfl, by kernel_rfl⟩ h3 h4, err_cell h5⟩, maxLen_some hs⟩
theorem heap_big {W : World} (h : Glob W) : 4 < W.heap.size := by
  obtain ⟨⟨_, te, pe, hm⟩, _⟩ := h
  rcases Nat.lt_or_ge 4 W.heap.size with h' | h'
  · exact h'
  · simp [World.cell?, Array.getElem?_eq_none h'] at hm
theorem Tryz.cells4 : Tryz.prog.cellsOf 4 = 1 := by kernel_rfl
section
variable {H : Type} {enc : TypeId × Value → H} {W : World}
end
end Go.Proofs.YtclokcoimdjaeaaGreatDoor
