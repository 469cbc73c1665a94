/- Constants that were handed in, and what the listed variables hold. -/
import Derived.Test.YtclokcoimdjaeaaGreatDoorRows
import Derived.Test.YtclokcoimdjaeaaGreatDoorCards
import Derived.Test.YtclokcoimdjaeaaGreatDoorTie
import Derived.Test.YtclokcoimdjaeaaGreatDoorYc
import Derived.ProofKit
import Derived.PinnedBridge
import Derived.Lay
import Derived.SevenTiedAt
import Derived.Lib.LaidU8T
import Derived.Lib.LaidIn
import Derived.Shelf.Vars
import Derived.SizedLaws
import Derived.OpenShut
import Derived.ChangeMaps5
import Derived.WalkKit
import Derived.ChangeOld
import Derived.Below
import Derived.Lib.SmallJoins
namespace Go.Proofs.YtclokcoimdjaeaaGreatDoor
open Go.ChangeShapes Go.WideShapes Go.ChangeAt Go.RowKit Go.Lib Go.Shelf
open Go.Joins
set_option linter.unusedVariables false
/-- The wrap with a condition on the world and its shape. -/
theorem of_change_and_shaped {H : Type} {enc : TypeId × Value → H} {a : Assume} {C : Checked} {os : Os} {f : FuncId} {fn : Func} {s : ChangeSpec} {conds : List PathCond} {apart fresh handsOn again : Bool} {X : World → Array Value → Prop}
    (hX : ∀ (w w' : World) (args : Array Value), w.heap = w'.heap → X w args → X w' args)
    (own : ownKnob C.prog.godebug = none) (started : os.Started) (noInit : C.prog.inits.idxOf? f = none) (hfn : C.prog.funcs[f]? = some fn)
    (witness : ∃ (w : World) (tape : Tape) (i : Input), w.os = os ∧ (w.forCall tape i).Shaped C.prog ∧ i.vars = [] ∧ Input.okWide C.prog (w.forCall tape i) .any w.heap.size f i ∧
      ((s.pre enc C.prog fn conds apart (w.forCall tape i).memory i.args ∧ X (w.forCall tape i).memory i.args) ∧ sizedMet enc C.prog fn (OpenSpec.ofChange s) apart (w.forCall tape i).memory i.args) ∧ a.holds C.prog (lone (Frame.enter C.prog f i.args .normal) [] (w.forCall tape i)))
    (contract : ∀ (W : World) (base : Nat) (args : Array Value) (ds gs : List (DataW H)) (before : List MemPlace),
      (∀ (j : Nat) t v, fn.params[j]? = some t → args[j]? = some v → Value.okWide C.prog W .any base t v) →
      DataW.Whole enc C.prog fn.params.toList s.vars apart W args.toList ds gs before → X W args → W.ShapedOpen C.prog →
      Calls C.prog f args W fun e W' => ∃ v, e = .returned v ∧ s.post enc C.prog fn apart fresh handsOn again W args v W') :
    ReturnsInHanded a C os f .any (fun w args => (s.pre enc C.prog fn conds apart w args ∧ X w args) ∧ sizedMet enc C.prog fn (OpenSpec.ofChange s) apart w args) (s.post enc C.prog fn apart fresh handsOn again) := by
  refine returnsInHanded_of_calls own started noInit witness ?_
  intro w tape i _ hsh _ hok hpre hholds
  obtain ⟨_, _, _, fn', hfn', _, _, _, _, hval⟩ := hok
  have e : fn' = fn := Option.some.inj (hfn'.symm.trans hfn)
  subst e
  obtain ⟨⟨⟨ds, gs, before, hw, hc⟩, hx⟩, hz⟩ := hpre
  have hw' := DataW.Whole.of_heap (w' := w.forCall tape i) (by rfl) hw
  refine (contract (w.forCall tape i) w.heap.size i.args ds gs before hval hw' (hX _ _ _ (by rfl) hx) hsh).mono fun e W' ⟨v, he, hp⟩ => ?_
  subst he
  exact ChangeSpec.post_blind hp
theorem ownNone : ownKnob Tryz.prog.godebug = none := by kernel_rfl
theorem laidAll : laidOutB Tryz.prog = true := by kernel_rfl
def laidE : List (String × DataW Unit) := Rows.constLawsRow.laid
theorem maxLen_some {W : World} (h : W.ShapedOpen Tryz.prog) : ∃ m, W.cell? ⟨0, 0, none⟩ = some (.int .i64 m) :=
  cell_of_shapedOpen_int (zero := #[.int .i64 0]) (t := 3) h (by decide +kernel) (by kernel_rfl) rfl (by kernel_rfl) (by kernel_rfl) Tryz.underlying3
theorem err_cell {W : World} {d : DataW Unit} {name : String} (h : VarReads Tryz.prog W "strconv.ErrSyntax" (.iface name d)) : ∃ te pe, W.cell? ⟨4, 0, none⟩ = some (.iface te pe) := by
  obtain ⟨g, t, cs, fuel, p, h1, h2, h3, h4⟩ := h
  obtain rfl : g = 4 := Option.some.inj (h1.symm.trans (show Tryz.prog.globalNamed "strconv.ErrSyntax" = some 4 by kernel_rfl))
  obtain rfl : t = 119 := Option.some.inj (h2.symm.trans (show (Tryz.prog.globals[4]?).map (·.type) = some 119 by kernel_rfl))
  obtain ⟨ms, hu⟩ : ∃ ms, Tryz.prog.underlying 119 = some (.interface ms) := ⟨_, Tryz.underlying119⟩
  have hcs : ∃ te pe, cs.toList = [.iface te pe] := by
    cases fuel with
    | zero => cases h4
    | succ fuel =>
      unfold DataW.trod at h4
      rw [hu] at h4
      rcases hl : cs.toList with _ | ⟨x, _ | ⟨y, r⟩⟩
      · rw [hl] at h4; simp at h4
      · rw [hl] at h4
        cases x with
        | iface te pe => exact ⟨te, pe, rfl⟩
        | _ => simp at h4
      · rw [hl] at h4
        exfalso
        cases x <;> simp at h4
  obtain ⟨te, pe, hcs⟩ := hcs
  refine ⟨te, pe, ?_⟩
  unfold World.var? at h3
  rw [h1] at h3
  simp only [Option.bind_some] at h3
  split at h3
  · rename_i cs' _ _ hh
    obtain rfl := Option.some.inj h3
    unfold World.cell?
    rw [hh]
    have : cs' = #[.iface te pe] := by
      rw [← Array.toList_inj, hcs]
    rw [this]
    rfl
  · cases h3
theorem glob_of {W : World} (hL : laidMetH Tryz.prog laidE W) (hs : W.ShapedOpen Tryz.prog) : Glob W := by
  rw [MakeChecks.laidMetH_plain _ _ _ (by kernel_rfl)] at hL
  have e3 : Rows.laid_unicode_utf8_first = firstData := Pinned.utf8First_eq
  have e4 : (Rows.laid_unicode_utf8_acceptRanges : DataW Unit) = acceptData := by kernel_rfl
  have h3 : VarReads Tryz.prog W "unicode/utf8.first" firstData := e3 ▸ Lib.laidMet.reads hL (.tail _ (.tail _ (.tail _ (.tail _ (.tail _ (.tail _ (.head _)))))))
  have h4 : VarReads Tryz.prog W "unicode/utf8.acceptRanges" acceptData := e4 ▸ Lib.laidMet.reads hL (.tail _ (.tail _ (.tail _ (.head _))))
  have h5 : VarReads Tryz.prog W "strconv.ErrSyntax" Rows.laid_strconv_ErrSyntax := Lib.laidMet.reads hL (.tail _ (.tail _ (.tail _ (.tail _ (.tail _ (.head _))))))
  exact ⟨⟨utf8Tabs_of_readsT (U8Types.of260 Tryz.lays260) ⟨by kernel_rfl, by kernel_rfl, by kernel_rfl, by kernel_rfl, by kernel_rfl, by kernel_rfl, by kernel_rfl⟩ h3 h4, err_cell h5⟩, maxLen_some hs⟩
theorem heap_big {W : World} (h : Glob W) : 4 < W.heap.size := by
  obtain ⟨⟨_, te, pe, hm⟩, _⟩ := h
  rcases Nat.lt_or_ge 4 W.heap.size with h' | h'
  · exact h'
  · simp [World.cell?, Array.getElem?_eq_none h'] at hm
theorem Tryz.cells28 : Tryz.prog.cellsOf 28 = 2 := by kernel_rfl
theorem Tryz.cells30 : Tryz.prog.cellsOf 30 = 4 := by kernel_rfl
theorem Tryz.cells32 : Tryz.prog.cellsOf 32 = 7 := by kernel_rfl
theorem Tryz.cells139 : Tryz.prog.cellsOf 139 = 1 := by kernel_rfl
theorem Tryz.cells4 : Tryz.prog.cellsOf 4 = 1 := by kernel_rfl
theorem Tryz.cells3 : Tryz.prog.cellsOf 3 = 1 := by kernel_rfl
theorem Tryz.cells9 : Tryz.prog.cellsOf 9 = 1 := by kernel_rfl
theorem Tryz.cells26 : Tryz.prog.cellsOf 26 = 1 := by kernel_rfl
section
variable {H : Type} {enc : TypeId × Value → H} {W : World}
set_option maxRecDepth 100000 in
theorem big_trod {n : Nat} {v0 v1 : Value} {x : DataW H × List MemPlace} (h : DataW.trod enc Tryz.prog W 0 (fun _ => true) true n 28 [v0, v1] = some x) :
    ∃ (b : Bool) (a : Option Addr) (cap : Nat) (zs : List Int), v0 = .bool b ∧ v1 = .slice a zs.length cap ∧ Row W .u32 4294967296 a cap zs := by
  obtain ⟨xs, k, hk, hxy, _, hxl, hf⟩ := DataW.trod_struct Tryz.underlying28 h
  match xs, hxl with
  | [y0, y1], _ =>
    have g0 := hf 0 _ rfl
    have g1 := hf 1 _ rfl
    simp [Tryz.cells4, Tryz.cells26] at g0 g1
    obtain ⟨b, e0, _⟩ := DataW.trod_bool Tryz.underlying4 g0
    simp at e0
    subst e0
    rcases open_ints Tryz.underlying26 Tryz.underlying139 Tryz.cells139 g1 with ⟨hcs, _⟩ | ⟨x, l, c, zs, hcs, _, hl, hm, hz, _, hcell, hwz⟩
    · simp at hcs
      subst hcs
      exact ⟨b, none, 0, [], rfl, rfl, Row.empty _ _ _⟩
    · simp at hcs hz
      subst hcs
      have hlen : (zs.take l).length = l := by rw [List.length_take]; omega
      refine ⟨b, some x, c, zs.take l, rfl, by rw [hlen], ⟨by omega, hm, fun h => (by cases h), fun x' hx i hi => ?_, fun n hn => ?_⟩⟩
      · cases hx
        rw [hcell i (by omega), List.getElem?_take_of_lt (by omega)]
        simp
      · have := hwz n (List.mem_of_mem_take hn)
        simp [Lit.wf, IntKind.min, IntKind.max, IntKind.signed, IntKind.bits] at this
        omega
set_option maxRecDepth 100000 in
theorem rat_trod {n : Nat} {u0 u1 u2 u3 : Value} {x : DataW H × List MemPlace} (h : DataW.trod enc Tryz.prog W 0 (fun _ => true) true n 30 [u0, u1, u2, u3] = some x) :
    ∃ (n : Bool) (a : Option Addr) (cap : Nat) (zs : List Int) (n' : Bool) (a' : Option Addr) (cap' : Nat) (zs' : List Int), u0 = .bool n ∧ u1 = .slice a zs.length cap ∧ u2 = .bool n' ∧ u3 = .slice a' zs'.length cap' ∧ Row W .u32 4294967296 a cap zs ∧ Row W .u32 4294967296 a' cap' zs' := by
  obtain ⟨xs, k, hk, hxy, _, hxl, hf⟩ := DataW.trod_struct Tryz.underlying30 h
  match xs, hxl with
  | [y0, y1], _ =>
    have g0 := hf 0 _ rfl
    have g1 := hf 1 _ rfl
    simp [Tryz.cells28] at g0 g1
    obtain ⟨b, a, cap, zs, rfl, rfl, r0⟩ := big_trod g0
    obtain ⟨b', a', cap', zs', rfl, rfl, r1⟩ := big_trod g1
    exact ⟨b, a, cap, zs, b', a', cap', zs', rfl, rfl, rfl, rfl, r0, r1⟩
set_option maxRecDepth 100000 in
/-- A constant that was handed in. -/
theorem open_const {b0 : Nat} {v : Value} {d : DataW H} {p : List MemPlace} (hv : Value.okWide Tryz.prog W .any b0 32 v) (h : DataW.Trod enc Tryz.prog W 0 (fun _ => true) true 32 v d p) :
    ∃ (k : Int) (t : Bool) (s : ByteArray) (n : Bool) (a : Option Addr) (cap : Nat) (zs : List Int) (n' : Bool) (a' : Option Addr) (cap' : Nat) (zs' : List Int), v = .agg #[.int .i64 k, .bool t, .string s, .bool n, .slice a zs.length cap, .bool n', .slice a' zs'.length cap'] ∧ Row W .u32 4294967296 a cap zs ∧ Row W .u32 4294967296 a' cap' zs' := by
  obtain ⟨cs, rfl, hsz⟩ := okWide_struct Tryz.underlying32 hv
  rw [Tryz.cells32] at hsz
  obtain ⟨u0, u1, u2, u3, u4, u5, u6, rfl⟩ : ∃ u0 u1 u2 u3 u4 u5 u6, cs = #[u0, u1, u2, u3, u4, u5, u6] := by
    obtain ⟨l⟩ := cs
    match l, hsz with
    | [u0, u1, u2, u3, u4, u5, u6], _ => exact ⟨u0, u1, u2, u3, u4, u5, u6, rfl⟩
  obtain ⟨m, hm⟩ := h
  obtain ⟨xs, k, hk, hxy, _, hxl, hf⟩ := DataW.trod_struct Tryz.underlying32 hm
  match xs, hxl with
  | [y0, y1, y2, y3], _ =>
    have g0 := hf 0 _ rfl
    have g1 := hf 1 _ rfl
    have g2 := hf 2 _ rfl
    have g3 := hf 3 _ rfl
    simp [Tryz.cells3, Tryz.cells4, Tryz.cells9, Tryz.cells30, Value.cells] at g0 g1 g2 g3
    obtain ⟨z, e0, _⟩ := DataW.trod_int Tryz.underlying3 g0
    obtain ⟨t, e1, _⟩ := DataW.trod_bool Tryz.underlying4 g1
    obtain ⟨s, e2, _⟩ := DataW.trod_string Tryz.underlying9 g2
    simp at e0 e1 e2
    subst e0 e1 e2
    obtain ⟨b, a, cap, zs, b', a', cap', zs', rfl, rfl, rfl, rfl, r0, r1⟩ := rat_trod g3
    exact ⟨z, t, s, b, a, cap, zs, b', a', cap', zs', rfl, r0, r1⟩
end
end Go.Proofs.YtclokcoimdjaeaaGreatDoor
