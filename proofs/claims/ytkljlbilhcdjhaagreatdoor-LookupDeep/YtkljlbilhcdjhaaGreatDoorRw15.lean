/- Closed runs: what the listed table of bools holds; a call without arguments, run by the kernel. -/
import Derived.Test.YtkljlbilhcdjhaaGreatDoorRows
import Derived.Test.YtkljlbilhcdjhaaGreatDoorCards
import Derived.Test.YtkljlbilhcdjhaaGreatDoorTie
import Derived.Test.YtkljlbilhcdjhaaGreatDoorSl15
import Derived.ProofKit
import Derived.PinnedBridge
import Derived.Lay
import Derived.SevenTiedAt
import Derived.Lib.LaidU8T
import Derived.Lib.LaidIn
import Derived.Shelf.Vars
import Derived.SizedLaws
import Derived.OpenShut
import Derived.ChangeMaps5
import Derived.WalkKit
import Derived.ChangeOld
import Derived.Below
import Derived.Lib.SmallJoins
namespace Go.Proofs.YtkljlbilhcdjhaaGreatDoor
open Go.ChangeShapes Go.WideShapes Go.ChangeAt Go.RowKit Go.Lib Go.Shelf
open Go.Joins
open Cx
set_option linter.unusedVariables false
/-- The wrap with a condition on the world and its shape. -/
theorem of_change_and_shaped {H : Type} {enc : TypeId × Value → H} {a : Assume} {C : Checked} {os : Os} {f : FuncId} {fn : Func} {s : ChangeSpec} {conds : List PathCond} {apart fresh handsOn again : Bool} {X : World → Array Value → Prop}
    (hX : ∀ (w w' : World) (args : Array Value), w.heap = w'.heap → X w args → X w' args)
    (own : ownKnob C.prog.godebug = none) (started : os.Started) (noInit : C.prog.inits.idxOf? f = none) (hfn : C.prog.funcs[f]? = some fn)
    (witness : ∃ (w : World) (tape : Tape) (i : Input), w.os = os ∧ (w.forCall tape i).Shaped C.prog ∧ i.vars = [] ∧ Input.okWide C.prog (w.forCall tape i) .any w.heap.size f i ∧
      ((s.pre enc C.prog fn conds apart (w.forCall tape i).memory i.args ∧ X (w.forCall tape i).memory i.args) ∧ sizedMet enc C.prog fn (OpenSpec.ofChange s) apart (w.forCall tape i).memory i.args) ∧ a.holds C.prog (lone (Frame.enter C.prog f i.args .normal) [] (w.forCall tape i)))
    (contract : ∀ (W : World) (base : Nat) (args : Array Value) (ds gs : List (DataW H)) (before : List MemPlace),
      (∀ (j : Nat) t v, fn.params[j]? = some t → args[j]? = some v → Value.okWide C.prog W .any base t v) →
      DataW.Whole enc C.prog fn.params.toList s.vars apart W args.toList ds gs before → X W args → W.ShapedOpen C.prog →
      Calls C.prog f args W fun e W' => ∃ v, e = .returned v ∧ s.post enc C.prog fn apart fresh handsOn again W args v W') :
    ReturnsInHanded a C os f .any (fun w args => (s.pre enc C.prog fn conds apart w args ∧ X w args) ∧ sizedMet enc C.prog fn (OpenSpec.ofChange s) apart w args) (s.post enc C.prog fn apart fresh handsOn again) := by
  refine returnsInHanded_of_calls own started noInit witness ?_
  intro w tape i _ hsh _ hok hpre hholds
  obtain ⟨_, _, _, fn', hfn', _, _, _, _, hval⟩ := hok
  have e : fn' = fn := Option.some.inj (hfn'.symm.trans hfn)
  subst e
  obtain ⟨⟨⟨ds, gs, before, hw, hc⟩, hx⟩, hz⟩ := hpre
  have hw' := DataW.Whole.of_heap (w' := w.forCall tape i) (by rfl) hw
  refine (contract (w.forCall tape i) w.heap.size i.args ds gs before hval hw' (hX _ _ _ (by rfl) hx) hsh).mono fun e W' ⟨v, he, hp⟩ => ?_
  subst he
  exact ChangeSpec.post_blind hp
theorem ownNone : ownKnob Tryz.prog.godebug = none := by kernel_rfl
theorem laidAll : laidOutB Tryz.prog = true := by kernel_rfl
def laidE : List (String × DataW Unit) := Rows.lookupDeepRow.laid
/-- the cells of a row of bools -/
def litOf {H : Type} : DataW H → Value
  | .lit (.bool b) => .bool b
  | _ => undef
def rowOf {H : Type} : DataW H → List Value
  | .agg l => l.map litOf
  | _ => []
def tabOf {H : Type} : DataW H → List Value
  | .agg l => l.flatMap rowOf
  | _ => []
section
variable {H : Type} {enc : TypeId × Value → H} {P : Program} {W : World}
/-- A struct of bools, one cell each. -/
theorem row_trod {m : Nat} {t tb : TypeId} {fs : Array Field} {cs : List Value} {x : DataW H × List MemPlace} (ht : P.underlying t = some (.struct fs)) (hb : P.underlying tb = some .bool) (h1 : P.cellsOf tb = 1) (hs : P.cellsOf t = fs.size)
    (hf : ∀ (i : Nat) (f : Field), fs[i]? = some f → f.type = tb ∧ f.offset = i) (h : DataW.trod enc P W 0 (fun _ => true) false m t cs = some x) : cs = rowOf x.1 := by
  obtain ⟨xs, k, hk, rfl, hl, hxl, hg⟩ := DataW.trod_struct ht h
  simp only [rowOf, List.map_map]
  refine List.ext_getElem? fun i => ?_
  rw [List.getElem?_map]
  by_cases hi : i < fs.size
  · have hfi : fs[i]? = some fs[i] := Array.getElem?_eq_getElem hi
    obtain ⟨e1, e2⟩ := hf i _ hfi
    have g := hg i _ hfi
    rw [e1, e2, h1] at g
    have hx : xs[i]? = some xs[i] := List.getElem?_eq_getElem (by omega)
    rw [hx] at g
    obtain ⟨b, e3, e4⟩ := DataW.trod_bool hb g
    rw [hx]
    have : ((cs.drop i).take 1)[0]? = some (.bool b) := by rw [e3]; rfl
    simpa [e4, litOf] using this
  · rw [List.getElem?_eq_none (by omega), List.getElem?_eq_none (by omega)]; rfl
theorem rows_trod {k : Nat} : ∀ (ds : List (DataW H)) (cs : List Value), cs.length = ds.length * k → (∀ i d, ds[i]? = some d → (cs.drop (i * k)).take k = rowOf d) → cs = ds.flatMap rowOf
  | [], cs, hl, _ => by simpa using hl
  | d :: ds, cs, hl, h => by
    have h0 := h 0 d rfl
    have ih := rows_trod (k := k) ds (cs.drop k) (by simp at hl ⊢; rw [hl, Nat.succ_mul]; omega) fun i d' hd => by
      have := h (i + 1) d' (by simpa using hd)
      rw [List.drop_drop, show k + i * k = (i + 1) * k by rw [Nat.succ_mul]; omega]
      exact this
    rw [List.flatMap_cons, ← ih]
    simp at h0
    rw [← h0, List.take_append_drop]
theorem tab_trod {m n : Nat} {t e tb : TypeId} {fs : Array Field} {cs : List Value} {x : DataW H × List MemPlace} (ha : P.underlying t = some (.array n e)) (hc : P.cellsOf t = n * P.cellsOf e) (ht : P.underlying e = some (.struct fs)) (hb : P.underlying tb = some .bool) (h1 : P.cellsOf tb = 1) (hs : P.cellsOf e = fs.size)
    (hf : ∀ (i : Nat) (f : Field), fs[i]? = some f → f.type = tb ∧ f.offset = i) (h : DataW.trod enc P W 0 (fun _ => true) false m t cs = some x) : cs = tabOf x.1 := by
  obtain ⟨xs, k, hk, rfl, hl, hxl, hg⟩ := DataW.trod_array ha h
  refine rows_trod (k := P.cellsOf e) (xs.map (·.1)) cs (by rw [hl, hc, List.length_map, hxl]) fun i d hd => ?_
  rw [List.getElem?_map] at hd
  cases hx : xs[i]? with
  | none => rw [hx] at hd; cases hd
  | some y =>
    rw [hx] at hd
    have hi : i < n := by
      rcases Nat.lt_or_ge i n with h' | h'
      · exact h'
      · rw [List.getElem?_eq_none (by omega)] at hx; cases hx
    have := row_trod ht hb h1 hs hf ((hg i hi).trans hx)
    simp at hd
    rw [this, hd]
end
/-- the fields of a row of the table -/
noncomputable def fieldsT : Array Field := match Tryz.prog.underlying 293 with | some (.struct fs) => fs | _ => #[]
theorem fieldsT_all : ((List.range fieldsT.size).all fun i => match fieldsT[i]? with | some f => f.type == 4 && f.offset == i | none => false) = true := by kernel_rfl
theorem fieldsT_is (i : Nat) (f : Field) (h : fieldsT[i]? = some f) : f.type = 4 ∧ f.offset = i := by
  have hi : i < fieldsT.size := (Array.getElem?_eq_some_iff.1 h).1
  have := List.all_eq_true.1 fieldsT_all i (List.mem_range.2 hi)
  rw [h] at this
  simpa using this
theorem isTrue_ok {r : CRes} (h : Cx.isTrue r = true) : ∃ h', r = .ok (.bool true) h' := by
  unfold Cx.isTrue at h
  split at h
  · exact ⟨_, rfl⟩
  · cases h
def tab0 : List Value := [.bool false, .bool false, .bool false, .bool false, .bool false, .bool false, .bool true, .bool false, .bool false, .bool false, .bool false, .bool false, .bool true, .bool false, .bool true, .bool false, .bool false, .bool false, .bool true, .bool false, .bool false, .bool false, .bool false, .bool false, .bool false, .bool true, .bool true, .bool false, .bool false, .bool false, .bool false, .bool false, .bool true, .bool false, .bool false, .bool false, .bool false, .bool false, .bool true, .bool false, .bool false, .bool false, .bool false, .bool false, .bool true, .bool false, .bool false, .bool false, .bool false, .bool true, .bool true, .bool false, .bool false, .bool false, .bool false, .bool false, .bool true, .bool true, .bool true, .bool false, .bool false, .bool false, .bool true, .bool true, .bool false, .bool true, .bool false, .bool false, .bool false, .bool false, .bool false, .bool false, .bool true, .bool false, .bool false, .bool false, .bool false, .bool false, .bool false, .bool false, .bool false, .bool false, .bool false, .bool false]
/-- the globals, and the calls that the library's contracts answer -/
noncomputable def stb (f : FuncId) : Option (List Value → Hp → Option CRes) := cond (Nat.beq f 58) (some (keysK 105)) (cond (Nat.beq f 57) (some (sortedK 105)) none)
noncomputable def G0 : GS := ⟨7, stb⟩
theorem stubs0 (B : Nat) : Stubs Tryz.prog G0 B := by
  intro f g hg
  have hg' : cond (Nat.beq f 58) (some (keysK 105)) (cond (Nat.beq f 57) (some (sortedK 105)) none) = some g := hg
  cases h1 : Nat.beq f 58 with
  | true =>
    rw [h1] at hg'
    simp only [cond_true, Option.some.injEq] at hg'
    subst hg'
    rw [Nat.eq_of_beq_eq_true h1]
    exact keysK_ok (enters_of Tryz.func58 (by kernel_rfl) rfl) keysLaid
  | false =>
    rw [h1] at hg'
    simp only [cond_false] at hg'
    cases h2 : Nat.beq f 57 with
    | true =>
      rw [h2] at hg'
      simp only [cond_true, Option.some.injEq] at hg'
      subst hg'
      rw [Nat.eq_of_beq_eq_true h2]
      exact sortedK_ok (enters_of Tryz.func57 (by kernel_rfl) rfl) sortedLaid
    | false => rw [h2] at hg'; cases hg'
/-- the memory that a run begins with: the table alone is known -/
noncomputable def h0 : Hp := { n := 7, t := T.put (.ro tab0) .nil 1, low := 7 }
def mu0 : Mu := fun k => if k < 7 then some (k, 0, 0) else none
/-- what the table holds -/
def Tab (W : World) : Prop := ∃ cs ty fr, W.heap[1]? = some (.cells cs ty fr) ∧ cs.toList = tab0
theorem cond0 {W : World} (h : Tab W) (h7 : 7 ≤ W.heap.size) : Cond G0 W.heap.size mu0 h0 W := by
  obtain ⟨cs, ty, fr, hh, hc⟩ := h
  have hsz : 1 < W.heap.size := by
    rcases Nat.lt_or_ge 1 W.heap.size with h' | h'
    · exact h'
    · rw [Array.getElem?_eq_none h'] at hh; cases hh
  have hmu : ∀ k b p s, mu0 k = some (b, p, s) → k < 7 ∧ b = k ∧ p = 0 ∧ s = 0 := fun k b p s e => by
    unfold mu0 at e
    split at e
    · simp at e; exact ⟨by assumption, e.1.symm, e.2.1.symm, e.2.2.symm⟩
    · cases e
  have hget : ∀ k o, h0.t.get k = some o → k = 1 ∧ o = .ro tab0 := fun k o e => by
    unfold h0 at e
    rw [T.get_put, T.get_nil] at e
    split at e
    · simp at e; exact ⟨by assumption, e.symm⟩
    · cases e
  refine ⟨⟨fun k b p s e => ?_, fun k b p s o e1 e2 => ?_, fun k k' b p s p' s' o o' e1 e2 e3 e4 _ _ => ?_, fun k b p s o e1 e2 _ => ?_⟩, fun g hg => ⟨0, by unfold mu0; rw [if_pos (show g < 7 from hg)]⟩, Nat.le_refl _⟩
  · obtain ⟨h1, rfl, _, _⟩ := hmu k b p s e
    exact ⟨h1, by omega⟩
  · obtain ⟨h1, rfl, rfl, rfl⟩ := hmu k b p s e1
    obtain ⟨rfl, rfl⟩ := hget _ o e2
    refine ⟨cs, ty, fr, hh, fun i v hv => ⟨v, ?_, ?_⟩⟩
    · rw [Nat.zero_add, ← Array.getElem?_toList, hc, hv]
    · have hm : v ∈ tab0 := List.mem_of_getElem? hv
      have : ∀ v ∈ tab0, simple v = true := by decide
      exact simple_refl _ (this v hm)
  · exact (hget k o e3).1.trans (hget k' o' e4).1.symm
  · obtain ⟨rfl, rfl⟩ := hget k o e2; exact .inl rfl
theorem hmix : Tryz.prog.follows .mixedOrders = true := by kernel_rfl
def notGo (fn : Func) : Bool := !(fn.body.isSome && fn.name == "runtime.NumGoroutine")
theorem hng0 : Tryz.prog.funcs.toList.all notGo = true := by kernel_rfl
theorem hng (f : FuncId) (fn : Func) (hf : Tryz.prog.funcs[f]? = some fn) (hb : fn.body.isSome = true) : (fn.name == "runtime.NumGoroutine") = false := by
  have := List.all_eq_true.1 hng0 fn (Array.mem_toList_iff.2 (Array.mem_of_getElem? hf))
  unfold notGo at this
  rw [hb] at this
  simpa using this
/-- A CLOSED CALL: what the kernel ran is so in every world that holds the table. -/
theorem closed_any {f : FuncId} {fn : Func} {c : Code} (hf : Tryz.prog.funcs[f]? = some fn) (hc : fn.body = some c) {n : Nat} {args : List Value} (ha : args.all scalar = true) (hrun : Cx.isTrue (callN Tryz.prog G0 n f args h0) = true) (W : World) (hW : Tab W) (h7 : 7 ≤ W.heap.size) :
    Calls Tryz.prog f args.toArray W fun e W' => e = .returned (.bool true) ∧ Below W.heap.size W W' := by
  obtain ⟨h', hr⟩ := isTrue_ok hrun
  have henter : (callFunc f args.toArray).run Tryz.prog W = .ok (.enter f args.toArray) W := by
    have h1 : (fn.name == "runtime.NumGoroutine") = false := hng f fn hf (by rw [hc]; rfl)
    have h2 : ¬ fn.name = "runtime.NumGoroutine" := by simpa using h1
    simp [callFunc, hf, hc, h2]
  have hlow : ∀ k p s o (b : Nat), mu0 k = some (b, p, s) → h0.t.get k = some o → o.live = true → o.isRo = true := fun k p s o b _ e2 _ => by
    unfold h0 at e2
    rw [T.get_put, T.get_nil] at e2
    split at e2
    · simp at e2; subst e2; rfl
    · cases e2
  have hargs : ∀ l : List Value, l.all scalar = true → VRL mu0 l l := by
    intro l
    induction l with
    | nil => intro _; exact .nil
    | cons v l ih =>
      intro h
      simp only [List.all_cons, Bool.and_eq_true] at h
      exact .cons (scalar_VR h.1) (ih h.2)
  rcases (run_ok (B := W.heap.size) hng (stubs0 _) hmix n).ok f args h0 _ h' hr mu0 args W (cond0 hW h7) (hargs args ha) with ⟨v', h1, _⟩ | ⟨_, h1⟩
  · rw [henter] at h1; cases h1
  · refine (callsIn_wide.1 (h1 none)).mono fun e W' hp => ?_
    obtain ⟨v', μ', rfl, h2, h3⟩ := hp
    cases h2
    exact ⟨rfl, h3.st.os, h3.st.tape, h3.st.output, h3.st.size, fun b hb => h3.st.frame b hb fun k p s o e1 e2 e3 => .inl (hlow k p s o b e1 e2 e3)⟩
theorem big_of {W : World} (hL : laidMetH Tryz.prog laidE W) : 7 ≤ W.heap.size := by
  rw [MakeChecks.laidMetH_plain _ _ _ (by kernel_rfl)] at hL
  have h : VarReads Tryz.prog W "math/bits.deBruijn64tab" Rows.laid_math_bits_deBruijn64tab := Lib.laidMet.reads hL (.tail _ (.head _))
  obtain ⟨g, t, cs, fuel, p, h1, h2, h3, h4⟩ := h
  obtain rfl : g = 6 := Option.some.inj (h1.symm.trans (show Tryz.prog.globalNamed "math/bits.deBruijn64tab" = some 6 by kernel_rfl))
  unfold World.var? at h3
  rw [h1] at h3
  simp only [Option.bind_some] at h3
  split at h3
  · rename_i cs' ty fr hh
    have := (Array.getElem?_eq_some_iff.1 hh).1
    omega
  · cases h3
theorem tab_of {W : World} (hL : laidMetH Tryz.prog laidE W) : Tab W := by
  rw [MakeChecks.laidMetH_plain _ _ _ (by kernel_rfl)] at hL
  have h : VarReads Tryz.prog W "sterling/types.fieldsOf" Rows.laid_sterling_types_fieldsOf := Lib.laidMet.reads hL (.tail _ (.tail _ (.tail _ (.tail _ (.tail _ (.head _))))))
  obtain ⟨g, t, cs, fuel, p, h1, h2, h3, h4⟩ := h
  obtain rfl : g = 1 := Option.some.inj (h1.symm.trans (show Tryz.prog.globalNamed "sterling/types.fieldsOf" = some 1 by kernel_rfl))
  obtain rfl : t = 294 := Option.some.inj (h2.symm.trans (show (Tryz.prog.globals[1]?).map (·.type) = some 294 by kernel_rfl))
  have e := tab_trod (tb := 4) (fs := fieldsT) (show Tryz.prog.underlying 294 = some (.array 14 293) by kernel_rfl) (by kernel_rfl) (show Tryz.prog.underlying 293 = some (.struct fieldsT) by kernel_rfl) (show Tryz.prog.underlying 4 = some .bool by kernel_rfl) (by kernel_rfl) (by kernel_rfl) fieldsT_is h4
  unfold World.var? at h3
  rw [h1] at h3
  simp only [Option.bind_some] at h3
  split at h3
  · rename_i cs' ty fr hh
    obtain rfl := Option.some.inj h3
    exact ⟨cs', ty, fr, hh, e.trans (by kernel_rfl)⟩
  · cases h3
end Go.Proofs.YtkljlbilhcdjhaaGreatDoor
