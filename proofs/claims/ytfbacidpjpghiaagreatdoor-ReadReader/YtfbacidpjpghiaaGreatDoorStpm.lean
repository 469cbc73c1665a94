/- A region that draws its order, gone over once: what each slot holds is said by a predicate that lasts while old memory stays; each operation is met once, whatever came up ahead of it. -/
import Derived.WalkKit
import Derived.Below
import Derived.Orders
import Derived.OpenShut
namespace Go.Proofs.YtfbacidpjpghiaaGreatDoor
open Go.RowKit
/-- What is asked of the region's own rows: an operation waits for earlier ones alone; a slot that it looks at was filled ahead of the region, or by one that it waits for; slots lie in the frame. -/
def regOk (ops : Array Oper) (start : List Nat) (N i : Nat) : Bool :=
  match ops[i]? with
  | none => false
  | some o =>
    (o.after.all fun e => decide (e.on < i)) &&
    ((o.looksAt ops).all fun t => start.contains t || o.after.any fun e => Region.binds .any e && decide ((ops[e.on]?).bind (·.dst) = some t)) &&
    (match o.dst with
      | none => true
      | some t => decide (t < N))
def regCheck (ops : Array Oper) (start : List Nat) (N : Nat) : Bool := (List.range ops.size).all (regOk ops start N)
section
variable {P : Program} {ops : Array Oper} {Q : Exit → Act → World → Prop} {V : Nat → Value → World → Prop} {N : Nat} {start : List Nat} {D : List Deferred} {w1 : World}
def RegInv (ops : Array Oper) (V : Nat → Value → World → Prop) (start : List Nat) (N : Nat) (D : List Deferred) (w1 : World) (listed : Array Bool) (a : Act) (w : World) : Prop :=
  a.tmps.size = N ∧ a.defers = D ∧ Below w1.heap.size w1 w ∧ ∀ t, (start.contains t = true ∨ ∃ (j : Nat) (p : Oper), ops[j]? = some p ∧ p.dst = some t ∧ listed.getD j false = true) → V t (a.tmps.getD t undef) w
theorem getD_in {l : Array Bool} {i : Nat} (b : Bool) (h : i < l.size) : l.getD i b = l[i] := by simp [Array.getD_eq_getD_getElem?, h]
theorem ready_mem {listed : Array Bool} {i : Nat} (h : i ∈ Region.ready .any ops listed) : ∃ o, ops[i]? = some o ∧ listed.getD i true = false ∧ ∀ e ∈ o.after, Region.binds .any e = true → listed.getD e.on false = true := by
  unfold Region.ready at h
  rw [List.mem_filter] at h
  obtain ⟨hr, hc⟩ := h
  rw [List.mem_range] at hr
  have ho : ops[i]? = some ops[i] := Array.getElem?_eq_getElem hr
  rw [ho] at hc
  simp only [Option.map_some, Option.getD_some, Bool.and_eq_true, Bool.not_eq_true'] at hc
  refine ⟨_, ho, hc.1, fun e he hb => ?_⟩
  have := Array.all_eq_true_iff_forall_mem.1 hc.2 e he
  simpa [hb] using this
theorem ready_nil {listed : Array Bool} (hchk : ∀ i, i < ops.size → regOk ops start N i = true) (hs : listed.size = ops.size) (h : Region.ready .any ops listed = []) : ∀ i, i < ops.size → listed.getD i true = true := by
  intro i
  induction i using Nat.strongRecOn with
  | ind i ih =>
    intro hi
    by_cases hl : listed.getD i true = true
    · exact hl
    · exfalso
      have hn : i ∉ Region.ready .any ops listed := by rw [h]; simp
      apply hn
      unfold Region.ready
      rw [List.mem_filter, List.mem_range]
      have ho : ops[i]? = some ops[i] := Array.getElem?_eq_getElem hi
      have hk := hchk i hi
      simp only [regOk, ho, Bool.and_eq_true] at hk
      refine ⟨hi, ?_⟩
      rw [ho]
      simp only [Option.map_some, Option.getD_some, Bool.and_eq_true, Bool.not_eq_true']
      refine ⟨by simpa using hl, Array.all_eq_true_iff_forall_mem.2 fun e he => ?_⟩
      have hlt : e.on < i := by simpa using Array.all_eq_true_iff_forall_mem.1 hk.1.1 e he
      have := ih e.on hlt (by omega)
      have hsz : e.on < listed.size := by omega
      rw [getD_in _ hsz] at this ⊢
      simp [this]
theorem put_self {a : Act} {t : Nat} {v : Value} (h : t < a.tmps.size) : (a.put (some t) v).tmps.getD t undef = v := by
  simp [Act.put, Array.getD_eq_getD_getElem?, h]
theorem put_other {a : Act} {d : Option Tmp} {t : Nat} {v : Value} (h : d ≠ some t) : (a.put d v).tmps.getD t undef = a.tmps.getD t undef := by
  cases d with
  | none => rfl
  | some u =>
    have hne : u ≠ t := fun e => h (by rw [e])
    simp only [Act.put, Array.getD_eq_getD_getElem?]
    rw [Array.getElem?_setIfInBounds_ne hne]
theorem put_size {a : Act} {d : Option Tmp} {v : Value} : (a.put d v).tmps.size = a.tmps.size := by
  cases d <;> simp [Act.put]
theorem put_defers {a : Act} {d : Option Tmp} {v : Value} : (a.put d v).defers = a.defers := by
  cases d <;> simp [Act.put]
theorem wpAny_typed (hchk : ∀ i, i < ops.size → regOk ops start N i = true)
    (hV : ∀ t v w w', Below w.heap.size w w' → V t v w → V t v w')
    (hstep : ∀ (i : Nat) (o : Oper), ops[i]? = some o → ∀ a w, a.tmps.size = N → Below w1.heap.size w1 w → (∀ t ∈ o.looksAt ops, V t (a.tmps.getD t undef) w) → ∀ K : Act → World → Prop,
      (∀ v w', Below w.heap.size w w' → (∀ t, o.dst = some t → V t v w') → K (a.put o.dst v) w') → if Region.wanted o (yielded ops a.tmps) = true then o.wp P a w K Q else K (a.put o.dst undef) w)
    (hend : ∀ a w, a.tmps.size = N → a.defers = D → Below w1.heap.size w1 w → (∀ t, (start.contains t = true ∨ ∃ (j : Nat) (p : Oper), ops[j]? = some p ∧ p.dst = some t) → V t (a.tmps.getD t undef) w) → Q .normal a w) :
    ∀ (fuel : Nat) (listed : Array Bool) (a : Act) (w : World), listed.size = ops.size → listed.toList.count false ≤ fuel → RegInv ops V start N D w1 listed a w → wpAny P .any ops Q fuel listed a w := by
  have fin : ∀ (listed : Array Bool) (a : Act) (w : World), listed.size = ops.size → RegInv ops V start N D w1 listed a w → Region.ready .any ops listed = [] → Q .normal a w := by
    intro listed a w hs hi hr
    have hall := ready_nil hchk hs hr
    refine hend a w hi.1 hi.2.1 hi.2.2.1 fun t ht => hi.2.2.2 t (ht.imp id ?_)
    rintro ⟨j, p, hj, hp⟩
    have hj' : j < ops.size := by
      by_cases hh : j < ops.size
      · exact hh
      · rw [Array.getElem?_eq_none (by omega)] at hj; cases hj
    have := hall j hj'
    rw [getD_in _ (by omega)] at this
    exact ⟨j, p, hj, hp, by rw [getD_in _ (by omega)]; exact this⟩
  intro fuel
  induction fuel with
  | zero =>
    intro listed a w hs hc hi
    have hr : Region.ready .any ops listed = [] := by
      apply List.eq_nil_iff_forall_not_mem.2
      intro i h
      obtain ⟨o, ho, hl, _⟩ := ready_mem h
      have hlt : i < listed.size := by
        by_cases hh : i < listed.size
        · exact hh
        · simp [Array.getD_eq_getD_getElem?, hh] at hl
      rw [getD_in _ hlt] at hl
      have : false ∈ listed.toList := by rw [← hl]; simp
      have := List.count_pos_iff.2 this
      omega
    exact ⟨hr, fin listed a w hs hi hr⟩
  | succ fuel ih =>
    intro listed a w hs hc hi
    refine ⟨fun hr => fin listed a w hs hi hr, fun i h => ?_⟩
    obtain ⟨o, ho, hl, haf⟩ := ready_mem h
    have hi' : i < ops.size := by
      by_cases hh : i < ops.size
      · exact hh
      · rw [Array.getElem?_eq_none (by omega)] at ho; cases ho
    have hk := hchk i hi'
    simp only [regOk, ho, Bool.and_eq_true] at hk
    have hlt : i < listed.size := by omega
    have hli : listed[i] = false := by rw [← getD_in true hlt]; exact hl
    have hlook : ∀ t ∈ o.looksAt ops, V t (a.tmps.getD t undef) w := by
      intro t ht
      have h2 := List.all_eq_true.1 hk.1.2 t ht
      simp only [Bool.or_eq_true] at h2
      refine hi.2.2.2 t (h2.imp id fun h3 => ?_)
      obtain ⟨n, hn, h4⟩ := Array.any_eq_true.1 h3
      have he : o.after[n] ∈ o.after := Array.getElem_mem hn
      generalize o.after[n] = e at h4 he
      simp only [Bool.and_eq_true, decide_eq_true_eq] at h4
      have h5 := haf e he h4.1
      obtain ⟨p, hp, hd⟩ := Option.bind_eq_some_iff.1 h4.2
      exact ⟨e.on, p, hp, hd, h5⟩
    have key := hstep i o ho a w hi.1 hi.2.2.1 hlook (wpAny P .any ops Q fuel (listed.setIfInBounds i true)) (by
      intro v w' hb hv
      refine ih _ _ _ (by simpa using hs) ?_ ⟨by rw [put_size]; exact hi.1, by rw [put_defers]; exact hi.2.1, hi.2.2.1.trans (hb.mono hi.2.2.1.size), fun t ht => ?_⟩
      · rw [Array.toList_setIfInBounds, List.count_set (by simpa using hlt)]
        have hpos : 0 < listed.toList.count false := List.count_pos_iff.2 (by rw [← hli]; simp)
        have e1 : listed.toList[i]'(by simpa using hlt) = false := by simpa using hli
        rw [e1]
        simp only [beq_self_eq_true, if_true]
        have e2 : (true == false) = false := rfl
        rw [e2]
        simp only [Bool.false_eq_true, if_false]
        omega
      · by_cases hd : o.dst = some t
        · rw [hd, put_self (by
            rw [hi.1]
            have h6 := hk.2
            simp only [hd, decide_eq_true_eq] at h6
            exact h6)]
          exact hv t hd
        · rw [put_other hd]
          refine hV t _ w w' hb (hi.2.2.2 t (ht.imp id ?_))
          rintro ⟨j, p, hj, hp, h7⟩
          have hne : i ≠ j := by
            intro e
            subst e
            rw [ho] at hj
            cases hj
            exact hd hp
          refine ⟨j, p, hj, hp, ?_⟩
          simp only [Array.getD_eq_getD_getElem?] at h7 ⊢
          rwa [Array.getElem?_setIfInBounds_ne hne] at h7)
    unfold wpOp
    rw [ho]
    show if _ then _ else _
    split
    · rename_i hw
      rw [if_pos hw] at key
      exact .inl key
    · rename_i hw
      rw [if_neg hw] at key
      exact key
/-- A drawn region by what its slots hold. -/
theorem wp_region_typed {id : Nat} {a : Act} {w : World} (V : Nat → Value → World → Prop) (start : List Nat) (N : Nat) (hm : P.follows .mixedOrders = true) (hchk : regCheck ops start N = true) (hN : a.tmps.size = N)
    (hV : ∀ t v w w', Below w.heap.size w w' → V t v w → V t v w')
    (hstart : ∀ t ∈ start, V t (a.tmps.getD t undef) w.drew)
    (hstep : ∀ o ∈ ops.toList, ∀ (b : Act) (w' : World), b.tmps.size = N → Below w.heap.size w w' → (∀ t ∈ o.looksAt ops, V t (b.tmps.getD t undef) w') → ∀ K : Act → World → Prop,
      (∀ v w'', Below w'.heap.size w' w'' → (∀ t, o.dst = some t → V t v w'') → K (b.put o.dst v) w'') → if Region.wanted o (yielded ops b.tmps) = true then o.wp P b w' K Q else K (b.put o.dst undef) w')
    (hend : ∀ b w', b.tmps.size = N → b.defers = a.defers → Below w.heap.size w w' → (∀ t, (start.contains t = true ∨ ∃ (j : Nat) (p : Oper), ops[j]? = some p ∧ p.dst = some t) → V t (b.tmps.getD t undef) w') → Q .normal b w') : (Code.region id ops true).wp P Q a w := by
  refine wp_region_any hm ?_
  refine wpAny_typed (w1 := w) (V := V) (N := N) (start := start) (D := a.defers) (fun i hi => List.all_eq_true.1 hchk i (List.mem_range.2 hi)) hV (fun i o ho => hstep o (by
    have := Array.mem_of_getElem? ho
    exact Array.mem_toList_iff.2 this)) hend ops.size _ a _ (by simp) (by simp) ⟨hN, rfl, (Below.refl _ _).drew, fun t ht => ?_⟩
  rcases ht with ht | ⟨j, p, hj, hp, ht⟩
  · exact hstart t (List.contains_iff_mem.1 ht)
  · have hjs : j < ops.size := by
      by_cases hh : j < ops.size
      · exact hh
      · rw [Array.getElem?_eq_none (by omega)] at hj; cases hj
    simp [Array.getD_eq_getD_getElem?, hjs] at ht
end
end Go.Proofs.YtfbacidpjpghiaaGreatDoor
namespace Go.Proofs.YtfbacidpjpghiaaGreatDoor
open Go.RowKit
section
variable {P : Program} {ops : Array Oper} {Q : Exit → Act → World → Prop} {V : Nat → Value → World → Prop} {N : Nat} {w : World}
/-- One operation, whatever came up ahead of it: it goes on with a value of its slot's kind, old memory as it was. -/
def StepOk (P : Program) (ops : Array Oper) (Q : Exit → Act → World → Prop) (V : Nat → Value → World → Prop) (N : Nat) (w : World) (o : Oper) : Prop :=
  ∀ (b : Act) (w' : World), b.tmps.size = N → Below w.heap.size w w' → (∀ t ∈ o.looksAt ops, V t (b.tmps.getD t undef) w') → ∀ K : Act → World → Prop,
      (∀ v w'', Below w'.heap.size w' w'' → (∀ t, o.dst = some t → V t v w'') → K (b.put o.dst v) w'') → if Region.wanted o (yielded ops b.tmps) = true then o.wp P b w' K Q else K (b.put o.dst undef) w'
theorem steps_nil : ∀ o ∈ ([] : List Oper), StepOk P ops Q V N w o := by intro o h; cases h
theorem steps_cons {o : Oper} {l : List Oper} (h : StepOk P ops Q V N w o) (k : ∀ p ∈ l, StepOk P ops Q V N w p) : ∀ p ∈ o :: l, StepOk P ops Q V N w p := by
  intro p hp
  rcases List.mem_cons.1 hp with rfl | hp
  · exact h
  · exact k p hp
theorem look {α : Nat → Prop} {l : List Nat} (h : ∀ t ∈ l, α t) (t : Nat) (ht : l.contains t = true) : α t := h t (List.contains_iff_mem.1 ht)
theorem yielded_of {tmps : Array Value} {g d : Nat} {b : Bool} (hd : (ops[g]?).bind (·.dst) = some d) (h : tmps.getD d undef = .bool b) : yielded ops tmps g = some b := by
  have h1 : tmps[d]? = some (.bool b) := by
    rw [Array.getD_eq_getD_getElem?] at h
    cases hh : tmps[d]? with
    | none => rw [hh] at h; cases h
    | some v => rw [hh] at h; simp at h; rw [h]
  simp [yielded, hd, h1]
/-- The guard stands open, by what the slots hold. -/
def GuardOk (ops : Array Oper) (V : Nat → Value → World → Prop) (o : Oper) : Prop := ∀ (b : Act) (w' : World), (∀ t ∈ o.looksAt ops, V t (b.tmps.getD t undef) w') → Region.wanted o (yielded ops b.tmps) = true
theorem guard_none {o : Oper} (h : o.guard = none) : GuardOk ops V o := by intro b w' _; simp [Region.wanted, h]
theorem guard_true {o : Oper} (g d : Nat) (h : o.guard = some (g, true)) (hd : (ops[g]?).bind (·.dst) = some d) (hl : (o.looksAt ops).contains d = true) (hv : ∀ v w, V d v w → v = .bool true) : GuardOk ops V o := by
  intro b w' hb
  have := hv _ _ (look hb d hl)
  simp [Region.wanted, h, yielded_of hd this]
theorem StepOk.of {o : Oper} (hg : GuardOk ops V o) (h : ∀ b w', b.tmps.size = N → Below w.heap.size w w' → (∀ t ∈ o.looksAt ops, V t (b.tmps.getD t undef) w') → ∀ K : Act → World → Prop, (∀ v w'', Below w'.heap.size w' w'' → (∀ t, o.dst = some t → V t v w'') → K (b.put o.dst v) w'') → o.wp P b w' K Q) : StepOk P ops Q V N w o := by
  intro b w' hs hb hl K hK
  rw [if_pos (hg b w' hl)]
  exact h b w' hs hb hl K hK
theorem dst_eq {o : Oper} {d : Nat} {p : Nat → Prop} (hd : o.dst = some d) (h : p d) : ∀ t, o.dst = some t → p t := by
  intro t ht
  rw [hd] at ht
  cases ht
  exact h
theorem step_move {o : Oper} (t d : Nat) (ho : o.op = .move (.tmp t)) (hd : o.dst = some d) (hg : GuardOk ops V o) (hl : (o.looksAt ops).contains t = true) (hv : ∀ v w, V t v w → V d v w) : StepOk P ops Q V N w o :=
  StepOk.of hg fun b w' _ _ hb K hK => by
    unfold Oper.wp execOp
    simp only [ho]
    exact hK _ _ (Below.refl _ _) (dst_eq hd (hv _ _ (look hb t hl)))
theorem step_assign {o : Oper} (t d : Nat) (ho : o.op = .assign (.tmp t)) (hd : o.dst = some d) (hg : GuardOk ops V o) (hl : (o.looksAt ops).contains t = true) (hv : ∀ v w, V t v w → V d v w) : StepOk P ops Q V N w o :=
  StepOk.of hg fun b w' _ _ hb K hK => by
    unfold Oper.wp execOp
    simp only [ho]
    exact hK _ _ (Below.refl _ _) (dst_eq hd (hv _ _ (look hb t hl)))
/-- A function that the program has, of Go's own make. -/
def goFn (P : Program) (f : FuncId) : Bool := match P.funcs[f]? with
  | some fn => !(fn.name == "runtime.NumGoroutine") && fn.body.isSome
  | none => false
theorem run_callFunc_go {f : FuncId} (h : goFn P f = true) (args : Array Value) (w : World) : (callFunc f args).run P w = .ok (.enter f args) w := by
  unfold goFn at h
  split at h
  · rename_i fn hf
    simp only [Bool.and_eq_true, Bool.not_eq_true'] at h
    have h1 : fn.name ≠ "runtime.NumGoroutine" := by simpa using h.1
    have h2 : fn.body.isNone = false := by cases hb : fn.body <;> simp [hb] at h ⊢
    simp [callFunc, hf, h1]
    intro hb
    simp [hb] at h2
  · cases h
theorem step_call1 {o : Oper} (f : FuncId) (t d : Nat) (ats : Array TypeId) (hf : goFn P f = true) (ho : o.op = .call { callee := .value (.func f), args := #[.tmp t], argTypes := ats }) (hd : o.dst = some d) (hg : GuardOk ops V o) (hl : (o.looksAt ops).contains t = true)
    (hc : ∀ v w', Below w.heap.size w w' → V t v w' → Calls P f #[v] w' fun e w'' => ∃ u, e = .returned u ∧ V d u w'' ∧ Below w'.heap.size w' w'') : StepOk P ops Q V N w o :=
  StepOk.of hg fun b w' _ hB hb K hK => by
    obtain ⟨dst, op, type, pos, after, guard⟩ := o
    dsimp only at ho hd
    subst ho
    unfold Oper.wp
    have e : (#[] ++ (#[Operand.tmp t]).map b.eval ++ #[] : Array Value) = #[b.tmps.getD t undef] := by simp [Act.eval]
    rw [execOp_call_go, run_callFunc_go hf, e, Oper.upon_enter]
    refine Calls.mono (hc _ _ hB (look hb t hl)) ?_
    rintro e w'' ⟨u, rfl, hu, hbl⟩
    exact hK _ _ hbl (dst_eq hd hu)
theorem step_call2 {o : Oper} (f : FuncId) (s t d : Nat) (ats : Array TypeId) (hf : goFn P f = true) (ho : o.op = .call { callee := .value (.func f), args := #[.tmp s, .tmp t], argTypes := ats }) (hd : o.dst = some d) (hg : GuardOk ops V o) (hl : (o.looksAt ops).contains s = true) (hl' : (o.looksAt ops).contains t = true)
    (hc : ∀ u v w', Below w.heap.size w w' → V s u w' → V t v w' → Calls P f #[u, v] w' fun e w'' => ∃ x, e = .returned x ∧ V d x w'' ∧ Below w'.heap.size w' w'') : StepOk P ops Q V N w o :=
  StepOk.of hg fun b w' _ hB hb K hK => by
    obtain ⟨dst, op, type, pos, after, guard⟩ := o
    dsimp only at ho hd
    subst ho
    unfold Oper.wp
    have e : (#[] ++ (#[Operand.tmp s, Operand.tmp t]).map b.eval ++ #[] : Array Value) = #[b.tmps.getD s undef, b.tmps.getD t undef] := by simp [Act.eval]
    rw [execOp_call_go, run_callFunc_go hf, e, Oper.upon_enter]
    refine Calls.mono (hc _ _ _ hB (look hb s hl) (look hb t hl')) ?_
    rintro e w'' ⟨u, rfl, hu, hbl⟩
    exact hK _ _ hbl (dst_eq hd hu)
theorem step_pick {o : Oper} (c t d : Nat) (y : Operand) (ho : o.op = .pick (.tmp c) (.tmp t) y) (hd : o.dst = some d) (hg : GuardOk ops V o) (hl : (o.looksAt ops).contains c = true) (hl' : (o.looksAt ops).contains t = true) (hc : ∀ v w, V c v w → v = .bool true) (hv : ∀ v w, V t v w → V d v w) : StepOk P ops Q V N w o :=
  StepOk.of hg fun b w' _ _ hb K hK => by
    have hcv := hc _ _ (look hb c hl)
    unfold Oper.wp execOp
    simp only [ho]
    have e : b.eval (.tmp c) = .bool true := hcv
    rw [e]
    exact hK _ _ (Below.refl _ _) (dst_eq hd (hv _ _ (look hb t hl')))
end
end Go.Proofs.YtfbacidpjpghiaaGreatDoor
