/- The kinds of operations of a drawn region, each met once. -/
import Derived.Test.YtbfklindcmmncaaReg
import Derived.OpenShut
namespace Go.Proofs.Ytbfklindcmmncaa
open Go.RowKit
section
variable {P : Program} {ops : Array Oper} {Q : Exit → Act → World → Prop} {V : Nat → Value → World → Prop} {N : Nat} {w : World}
/-- One operation, whatever came up ahead of it: it goes on with a value of its slot's kind, old memory as it was. -/
def StepOk (P : Program) (ops : Array Oper) (Q : Exit → Act → World → Prop) (V : Nat → Value → World → Prop) (N : Nat) (w : World) (o : Oper) : Prop :=
  ∀ (b : Act) (w' : World), b.tmps.size = N → Below w.heap.size w w' → (∀ t ∈ o.looksAt ops, V t (b.tmps.getD t undef) w') → ∀ K : Act → World → Prop,
      (∀ v w'', Below w'.heap.size w' w'' → (∀ t, o.dst = some t → V t v w'') → K (b.put o.dst v) w'') → if Region.wanted o (yielded ops b.tmps) = true then o.wp P b w' K Q else K (b.put o.dst undef) w'
theorem steps_nil : ∀ o ∈ ([] : List Oper), StepOk P ops Q V N w o := by intro o h; cases h
theorem steps_cons {o : Oper} {l : List Oper} (h : StepOk P ops Q V N w o) (k : ∀ p ∈ l, StepOk P ops Q V N w p) : ∀ p ∈ o :: l, StepOk P ops Q V N w p := by
  intro p hp
  rcases List.mem_cons.1 hp with rfl | hp
  · exact h
  · exact k p hp
theorem look {α : Nat → Prop} {l : List Nat} (h : ∀ t ∈ l, α t) (t : Nat) (ht : l.contains t = true) : α t := h t (List.contains_iff_mem.1 ht)
theorem yielded_of {tmps : Array Value} {g d : Nat} {b : Bool} (hd : (ops[g]?).bind (·.dst) = some d) (h : tmps.getD d undef = .bool b) : yielded ops tmps g = some b := by
  have h1 : tmps[d]? = some (.bool b) := by
    rw [Array.getD_eq_getD_getElem?] at h
    cases hh : tmps[d]? with
    | none => rw [hh] at h; cases h
    | some v => rw [hh] at h; simp at h; rw [h]
  simp [yielded, hd, h1]
/-- The guard stands open, by what the slots hold. -/
def GuardOk (ops : Array Oper) (V : Nat → Value → World → Prop) (o : Oper) : Prop := ∀ (b : Act) (w' : World), (∀ t ∈ o.looksAt ops, V t (b.tmps.getD t undef) w') → Region.wanted o (yielded ops b.tmps) = true
theorem guard_none {o : Oper} (h : o.guard = none) : GuardOk ops V o := by intro b w' _; simp [Region.wanted, h]
theorem guard_true {o : Oper} (g d : Nat) (h : o.guard = some (g, true)) (hd : (ops[g]?).bind (·.dst) = some d) (hl : (o.looksAt ops).contains d = true) (hv : ∀ v w, V d v w → v = .bool true) : GuardOk ops V o := by
  intro b w' hb
  have := hv _ _ (look hb d hl)
  simp [Region.wanted, h, yielded_of hd this]
theorem StepOk.of {o : Oper} (hg : GuardOk ops V o) (h : ∀ b w', b.tmps.size = N → Below w.heap.size w w' → (∀ t ∈ o.looksAt ops, V t (b.tmps.getD t undef) w') → ∀ K : Act → World → Prop, (∀ v w'', Below w'.heap.size w' w'' → (∀ t, o.dst = some t → V t v w'') → K (b.put o.dst v) w'') → o.wp P b w' K Q) : StepOk P ops Q V N w o := by
  intro b w' hs hb hl K hK
  rw [if_pos (hg b w' hl)]
  exact h b w' hs hb hl K hK
theorem dst_eq {o : Oper} {d : Nat} {p : Nat → Prop} (hd : o.dst = some d) (h : p d) : ∀ t, o.dst = some t → p t := by
  intro t ht
  rw [hd] at ht
  cases ht
  exact h
theorem step_move {o : Oper} (t d : Nat) (ho : o.op = .move (.tmp t)) (hd : o.dst = some d) (hg : GuardOk ops V o) (hl : (o.looksAt ops).contains t = true) (hv : ∀ v w, V t v w → V d v w) : StepOk P ops Q V N w o :=
  StepOk.of hg fun b w' _ _ hb K hK => by
    unfold Oper.wp execOp
    simp only [ho]
    exact hK _ _ (Below.refl _ _) (dst_eq hd (hv _ _ (look hb t hl)))
theorem step_assign {o : Oper} (t d : Nat) (ho : o.op = .assign (.tmp t)) (hd : o.dst = some d) (hg : GuardOk ops V o) (hl : (o.looksAt ops).contains t = true) (hv : ∀ v w, V t v w → V d v w) : StepOk P ops Q V N w o :=
  StepOk.of hg fun b w' _ _ hb K hK => by
    unfold Oper.wp execOp
    simp only [ho]
    exact hK _ _ (Below.refl _ _) (dst_eq hd (hv _ _ (look hb t hl)))
/-- A function that the program has, of Go's own make. -/
def goFn (P : Program) (f : FuncId) : Bool := match P.funcs[f]? with
  | some fn => !(fn.name == "runtime.NumGoroutine") && fn.body.isSome
  | none => false
theorem run_callFunc_go {f : FuncId} (h : goFn P f = true) (args : Array Value) (w : World) : (callFunc f args).run P w = .ok (.enter f args) w := by
  unfold goFn at h
  split at h
  · rename_i fn hf
    simp only [Bool.and_eq_true, Bool.not_eq_true'] at h
    have h1 : fn.name ≠ "runtime.NumGoroutine" := by simpa using h.1
    have h2 : fn.body.isNone = false := by cases hb : fn.body <;> simp [hb] at h ⊢
    simp [callFunc, hf, h1]
    intro hb
    simp [hb] at h2
  · cases h
theorem step_call1 {o : Oper} (f : FuncId) (t d : Nat) (ats : Array TypeId) (hf : goFn P f = true) (ho : o.op = .call { callee := .value (.func f), args := #[.tmp t], argTypes := ats }) (hd : o.dst = some d) (hg : GuardOk ops V o) (hl : (o.looksAt ops).contains t = true)
    (hc : ∀ v w', Below w.heap.size w w' → V t v w' → Calls P f #[v] w' fun e w'' => ∃ u, e = .returned u ∧ V d u w'' ∧ Below w'.heap.size w' w'') : StepOk P ops Q V N w o :=
  StepOk.of hg fun b w' _ hB hb K hK => by
    obtain ⟨dst, op, type, pos, after, guard⟩ := o
    dsimp only at ho hd
    subst ho
    unfold Oper.wp
    have e : (#[] ++ (#[Operand.tmp t]).map b.eval ++ #[] : Array Value) = #[b.tmps.getD t undef] := by simp [Act.eval]
    rw [execOp_call_go, run_callFunc_go hf, e, Oper.upon_enter]
    refine Calls.mono (hc _ _ hB (look hb t hl)) ?_
    rintro e w'' ⟨u, rfl, hu, hbl⟩
    exact hK _ _ hbl (dst_eq hd hu)
theorem step_call2 {o : Oper} (f : FuncId) (s t d : Nat) (ats : Array TypeId) (hf : goFn P f = true) (ho : o.op = .call { callee := .value (.func f), args := #[.tmp s, .tmp t], argTypes := ats }) (hd : o.dst = some d) (hg : GuardOk ops V o) (hl : (o.looksAt ops).contains s = true) (hl' : (o.looksAt ops).contains t = true)
    (hc : ∀ u v w', Below w.heap.size w w' → V s u w' → V t v w' → Calls P f #[u, v] w' fun e w'' => ∃ x, e = .returned x ∧ V d x w'' ∧ Below w'.heap.size w' w'') : StepOk P ops Q V N w o :=
  StepOk.of hg fun b w' _ hB hb K hK => by
    obtain ⟨dst, op, type, pos, after, guard⟩ := o
    dsimp only at ho hd
    subst ho
    unfold Oper.wp
    have e : (#[] ++ (#[Operand.tmp s, Operand.tmp t]).map b.eval ++ #[] : Array Value) = #[b.tmps.getD s undef, b.tmps.getD t undef] := by simp [Act.eval]
    rw [execOp_call_go, run_callFunc_go hf, e, Oper.upon_enter]
    refine Calls.mono (hc _ _ _ hB (look hb s hl) (look hb t hl')) ?_
    rintro e w'' ⟨u, rfl, hu, hbl⟩
    exact hK _ _ hbl (dst_eq hd hu)
theorem step_pick {o : Oper} (c t d : Nat) (y : Operand) (ho : o.op = .pick (.tmp c) (.tmp t) y) (hd : o.dst = some d) (hg : GuardOk ops V o) (hl : (o.looksAt ops).contains c = true) (hl' : (o.looksAt ops).contains t = true) (hc : ∀ v w, V c v w → v = .bool true) (hv : ∀ v w, V t v w → V d v w) : StepOk P ops Q V N w o :=
  StepOk.of hg fun b w' _ _ hb K hK => by
    have hcv := hc _ _ (look hb c hl)
    unfold Oper.wp execOp
    simp only [ho]
    have e : b.eval (.tmp c) = .bool true := hcv
    rw [e]
    exact hK _ _ (Below.refl _ _) (dst_eq hd (hv _ _ (look hb t hl')))
end
end Go.Proofs.Ytbfklindcmmncaa
