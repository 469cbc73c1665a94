/- Closed runs: a region that draws its order: what an operation looks at; the executor's way through it. -/
import Derived.Test.YtkljlbilhcdjhaaGreatDoorCxrm
namespace Go.Proofs.YtkljlbilhcdjhaaGreatDoor
namespace Cx
open Go

section
variable {P : Program} {G : GS} {B : Nat}

/-- an environment cut down to some temporaries -/
noncomputable def restrict (l : List Nat) (t : T Value) : T Value := l.foldr (fun k acc => match t.get k with | some v => T.put v acc k | none => acc) .nil
theorem restrict_get (t : T Value) : ∀ (l : List Nat) (k : Nat), (restrict l t).get k = if k ∈ l then t.get k else none
  | [], k => by simp [restrict, T.get_nil]
  | j :: l, k => by
    have hd : restrict (j :: l) t = (match t.get j with | some v => T.put v (restrict l t) j | none => restrict l t) := rfl
    rw [hd]
    cases hj : t.get j with
    | none =>
      rw [restrict_get t l k]
      by_cases hk : k = j
      · subst hk; simp [hj]
      · simp [hk]
    | some v =>
      simp only
      rw [T.get_put, restrict_get t l k]
      by_cases hk : k = j
      · subst hk; simp [hj]
      · simp [hk]

theorem ev_congr {e e2 : En} {x : Operand} (hx : ∀ t, x = .tmp t → e2.t.get t = e.t.get t) : ev G e2 x = ev G e x := by
  cases x with
  | tmp t => exact hx t rfl
  | _ => rfl
theorem evs_congr {e e2 : En} : ∀ {l : List Operand}, (∀ x ∈ l, ev G e2 x = ev G e x) → evs G e2 l = evs G e l
  | [], _ => rfl
  | x :: l, hx => by rw [evs_cons, evs_cons, hx x (by simp), evs_congr fun y hy => hx y (by simp [hy])]
theorem evp_congr {e e2 : En} : ∀ {l : List (Nat × Operand)}, (∀ x ∈ l, ev G e2 x.2 = ev G e x.2) → evp G e2 l = evp G e l
  | [], _ => rfl
  | x :: l, hx => by rw [evp_cons, evp_cons, hx x (by simp), evp_congr fun y hy => hx y (by simp [hy])]
theorem bound_congr {e e2 : En} {d : Nat} {x : Option Operand} (hx : ∀ y, x = some y → ev G e2 y = ev G e y) : bound G e2 d x = bound G e d x := by
  cases x with
  | none => rfl
  | some y => simp only [bound, hx y rfl]
theorem opC_congr {e e2 : En} {h : Hp} {o : Oper} (hx : ∀ x ∈ o.op.operands, ev G e2 x = ev G e x) : opC P G e2 h o = opC P G e h o := by
  obtain ⟨dst, op, type, pos, after, guard⟩ := o
  have hops : ∀ q, op = q → (∀ x ∈ q.operands, ev G e2 x = ev G e x) := fun q hq => hq ▸ hx
  cases op with
  | move x => simp only [Op.operands] at hx; simp only [opC, opS, hx x (by simp)]
  | assign x => simp only [Op.operands] at hx; simp only [opC, opS, hx x (by simp)]
  | pick c x y => simp only [Op.operands] at hx; simp only [opC, opS, opPick, hx c (by simp), hx x (by simp), hx y (by simp)]
  | alloc t => rfl
  | box t x => simp only [Op.operands] at hx; simp only [opC, opS, opBox, hx x (by simp)]
  | build t ps =>
    have : evp G e2 ps.toList = evp G e ps.toList := evp_congr fun x hm => hx x.2 (by simp only [Op.operands]; simp; exact ⟨x.1, by simpa using hm⟩)
    simp only [opC, opS, opBuild, this]
  | buildSlice t n ps =>
    have : evp G e2 ps.toList = evp G e ps.toList := evp_congr fun x hm => hx x.2 (by simp only [Op.operands]; simp; exact ⟨x.1, by simpa using hm⟩)
    simp only [opC, opS, opBuildSlice, this]
  | load t x => simp only [Op.operands] at hx; simp only [opC, opS, hx x (by simp)]
  | store t x y => simp only [Op.operands] at hx; simp only [opC, opS, opStore, hx x (by simp), hx y (by simp)]
  | nilCheck x => simp only [Op.operands] at hx; simp only [opC, opS, hx x (by simp)]
  | binOp op t x y t2 => simp only [Op.operands] at hx; simp only [opC, opS, opBin, hx x (by simp), hx y (by simp)]
  | unOp op t x => simp only [Op.operands] at hx; simp only [opC, opS, opUn, hx x (by simp)]
  | convert s d x => simp only [Op.operands] at hx; simp only [opC, opS, opConv, hx x (by simp)]
  | makeInterface t x => simp only [Op.operands] at hx; simp only [opC, opS, opIface, hx x (by simp)]
  | makeFunc fn x y =>
    simp only [Op.operands] at hx
    have h1 : evs G e2 x.toList = evs G e x.toList := evs_congr fun z hz => hx z (by simp; exact .inl (by simpa using hz))
    have h2 : evs G e2 y.toList = evs G e y.toList := evs_congr fun z hz => hx z (by simp; exact .inr (by simpa using hz))
    simp only [opC, opS, opFunc, h1, h2]
  | makeMap t r =>
    cases r with
    | none => rfl
    | some x => simp only [Op.operands] at hx; simp only [opC, opS, opMakeMap, hx x (by simp)]
  | makeSlice t x y => simp only [Op.operands] at hx; simp only [opC, opS, opMakeSlice, hx x (by simp), hx y (by simp)]
  | slice t x lo hi mx =>
    simp only [Op.operands] at hx
    have h1 : ∀ d, bound G e2 d lo = bound G e d lo := fun d => bound_congr fun y hy => hx y (by simp [hy])
    have h2 : ∀ d, bound G e2 d hi = bound G e d hi := fun d => bound_congr fun y hy => hx y (by simp [hy])
    simp only [opC, opS, opSlice, hx x (by simp), sliceV, h1, h2]
  | fieldAddr s x f => simp only [Op.operands] at hx; simp only [opC, opS, opFieldAddr, hx x (by simp)]
  | indexAddr t x y => simp only [Op.operands] at hx; simp only [opC, opS, opIndexAddr, hx x (by simp), hx y (by simp)]
  | index t x y => simp only [Op.operands] at hx; simp only [opC, opS, opIndex, hx x (by simp), hx y (by simp)]
  | lookup t x y ok => simp only [Op.operands] at hx; simp only [opC, opS, opLookup, hx x (by simp), hx y (by simp)]
  | mapUpdate t x y z => simp only [Op.operands] at hx; simp only [opC, opS, opMapUpdate, hx x (by simp), hx y (by simp), hx z (by simp)]
  | extract t i => simp only [Op.operands] at hx; simp only [opC, opS, opExtract, hx t (by simp)]
  | field s x f => simp only [Op.operands] at hx; simp only [opC, opS, opField, hx x (by simp)]
  | typeAssert x xt t ok => simp only [Op.operands] at hx; simp only [opC, opS, opAssert, hx x (by simp)]
  | call c =>
    simp only [Op.operands, Call.operands] at hx
    have h1 : evs G e2 c.args.toList = evs G e c.args.toList := evs_congr fun z hz => hx z (by simp; exact .inr (by simpa using hz))
    cases hc : c.callee with
    | value f =>
      have h2 : ev G e2 f = ev G e f := hx f (by simp [hc])
      simp only [opC, opCall, h1, hc, h2]
    | invoke r m => simp only [opC, opCall, h1, hc]
    | builtin b => simp only [opC, opCall, h1, hc]
  | _ => rfl
theorem touch_congr {e e2 : En} {op : Op} (hx : ∀ x ∈ op.operands, ev G e2 x = ev G e x) : touch G e2 op = touch G e op := by
  cases op with
  | load t x => simp only [Op.operands] at hx; simp only [touch, hx x (by simp)]
  | store t x y => simp only [Op.operands] at hx; simp only [touch, hx x (by simp)]
  | _ => rfl
end
end Cx
end Go.Proofs.YtkljlbilhcdjhaaGreatDoor
namespace Go.Proofs.YtkljlbilhcdjhaaGreatDoor
namespace Cx
open Go

section
theorem fold_bits {α : Type} (b : α → Bool) (on c : α → Nat) (i : Nat) : ∀ (l : List α) (s : Nat), (l.foldl (fun s e => if b e = true then s ||| 2 ^ on e ||| c e else s) s).testBit i = true → s.testBit i = true ∨ ∃ e ∈ l, b e = true ∧ (on e = i ∨ (c e).testBit i = true)
  | [], s, h => .inl h
  | x :: l, s, h => by
    rw [List.foldl_cons] at h
    rcases fold_bits b on c i l _ h with h1 | ⟨e, he, h1⟩
    · by_cases hb : b x = true
      · rw [if_pos hb, Nat.testBit_or, Nat.testBit_or, Nat.testBit_two_pow] at h1
        simp only [Bool.or_eq_true, decide_eq_true_eq] at h1
        rcases h1 with (h1 | h1) | h1
        · exact .inl h1
        · exact .inr ⟨x, by simp, hb, .inl h1⟩
        · exact .inr ⟨x, by simp, hb, .inr h1⟩
      · rw [if_neg hb] at h1; exact .inl h1
    · exact .inr ⟨e, by simp [he], h1⟩

theorem fold_push {α β : Type} (g : Array β → α → β) : ∀ (l : List α) (acc : Array β), (l.foldl (fun acc o => acc.push (g acc o)) acc).size = acc.size + l.length ∧ (∀ j, j < acc.size → (l.foldl (fun acc o => acc.push (g acc o)) acc)[j]? = acc[j]?) ∧
    ∀ m o, l[m]? = some o → ∃ pre : Array β, pre.size = acc.size + m ∧ (∀ j, j < pre.size → (l.foldl (fun acc o => acc.push (g acc o)) acc)[j]? = pre[j]?) ∧ (l.foldl (fun acc o => acc.push (g acc o)) acc)[acc.size + m]? = some (g pre o)
  | [], acc => ⟨by simp, fun _ _ => rfl, fun m o h => by simp at h⟩
  | x :: l, acc => by
    obtain ⟨h1, h2, h3⟩ := fold_push g l (acc.push (g acc x))
    simp only [List.foldl_cons]
    refine ⟨by rw [h1]; simp; omega, fun j hj => ?_, fun m o hm => ?_⟩
    · rw [h2 j (by simp; omega), Array.getElem?_push]
      have : ¬ j = acc.size := by omega
      simp [this]
    · cases m with
      | zero =>
        simp at hm; subst hm
        refine ⟨acc, by simp, fun j hj => ?_, ?_⟩
        · rw [h2 j (by simp; omega), Array.getElem?_push]
          have : ¬ j = acc.size := by omega
          simp [this]
        · rw [Nat.add_zero, h2 acc.size (by simp)]; simp
      | succ m =>
        obtain ⟨pre, p1, p2, p3⟩ := h3 m o (by simpa using hm)
        refine ⟨pre, by rw [p1]; simp; omega, p2, ?_⟩
        rw [show acc.size + (m + 1) = (acc.push (g acc x)).size + m by simp; omega]
        exact p3

theorem ahead_inv {ops : Array Oper} {i j : Nat} {o : Oper} (ho : ops[j]? = some o) (hlt : ∀ e ∈ o.after, Region.binds .any e = true → e.on < j) (h : ahead ops i j = true) : ∃ e ∈ o.after, Region.binds .any e = true ∧ (e.on = i ∨ ahead ops i e.on = true) := by
  have hdef : Region.before ops = ops.toList.foldl (fun acc o => acc.push (o.after.foldl (fun s e => if Region.binds .any e then s ||| 2 ^ e.on ||| acc.getD e.on 0 else s) 0)) #[] := by
    unfold Region.before; rw [← Array.foldl_toList]
  obtain ⟨_, _, h3⟩ := fold_push (fun (acc : Array Nat) (o : Oper) => o.after.foldl (fun s e => if Region.binds .any e then s ||| 2 ^ e.on ||| acc.getD e.on 0 else s) 0) ops.toList #[]
  obtain ⟨pre, p1, p2, p3⟩ := h3 j o (by simpa using ho)
  simp only [Array.size_empty, Nat.zero_add] at p1 p3
  unfold ahead at h
  rw [hdef, p3] at h
  simp only [Option.getD_some] at h
  rw [← Array.foldl_toList] at h
  rcases fold_bits (fun e => Region.binds .any e) (·.on) (fun e => pre.getD e.on 0) i o.after.toList 0 h with h1 | ⟨e, he, hb, h1⟩
  · simp at h1
  · refine ⟨e, by simpa using he, hb, h1.imp id fun hh => ?_⟩
    have hon := hlt e (by simpa using he) hb
    unfold ahead
    rw [hdef, p2 e.on (by omega)]
    simpa using hh

/-- each pair of operations: always in one order, or apart -/
structure DrawOk (ops : Array Oper) : Prop where
  low : ∀ (j : Nat) (y : Oper), ops[j]? = some y → ∀ e ∈ y.after, Region.binds .any e = true → e.on < j
  pair : ∀ (i j : Nat) (x y : Oper), i < j → ops[i]? = some x → ops[j]? = some y → ahead ops i j = true ∨ Oper.apart ops x y = true
theorem drawOk_spec {ops : Array Oper} (h : drawOk ops = true) : DrawOk ops := by
  have hall : ∀ j, j < ops.size → _ := fun j hj => List.all_eq_true.1 h j (List.mem_range.2 hj)
  constructor
  · intro j y hy e he hb
    have h1 := hall j (Array.getElem?_eq_some_iff.1 hy).1
    simp only [hy, Bool.and_eq_true] at h1
    have h2 := Array.all_eq_true_iff_forall_mem.1 h1.1 e he
    simp only [hb, Bool.not_true, Bool.false_or, decide_eq_true_eq] at h2
    exact h2
  · intro i j x y hij hx hy
    have h1 := hall j (Array.getElem?_eq_some_iff.1 hy).1
    simp only [hy, Bool.and_eq_true] at h1
    have h2 := List.all_eq_true.1 h1.2 i (List.mem_range.2 hij)
    simp only [hx, Bool.or_eq_true] at h2
    exact h2
theorem ahead_lt {ops : Array Oper} (hd : DrawOk ops) : ∀ (j i : Nat), j < ops.size → ahead ops i j = true → i < j := by
  intro j
  induction j using Nat.strongRecOn with
  | _ j ih =>
    intro i hj h
    have ho : ops[j]? = some ops[j] := Array.getElem?_eq_getElem hj
    obtain ⟨e, he, hb, h1⟩ := ahead_inv ho (hd.low j _ ho) h
    have hon := hd.low j _ ho e he hb
    rcases h1 with h1 | h1
    · omega
    · have := ih e.on hon i (by omega) h1; omega
/-- what has been done so far holds with each operation all that always come ahead of it -/
theorem ahead_done {ops : Array Oper} (hd : DrawOk ops) {D : Nat → Prop} (hD : ∀ (j : Nat) (o : Oper), ops[j]? = some o → D j → ∀ e ∈ o.after, Region.binds .any e = true → D e.on) : ∀ (j i : Nat) (o : Oper), ops[j]? = some o → (∀ e ∈ o.after, Region.binds .any e = true → D e.on) → ahead ops i j = true → D i := by
  intro j
  induction j using Nat.strongRecOn with
  | _ j ih =>
    intro i o ho hpre h
    obtain ⟨e, he, hb, h1⟩ := ahead_inv ho (hd.low j o ho) h
    have hon := hd.low j o ho e he hb
    rcases h1 with h1 | h1
    · rw [← h1]; exact hpre e he hb
    · have hlt : e.on < ops.size := by have := (Array.getElem?_eq_some_iff.1 ho).1; omega
      have ho2 : ops[e.on]? = some ops[e.on] := Array.getElem?_eq_getElem hlt
      exact ih e.on hon i _ ho2 (hD e.on _ ho2 (hpre e he hb)) h1
end
end Cx
end Go.Proofs.YtkljlbilhcdjhaaGreatDoor
namespace Go.Proofs.YtkljlbilhcdjhaaGreatDoor
namespace Cx
open Go

section
variable {P : Program} {G : GS} {B : Nat} {call : FuncId → List Value → Hp → CRes} {round : Nat → List Value → Hp → CRes} {ops : Array Oper}

/-- the executor's way: temporaries, memory, what was touched, answers, whether it was done -/
structure Way where
  E : Nat → En
  H : Nat → Hp
  A : Nat → List (Nat × AE)
  V : Nat → Value
  W : Nat → Bool
structure StepT (P : Program) (G : GS) (call : FuncId → List Value → Hp → CRes) (round : Nat → List Value → Hp → CRes) (ops : Array Oper) (y : Way) (i : Nat) (o : Oper) : Prop where
  want : wantedC ops (y.E i) o.guard = some (y.W i)
  put : putD (y.E i) o.dst (y.V i) = some (y.E (i + 1))
  yes : y.W i = true → drawOne P G call round ops i o (y.E i) (y.H i) (y.A i) (touch G (y.E i) o.op) = .ok (y.V i) (y.H (i + 1)) ∧ y.A (i + 1) = accPut i (y.A i) (y.H i) (y.H (i + 1)) (slotOp o.op) (isNew o.op) (touch G (y.E i) o.op)
  no : y.W i = false → y.V i = undef ∧ y.H (i + 1) = y.H i ∧ y.A (i + 1) = y.A i

theorem runDrawn_cons (o : Oper) (l : List Oper) (i : Nat) (acc : List (Nat × AE)) (e : En) (h : Hp) : runDrawn P G call round ops (o :: l) i acc e h = (match wantedC ops e o.guard with
    | some true => (match drawOne P G call round ops i o e h acc (touch G e o.op) with
      | .ok v h' => (match putD e o.dst v with | some e' => runDrawn P G call round ops l (Nat.succ i) (accPut i acc h h' (slotOp o.op) (isNew o.op) (touch G e o.op)) e' h' | none => .fail)
      | _ => .fail)
    | some false => (match putD e o.dst undef with | some e' => runDrawn P G call round ops l (Nat.succ i) acc e' h | none => .fail)
    | none => .fail) := rfl
theorem way_of : ∀ (l : List Oper) (i : Nat) (acc : List (Nat × AE)) (e e' : En) (h h' : Hp) (x : Ex), runDrawn P G call round ops l i acc e h = .ok x e' h' →
    x = .normal ∧ ∃ y : Way, y.E i = e ∧ y.H i = h ∧ y.A i = acc ∧ y.E (i + l.length) = e' ∧ y.H (i + l.length) = h' ∧ ∀ j o, l[j]? = some o → StepT P G call round ops y (i + j) o
  | [], i, acc, e, e', h, h', x, hr => by
    have hr' : Res.ok Ex.normal e h = .ok x e' h' := hr
    simp only [Res.ok.injEq] at hr'
    obtain ⟨rfl, rfl, rfl⟩ := hr'
    exact ⟨rfl, ⟨fun _ => e, fun _ => h, fun _ => acc, fun _ => undef, fun _ => false⟩, rfl, rfl, rfl, rfl, rfl, fun j o hj => by simp at hj⟩
  | o :: l, i, acc, e, e', h, h', x, hr => by
    rw [runDrawn_cons] at hr
    have key : ∀ (b : Bool) (v : Value) (acc1 : List (Nat × AE)) (e1 : En) (h1 : Hp), wantedC ops e o.guard = some b → putD e o.dst v = some e1 → (b = true → drawOne P G call round ops i o e h acc (touch G e o.op) = .ok v h1 ∧ acc1 = accPut i acc h h1 (slotOp o.op) (isNew o.op) (touch G e o.op)) → (b = false → v = undef ∧ h1 = h ∧ acc1 = acc) →
        runDrawn P G call round ops l (i + 1) acc1 e1 h1 = .ok x e' h' → x = .normal ∧ ∃ y : Way, y.E i = e ∧ y.H i = h ∧ y.A i = acc ∧ y.E (i + (o :: l).length) = e' ∧ y.H (i + (o :: l).length) = h' ∧ ∀ j o', (o :: l)[j]? = some o' → StepT P G call round ops y (i + j) o' := by
      intro b v acc1 e1 h1 k1 k2 k3 k4 k5
      obtain ⟨hx, y, y1, y2, y3, y4, y5, y6⟩ := way_of l (i + 1) acc1 e1 e' h1 h' x k5
      have hne : ∀ m, ¬ i + 1 + m = i := fun m => by omega
      have hne1 : ¬ i + 1 = i := by omega
      refine ⟨hx, ⟨fun j => if j = i then e else y.E j, fun j => if j = i then h else y.H j, fun j => if j = i then acc else y.A j, fun j => if j = i then v else y.V j, fun j => if j = i then b else y.W j⟩, by simp, by simp, by simp, ?_, ?_, ?_⟩
      · have : ¬ i + (o :: l).length = i := by simp
        simp only [this, if_false]
        rw [show i + (o :: l).length = i + 1 + l.length by simp; omega]; exact y4
      · have : ¬ i + (o :: l).length = i := by simp
        simp only [this, if_false]
        rw [show i + (o :: l).length = i + 1 + l.length by simp; omega]; exact y5
      · intro j o' hj
        cases j with
        | zero =>
          simp at hj; subst hj
          constructor
          · simpa using k1
          · simpa [hne1, y1] using k2
          · intro hb
            have := k3 (by simpa using hb)
            simpa [hne1, y2, y3] using this
          · intro hb
            have := k4 (by simpa using hb)
            simpa [hne1, y2, y3] using this
        | succ j =>
          have := y6 j o' (by simpa using hj)
          have e1 : ¬ i + (j + 1) = i := by omega
          have e2 : ¬ i + (j + 1) + 1 = i := by omega
          rw [show i + 1 + j = i + (j + 1) by omega] at this
          constructor
          · simpa [e1, e2] using this.want
          · simpa [e1, e2] using this.put
          · simpa [e1, e2] using this.yes
          · simpa [e1, e2] using this.no
    split at hr
    · rename_i hw
      split at hr
      · rename_i v h1 hd
        split at hr
        · rename_i e1 hp
          exact key true v _ e1 h1 hw hp (fun _ => ⟨hd, rfl⟩) (fun hh => by cases hh) hr
        · cases hr
      · cases hr
    · rename_i hw
      split at hr
      · rename_i e1 hp
        exact key false undef acc e1 h hw hp (fun hh => by cases hh) (fun _ => ⟨rfl, rfl, rfl⟩) hr
      · cases hr
    · cases hr

/-- the memory is handed through -/
def HU (f : Hp → Out) : Prop := (∀ h, f h = .fail) ∨ ∃ v, ∀ h, f h = .value v h
theorem HU.fail : HU (fun _ => .fail) := .inl fun _ => rfl
theorem HU.val (v : Value) : HU (fun h => .value v h) := .inr ⟨v, fun _ => rfl⟩
theorem HU.ofV (q : Option Value) : HU (fun h => Out.ofV h q) := by
  cases q with
  | none => exact .fail
  | some v => exact .val v
theorem HU.cond (b : Bool) {f g : Hp → Out} (hf : HU f) (hg : HU g) : HU (fun h => cond b (f h) (g h)) := by
  cases b
  · exact hg
  · exact hf
theorem HU.onlyV {f : Hp → Out} (hf : HU f) : HU (fun h => Cx.onlyV (f h)) := by
  rcases hf with hf | ⟨v, hf⟩
  · exact .inl fun h => by show Cx.onlyV (f h) = _; rw [hf h]; rfl
  · exact .inr ⟨v, fun h => by show Cx.onlyV (f h) = _; rw [hf h]; rfl⟩
theorem slot_HU {e : En} {o : Oper} (hs : slotOp o.op = true) : HU (fun h => opC P G e h o) := by
  obtain ⟨dst, op, type, pos, after, guard⟩ := o
  simp only at hs
  cases op with
  | move x => exact (HU.ofV (ev G e x)).onlyV
  | assign x => exact (HU.ofV (ev G e x)).onlyV
  | pick c x y =>
    refine HU.onlyV (f := fun h => opPick e h c x y (ev G)) ?_
    unfold opPick
    split
    · exact .ofV _
    · exact .ofV _
    · exact .fail
  | binOp op t x y t2 =>
    refine HU.onlyV (f := fun h => opBin P G e h op t x y) ?_
    unfold opBin
    split
    · exact .ofV _
    · exact .fail
  | unOp op t x =>
    refine HU.onlyV (f := fun h => opUn P G e h op x) ?_
    unfold opUn
    split
    · exact .cond _ (.ofV _) .fail
    · exact .fail
  | extract t i =>
    refine HU.onlyV (f := fun h => opExtract G e h t i) ?_
    unfold opExtract
    split
    · exact .ofV _
    · exact .fail
  | field s x f =>
    refine HU.onlyV (f := fun h => opField P G e h s x f) ?_
    unfold opField
    split
    · exact .ofV _
    · exact .fail
  | fieldAddr s x f =>
    refine HU.onlyV (f := fun h => opFieldAddr P G e h s x f) ?_
    unfold opFieldAddr
    split
    · split
      · split
        · exact .cond _ (.val _) .fail
        · exact .fail
      · exact .fail
    · exact .fail
  | indexAddr t x y =>
    refine HU.onlyV (f := fun h => opIndexAddr P G e h t x y) ?_
    unfold opIndexAddr
    split
    · unfold idxV
      split
      · split
        · split
          · exact .cond _ (.val _) .fail
          · exact .fail
        · exact .fail
      · split
        · split
          · exact .cond _ (.val _) .fail
          · exact .fail
        · exact .fail
      · exact .fail
    · exact .fail
  | nilCheck x =>
    refine HU.onlyV (f := fun h => nilCheckV h (ev G e x)) ?_
    unfold nilCheckV
    split
    · exact .val _
    · exact .val _
    · exact .val _
    · exact .fail
  | makeFunc fn x y =>
    refine HU.onlyV (f := fun h => opFunc G e h fn x.toList y.toList) ?_
    unfold opFunc
    split
    · exact .val _
    · exact .fail
  | makeInterface t x =>
    refine HU.onlyV (f := fun h => opIface P G e h t x) ?_
    unfold opIface
    split
    · exact .fail
    · exact .val _
    · exact .fail
  | build t ps =>
    refine HU.onlyV (f := fun h => opBuild P G e h t ps.toList) ?_
    unfold opBuild
    split
    · split
      · refine .cond _ ?_ .fail
        split
        · exact .val _
        · exact .fail
      · split
        · split
          · exact .val _
          · exact .fail
        · exact .fail
      · exact .fail
    · exact .fail
  | typeAssert x xt t ok =>
    refine HU.onlyV (f := fun h => opAssert P G e h x t ok) ?_
    unfold opAssert
    have hno : HU (fun h => assertNo P h t ok) := by
      unfold assertNo
      split
      · exact .val _
      · exact .fail
    split
    · exact .fail
    · unfold assertV
      split
      · exact .cond _ (.val _) hno
      · exact hno
      · exact .fail
    · exact .fail
  | index t x y =>
    refine HU.onlyV (f := fun h => opIndex P G e h t x y) ?_
    unfold opIndex
    split
    · exact .cond _ (.ofV _) .fail
    · exact .fail
  | call c =>
    cases hc : c.callee with
    | builtin b =>
      cases b with
      | len =>
        show HU (fun h => opCall P G e h c type)
        unfold opCall
        rw [hc]
        split
        · exact .fail
        · simp only [opBuiltin]
          refine HU.onlyV (f := fun h => opLen P h c.argTypes _) ?_
          unfold opLen
          split
          · split
            · split
              · exact .val _
              · exact .fail
            · exact .fail
          · split
            · split
              · exact .val _
              · exact .fail
            · exact .fail
          · exact .fail
      | min =>
        show HU (fun h => opCall P G e h c type)
        unfold opCall
        rw [hc]
        split
        · exact .fail
        · simp only [opBuiltin]
          exact HU.onlyV (f := fun h => cond _ (Out.ofV h _) .fail) (.cond _ (.ofV _) .fail)
      | max =>
        show HU (fun h => opCall P G e h c type)
        unfold opCall
        rw [hc]
        split
        · exact .fail
        · simp only [opBuiltin]
          exact HU.onlyV (f := fun h => cond _ (Out.ofV h _) .fail) (.cond _ (.ofV _) .fail)
      | _ => exfalso; revert hs; unfold slotOp; split <;> simp_all
    | _ => exfalso; revert hs; unfold slotOp; split <;> simp_all
  | _ => cases hs
/-- one block more, whatever the memory -/
def NU (n : Nat) (f : Hp → Out) : Prop := (∀ h : Hp, h.n = n → f h = .fail) ∨ ∃ v ob, ∀ h : Hp, h.n = n → f h = .value v (h.new ob)
theorem NU.fail {n : Nat} : NU n (fun _ => .fail) := .inl fun _ _ => rfl
theorem NU.outNew {n : Nat} (vs : List Value) : NU n (fun h => Cx.outNew h vs) := .inr ⟨.pointer (some ⟨n, 0, none⟩), .cells vs, fun h hn => by subst hn; rfl⟩
theorem NU.outRow {n : Nat} (vs : List Value) (m es : Nat) : NU n (fun h => Cx.outRow h vs m es) := .inr ⟨.slice (some ⟨n, 0, none⟩) m es, .cells vs, fun h hn => by subst hn; rfl⟩
theorem NU.map {n : Nat} : NU n (fun h => .value (.map (some h.n)) (h.new (.map []))) := .inr ⟨.map (some n), .map [], fun h hn => by subst hn; rfl⟩
theorem NU.cond {n : Nat} (b : Bool) {f g : Hp → Out} (hf : NU n f) (hg : NU n g) : NU n (fun h => cond b (f h) (g h)) := by
  cases b
  · exact hg
  · exact hf
theorem NU.onlyV {n : Nat} {f : Hp → Out} (hf : NU n f) : NU n (fun h => Cx.onlyV (f h)) := by
  rcases hf with hf | ⟨v, ob, hf⟩
  · exact .inl fun h hn => by show Cx.onlyV (f h) = _; rw [hf h hn]; rfl
  · exact .inr ⟨v, ob, fun h hn => by show Cx.onlyV (f h) = _; rw [hf h hn]; rfl⟩
theorem new_NU {e : En} {o : Oper} (hs : isNew o.op = true) (n : Nat) : NU n (fun h => opC P G e h o) := by
  obtain ⟨dst, op, type, pos, after, guard⟩ := o
  simp only at hs
  cases op with
  | alloc t =>
    refine NU.onlyV (f := fun h => opAlloc P h t) ?_
    unfold opAlloc
    split
    · exact .outNew _
    · exact .fail
  | box t x =>
    refine NU.onlyV (f := fun h => opBox G e h x) ?_
    unfold opBox
    split
    · exact .outNew _
    · exact .fail
  | buildSlice t len parts =>
    refine NU.onlyV (f := fun h => opBuildSlice P G e h t len parts.toList) ?_
    unfold opBuildSlice
    split
    · split
      · refine .cond _ ?_ .fail
        split
        · exact .outRow _ _ _
        · exact .fail
      · exact .fail
    · exact .fail
  | makeMap t r =>
    refine NU.onlyV (f := fun h => opMakeMap P G e h t r) ?_
    unfold opMakeMap
    split
    · exact .map
    · split
      · exact .map
      · exact .fail
  | makeSlice t l c =>
    refine NU.onlyV (f := fun h => opMakeSlice P G e h t l c) ?_
    unfold opMakeSlice
    split
    · split
      · exact .cond _ (.outRow _ _ _) .fail
      · exact .fail
    · exact .fail
  | _ => cases hs
/-- an operation that neither reads nor changes memory -/
theorem slot_free {e : En} {h : Hp} {o : Oper} {v : Value} {h' : Hp} (hs : slotOp o.op = true) (hv : opC P G e h o = .value v h') : h' = h ∧ ∀ h2, opC P G e h2 o = .value v h2 := by
  rcases slot_HU (P := P) (G := G) (e := e) hs with hf | ⟨u, hf⟩
  · have hf' : opC P G e h o = .fail := hf h
    rw [hf'] at hv; cases hv
  · have hf' : opC P G e h o = .value u h := hf h
    rw [hf'] at hv
    simp only [Out.value.injEq] at hv
    obtain ⟨rfl, rfl⟩ := hv
    exact ⟨rfl, hf⟩

/-- one operation, somewhere -/
theorem op_exists (hf : SF P G B call) (hrd : SR P G B round) {o : Oper} {e : En} {h h1 : Hp} {v : Value} {μ : Mu} {a : Act} {w : World} (c : Cond G B μ h w) (he : AR μ e a) (ho : opDone call round h (opC P G e h o) = .ok v h1) :
    ∃ μ1 v' w1, VR μ1 v v' ∧ Good B μ h w μ1 h1 w1 := by
  have hok := opC_ok (P := P) c.hr c.hB c.gr he.tr o
  cases hop : opC P G e h o with
  | fail => rw [hop] at ho; cases ho
  | value u h2 =>
    rw [hop] at ho hok
    have ho' : CRes.ok u h2 = .ok v h1 := ho
    simp only [CRes.ok.injEq] at ho'
    obtain ⟨rfl, rfl⟩ := ho'
    obtain ⟨nx, v', w', μ', g1, g2, g3, g4⟩ := hok
    exact ⟨μ', v', w', g3, g4⟩
  | call f args =>
    rw [hop] at ho hok
    obtain ⟨args', g1, g2⟩ := hok
    rcases hf.ok f args h v h1 ho μ args' w c g2 with ⟨v', q1, q2, rfl, _⟩ | ⟨q1, q2⟩
    · exact ⟨μ, v', w, q2, .refl c.hr⟩
    · obtain ⟨z1, z2⟩ := q2 none
      obtain ⟨en, w', fr, ⟨v', μ', rfl, r2, r3⟩, rest⟩ := z2 [] (fun d hd => by simp [Fence.wide] at hd)
      exact ⟨μ', v', w', r2, r3⟩
  | round l args =>
    rw [hop] at ho hok
    obtain ⟨b, p, s, args', g0, g1, g2⟩ := hok
    obtain ⟨f, tmps, as, bd, q1, q2⟩ := hrd.ok l args h v h1 ho μ args' w b p s c g0 g2
    obtain ⟨z1, z2⟩ := q2 none
    obtain ⟨en, w', ⟨v', μ', rfl, r2, r3⟩, rest⟩ := z2 default [] (fun d hd => by simp [Fence.wide] at hd)
    exact ⟨μ', v', w', r2, r3⟩

/-- how low a change went is told otherwise -/
theorem Good.relow {μ μ' : Mu} {h h' : Hp} {w w' : World} (g : Good B μ ⟨h.n, h.t, h.n⟩ w μ' h' w') : Good B μ h w μ' ⟨h'.n, h'.t, cond (Nat.ble h.low h'.low) h.low h'.low⟩ w' := by
  have hlow : cond (Nat.ble h.low h'.low) h.low h'.low ≤ h.low ∧ cond (Nat.ble h.low h'.low) h.low h'.low ≤ h'.low := by
    cases e : Nat.ble h.low h'.low
    · have : ¬ h.low ≤ h'.low := fun hh => by rw [Nat.ble_eq_true_of_le hh] at e; cases e
      simp; omega
    · have : h.low ≤ h'.low := Nat.le_of_ble_eq_true e
      simp; omega
  have s := g.st
  exact ⟨g.hr, ⟨s.le, s.dom, s.n, hlow.1, fun k hk hl => s.kept k hk (Nat.lt_of_lt_of_le hl hlow.2), s.alive, s.os, s.tape, s.output, s.size, fun b hb hno => s.frame b hb fun k p q o e1 e2 e3 => (hno k p q o e1 e2 e3).imp id fun hh => Nat.lt_of_lt_of_le hh hlow.2, fun k b p q hk e => (s.fresh k b p q hk e).imp id fun ⟨k0, p0, s0, o0, h1, h2, h3, h4, h5⟩ => ⟨k0, p0, s0, o0, h1, h2, h3, h4, Nat.le_trans hlow.2 h5⟩⟩⟩
end
end Cx
end Go.Proofs.YtkljlbilhcdjhaaGreatDoor
namespace Go.Proofs.YtkljlbilhcdjhaaGreatDoor
namespace Cx
open Go

section
variable {P : Program} {G : GS} {B : Nat} {call : FuncId → List Value → Hp → CRes} {round : Nat → List Value → Hp → CRes} {ops : Array Oper}

/-- the kinds of an operation on the executor's way -/
inductive Kd (P : Program) (G : GS) (call : FuncId → List Value → Hp → CRes) (round : Nat → List Value → Hp → CRes) (ops : Array Oper) (y : Way) (i : Nat) (o : Oper) : Prop
  | none (hw : y.W i = false) (hv : y.V i = undef) (hh : y.H (i + 1) = y.H i) (ha : y.A (i + 1) = y.A i)
  | slot (hw : y.W i = true) (ht : touch G (y.E i) o.op = none) (hs : slotOp o.op = true) (hv : ∀ h2, opC P G (y.E i) h2 o = .value (y.V i) h2) (hh : y.H (i + 1) = ⟨(y.H i).n, (y.H i).t, cond (Nat.ble (y.H i).low (y.H i).n) (y.H i).low (y.H i).n⟩) (ha : y.A (i + 1) = y.A i)
  | new (ob : LObj) (hw : y.W i = true) (ht : touch G (y.E i) o.op = none) (hs : slotOp o.op = false) (hnw : isNew o.op = true) (hl : loadStore o.op = false) (hv : ∀ h2 : Hp, h2.n = (y.H i).n → opC P G (y.E i) h2 o = .value (y.V i) (h2.new ob)) (hh : y.H (i + 1) = ⟨(y.H i).n + 1, T.put ob (y.H i).t (y.H i).n, cond (Nat.ble (y.H i).low (y.H i).n) (y.H i).low (y.H i).n⟩) (ha : y.A (i + 1) = (i, .nw (y.H i).n) :: y.A i)
  | load (t : TypeId) (x : Operand) (k off : Nat) (hw : y.W i = true) (ht : touch G (y.E i) o.op = some (false, k)) (hd : opDone call round (y.H i) (opC P G (y.E i) (y.H i) o) = .ok (y.V i) (y.H (i + 1))) (ho : o.op = .load t x) (hx : ev G (y.E i) x = some (.pointer (some ⟨k, off, none⟩))) (hl : ldAt P (y.H i) t k off = some (y.V i)) (hh : y.H (i + 1) = y.H i) (hac : accOk ops i false k (y.A i) = true) (ha : y.A (i + 1) = (i, .ld k) :: y.A i)
  | store (t : TypeId) (x z : Operand) (k off : Nat) (u : Value) (us q : List Value) (hw : y.W i = true) (ht : touch G (y.E i) o.op = some (true, k)) (hd : opDone call round (y.H i) (opC P G (y.E i) (y.H i) o) = .ok (y.V i) (y.H (i + 1))) (ho : o.op = .store t x z) (hx : ev G (y.E i) x = some (.pointer (some ⟨k, off, none⟩))) (hz : ev G (y.E i) z = some u) (hsz : size P t = some u.cells.size) (hu : (y.H i).t.get k = some (.cells us)) (hone : u.cells.toList.all one = true) (hq : over us off u.cells.toList = some q)
      (hv : y.V i = undef) (hh : y.H (i + 1) = (y.H i).set k (.cells q)) (hac : accOk ops i true k (y.A i) = true) (hb : barrierS ops i = true) (ha : y.A (i + 1) = (i, .st k) :: y.A i)
  | other (h' : Hp) (hw : y.W i = true) (ht : touch G (y.E i) o.op = none) (hs : slotOp o.op = false) (hnw : isNew o.op = false) (hl : loadStore o.op = false) (hd : opDone call round ⟨(y.H i).n, (y.H i).t, (y.H i).n⟩ (opC P G (y.E i) ⟨(y.H i).n, (y.H i).t, (y.H i).n⟩ o) = .ok (y.V i) h')
      (hh : y.H (i + 1) = ⟨h'.n, h'.t, cond (Nat.ble (y.H i).low h'.low) (y.H i).low h'.low⟩) (hc : (y.H i).n ≤ h'.low ∨ (barrier ops i = true ∧ accB ops i (y.H i) h' (y.A i) = true)) (ha : y.A (i + 1) = (i, .ch (y.H i) (y.H (i + 1))) :: y.A i)

theorem touch_none {e : En} {op : Op} {st : Bool} {k : Nat} (h : touch G e op = some (st, k)) : loadStore op = true := by
  cases op <;> first | rfl | (simp [touch] at h)
theorem kind_of {y : Way} {i : Nat} {o : Oper} (s : StepT P G call round ops y i o) : Kd P G call round ops y i o := by
  cases hw : y.W i with
  | false => obtain ⟨h1, h2, h3⟩ := s.no hw; exact .none hw h1 h2 h3
  | true =>
    obtain ⟨h1, h2⟩ := s.yes hw
    cases ht : touch G (y.E i) o.op with
    | none =>
      rw [ht] at h1 h2
      have h1' : cond (loadStore o.op) CRes.fail (drawRest ops i (y.H i) (y.A i) (opDone call round ⟨(y.H i).n, (y.H i).t, (y.H i).n⟩ (opC P G (y.E i) ⟨(y.H i).n, (y.H i).t, (y.H i).n⟩ o))) = .ok (y.V i) (y.H (i + 1)) := h1
      cases hls : loadStore o.op with
      | true => rw [hls] at h1'; cases h1'
      | false =>
        rw [hls] at h1'
        simp only [cond_false] at h1'
        cases hd : opDone call round ⟨(y.H i).n, (y.H i).t, (y.H i).n⟩ (opC P G (y.E i) ⟨(y.H i).n, (y.H i).t, (y.H i).n⟩ o) with
        | fail => rw [hd] at h1'; cases h1'
        | panic v h' => rw [hd] at h1'; cases h1'
        | ok v h' =>
          rw [hd] at h1'
          have h3 : cond (Nat.ble (y.H i).n h'.low || (barrier ops i && accB ops i (y.H i) h' (y.A i))) (CRes.ok v ⟨h'.n, h'.t, cond (Nat.ble (y.H i).low h'.low) (y.H i).low h'.low⟩) .fail = .ok (y.V i) (y.H (i + 1)) := h1'
          cases hb : (Nat.ble (y.H i).n h'.low || (barrier ops i && accB ops i (y.H i) h' (y.A i))) with
          | false => rw [hb] at h3; cases h3
          | true =>
            rw [hb] at h3
            simp only [cond_true, CRes.ok.injEq] at h3
            obtain ⟨rfl, h4⟩ := h3
            simp only [Bool.or_eq_true, Nat.ble_eq, Bool.and_eq_true] at hb
            cases hs : slotOp o.op with
            | false =>
              rw [hs] at h2
              cases hnw : isNew o.op with
              | false => rw [hnw] at h2; exact .other h' hw ht hs hnw hls hd h4.symm hb h2
              | true =>
                rw [hnw] at h2
                rcases new_NU (P := P) (G := G) (e := y.E i) hnw (y.H i).n with hf | ⟨u, ob, hf⟩
                · have hf' : opC P G (y.E i) ⟨(y.H i).n, (y.H i).t, (y.H i).n⟩ o = .fail := hf _ rfl
                  rw [hf'] at hd; cases hd
                · have hf' : ∀ h2 : Hp, h2.n = (y.H i).n → opC P G (y.E i) h2 o = .value u (h2.new ob) := hf
                  rw [hf' ⟨(y.H i).n, (y.H i).t, (y.H i).n⟩ rfl] at hd
                  have hd' : CRes.ok u ((⟨(y.H i).n, (y.H i).t, (y.H i).n⟩ : Hp).new ob) = .ok (y.V i) h' := hd
                  simp only [CRes.ok.injEq] at hd'
                  obtain ⟨e1, e2⟩ := hd'
                  exact .new ob hw ht hs hnw hls (fun h2 hn => by rw [hf' h2 hn, e1]) (by rw [← h4, ← e2]; rfl) h2
            | true =>
              rw [hs] at h2
              rcases slot_HU (P := P) (G := G) (e := y.E i) hs with hf | ⟨u, hf⟩
              · have hf' : opC P G (y.E i) ⟨(y.H i).n, (y.H i).t, (y.H i).n⟩ o = .fail := hf _
                rw [hf'] at hd; cases hd
              · have hf' : ∀ h2, opC P G (y.E i) h2 o = .value u h2 := hf
                rw [hf'] at hd
                have hd' : CRes.ok u ⟨(y.H i).n, (y.H i).t, (y.H i).n⟩ = .ok (y.V i) h' := hd
                simp only [CRes.ok.injEq] at hd'
                obtain ⟨e1, e2⟩ := hd'
                exact .slot hw ht hs (fun h2 => by rw [hf', e1]) (by rw [← h4, ← e2]) h2
    | some sk =>
      obtain ⟨st, k⟩ := sk
      have hls := touch_none ht
      have htt := ht
      rw [ht] at h1 h2
      have h1' : cond (accOk ops i st k (y.A i) && (!st || barrierS ops i)) (opDone call round (y.H i) (opC P G (y.E i) (y.H i) o)) .fail = .ok (y.V i) (y.H (i + 1)) := h1
      cases hb : (accOk ops i st k (y.A i) && (!st || barrierS ops i)) with
      | false => rw [hb] at h1'; cases h1'
      | true =>
        rw [hb] at h1'
        simp only [cond_true] at h1'
        simp only [Bool.and_eq_true, Bool.or_eq_true] at hb
        obtain ⟨hb1, hb2⟩ := hb
        have hd0 := h1'
        cases hop : o.op with
        | load t x =>
          rw [hop] at htt
          have htt' : (match ev G (y.E i) x with | some (.pointer (some ⟨k, _, _⟩)) => some (false, k) | _ => none) = some (st, k) := htt
          have hoc : opC P G (y.E i) (y.H i) o = onlyV (match ev G (y.E i) x with | some p => Out.ofV (y.H i) (ld P (y.H i) t p) | none => .fail) := by unfold opC; rw [hop]; rfl
          rw [hoc] at h1'
          split at htt'
          · rename_i k' off sp hx
            simp only [Option.some.injEq, Prod.mk.injEq] at htt'
            obtain ⟨rfl, rfl⟩ := htt'
            rw [hx] at h1'
            cases sp with
            | some z => cases h1'
            | none =>
              have hld : ld P (y.H i) t (.pointer (some ⟨k', off, none⟩)) = ldAt P (y.H i) t k' off := rfl
              simp only [hld] at h1'
              cases hl : ldAt P (y.H i) t k' off with
              | none => rw [hl] at h1'; cases h1'
              | some v =>
                rw [hl] at h1'
                have h5 : CRes.ok v (y.H i) = .ok (y.V i) (y.H (i + 1)) := h1'
                simp only [CRes.ok.injEq] at h5
                exact .load t x k' off hw (by rw [ht]) hd0 hop hx (by rw [hl, h5.1]) h5.2.symm hb1 h2
          · cases htt'
        | store t x z =>
          rw [hop] at htt
          have htt' : (match ev G (y.E i) x with | some (.pointer (some ⟨k, _, _⟩)) => some (true, k) | _ => none) = some (st, k) := htt
          have hoc : opC P G (y.E i) (y.H i) o = onlyV (opStore P G (y.E i) (y.H i) t x z) := by unfold opC; rw [hop]; rfl
          rw [hoc] at h1'
          split at htt'
          · rename_i k' off sp hx
            simp only [Option.some.injEq, Prod.mk.injEq] at htt'
            obtain ⟨rfl, rfl⟩ := htt'
            have hb3 : barrierS ops i = true := by simpa using hb2
            unfold opStore at h1'
            rw [hx] at h1'
            cases hz : ev G (y.E i) z with
            | none => rw [hz] at h1'; cases sp <;> cases h1'
            | some u =>
              rw [hz] at h1'
              cases sp with
              | some q => cases h1'
              | none =>
                simp only at h1'
                cases hsz : size P t with
                | none => rw [hsz] at h1'; cases h1'
                | some n =>
                  rw [hsz] at h1'
                  simp only [beqN] at h1'
                  by_cases hn : u.cells.size = n
                  · simp only [hn, decide_true, cond_true] at h1'
                    cases hwr : (y.H i).wr k' off u.cells.toList with
                    | none => rw [hwr] at h1'; cases h1'
                    | some h3 =>
                      rw [hwr] at h1'
                      have h5 : CRes.ok undef h3 = .ok (y.V i) (y.H (i + 1)) := h1'
                      simp only [CRes.ok.injEq] at h5
                      unfold Hp.wr at hwr
                      split at hwr
                      · rename_i us hu
                        cases hall : u.cells.toList.all one with
                        | false => rw [hall] at hwr; cases hwr
                        | true =>
                          rw [hall] at hwr
                          simp only [cond_true] at hwr
                          split at hwr
                          · rename_i q hq
                            simp only [Option.some.injEq] at hwr
                            exact .store t x z k' off u us q hw (by rw [ht]) hd0 hop hx hz (by rw [hsz, hn]) hu hall hq h5.1.symm (by rw [← h5.2, ← hwr]) hb1 hb3 h2
                          · cases hwr
                      · cases hwr
                  · simp [hn] at h1'; cases h1'
          · cases htt'
        | _ => rw [hop] at hls; cases hls

theorem accB_same {i : Nat} {h h' : Hp} {low : Nat} {acc : List (Nat × AE)} (hc : accB ops i h h' acc = true) : accB ops i h ⟨h'.n, h'.t, low⟩ acc = true := by
  rw [← hc]
  unfold accB
  congr 1
/-- what an operation changes -/
def Wr (G : GS) (ops : Array Oper) (y : Way) (i k : Nat) : Prop := ∃ o, ops[i]? = some o ∧ y.W i = true ∧ (touch G (y.E i) o.op = some (true, k) ∨ touch G (y.E i) o.op = none ∧ slotOp o.op = false ∧ isNew o.op = false ∧ barrier ops i = true ∧ accB ops i (y.H i) (y.H (i + 1)) (y.A i) = true ∧ k < (y.H i).n ∧ (y.H (i + 1)).t.get k ≠ (y.H i).t.get k)
def Ds (ops : Array Oper) (i t : Nat) : Prop := ∃ o, ops[i]? = some o ∧ o.dst = some t

/-- one step of the executor's own order -/
theorem step_ref (hf : SF P G B call) (hrd : SR P G B round) {y : Way} {i : Nat} {o : Oper} (ho : ops[i]? = some o) (s : StepT P G call round ops y i o) {μ : Mu} {a : Act} {w : World} (c : Cond G B μ (y.H i) w) (he : AR μ (y.E i) a) :
    (∃ μ1 v' w1, VR μ1 (y.V i) v' ∧ Good B μ (y.H i) w μ1 (y.H (i + 1)) w1) ∧ (∀ k, k < (y.H i).n → ¬ Wr G ops y i k → (y.H (i + 1)).t.get k = (y.H i).t.get k) := by
  cases kind_of s with
  | none hw hv hh ha => rw [hv, hh]; exact ⟨⟨μ, undef, w, undef_refl μ, .refl c.hr⟩, fun _ _ _ => rfl⟩
  | slot hw ht hs hv hh ha =>
    obtain ⟨μ1, v', w1, g1, g2⟩ := op_exists (o := o) (h := ⟨(y.H i).n, (y.H i).t, (y.H i).n⟩) hf hrd ⟨c.hr, c.gr, c.hB⟩ he (by rw [hv]; rfl)
    refine ⟨⟨μ1, v', w1, g1, ?_⟩, fun k _ _ => by rw [hh]⟩
    rw [hh]
    exact g2.relow
  | new ob hw ht hs hnw hl hv hh ha =>
    obtain ⟨μ1, v', w1, g1, g2⟩ := op_exists (o := o) (h := ⟨(y.H i).n, (y.H i).t, (y.H i).n⟩) (h1 := (⟨(y.H i).n, (y.H i).t, (y.H i).n⟩ : Hp).new ob) (v := y.V i) hf hrd ⟨c.hr, c.gr, c.hB⟩ he (by rw [hv ⟨(y.H i).n, (y.H i).t, (y.H i).n⟩ rfl]; rfl)
    refine ⟨⟨μ1, v', w1, g1, ?_⟩, fun k hk _ => ?_⟩
    · rw [hh]
      exact g2.relow
    · rw [hh]
      show (T.put ob (y.H i).t (y.H i).n).get k = _
      rw [T.get_put]
      have : ¬ k = (y.H i).n := by omega
      simp [this]
  | load t x k off hw ht hd hop hx hl hh hac ha =>
    obtain ⟨μ1, v', w1, g1, g2⟩ := op_exists (o := o) hf hrd c he hd
    exact ⟨⟨μ1, v', w1, g1, g2⟩, fun k _ _ => by rw [hh]⟩
  | store t x z k off u us q hw ht hd hop hx hz hsz hu hone hq hv hh hac hb ha =>
    obtain ⟨μ1, v', w1, g1, g2⟩ := op_exists (o := o) hf hrd c he hd
    refine ⟨⟨μ1, v', w1, g1, g2⟩, fun k' _ hnw => ?_⟩
    rw [hh, set_get]
    have : ¬ k' = k := fun e => hnw ⟨o, ho, hw, .inl (by rw [ht, e])⟩
    simp [this]
  | other h' hw ht hs hnw hl hd hh hc ha =>
    obtain ⟨μ1, v', w1, g1, g2⟩ := op_exists (o := o) (h := ⟨(y.H i).n, (y.H i).t, (y.H i).n⟩) hf hrd ⟨c.hr, c.gr, c.hB⟩ he hd
    refine ⟨⟨μ1, v', w1, g1, by rw [hh]; exact g2.relow⟩, fun k hk hnW => ?_⟩
    rcases hc with hc | ⟨hc1, hc2⟩
    · rw [hh]; exact g2.st.kept k hk (Nat.lt_of_lt_of_le hk hc)
    · exact Classical.byContradiction fun hne => hnW ⟨o, ho, hw, .inr ⟨ht, hs, hnw, hc1, by rw [hh]; exact accB_same hc2, hk, hne⟩⟩

/-- what is known of the executor's way by itself -/
structure Loc (G : GS) (ops : Array Oper) (y : Way) : Prop where
  n : ∀ i, i < ops.size → (y.H i).n ≤ (y.H (i + 1)).n
  same : ∀ i k, i < ops.size → k < (y.H i).n → ¬ Wr G ops y i k → (y.H (i + 1)).t.get k = (y.H i).t.get k
  keptE : ∀ i t, i < ops.size → ¬ Ds ops i t → (y.E (i + 1)).t.get t = (y.E i).t.get t
  putE : ∀ i t, i < ops.size → Ds ops i t → (y.E (i + 1)).t.get t = some (y.V i)
  sz : ∀ i, i < ops.size → (y.E (i + 1)).sz = (y.E i).sz
  mks : ∀ i, i < ops.size → (y.E (i + 1)).mks = (y.E i).mks
  dlt : ∀ i t, i < ops.size → Ds ops i t → t < (y.E i).sz
  low : ∀ i, i < ops.size → (y.H (i + 1)).low ≤ (y.H i).low
  alive : ∀ i k o, i < ops.size → k < (y.H i).n → (y.H (i + 1)).t.get k = some o → o.live = true → ∃ o0, (y.H i).t.get k = some o0 ∧ o0.live = true ∧ o0.isRo = o.isRo
theorem putD_spec {e e' : En} {d : Option Tmp} {v : Value} (h : putD e d v = some e') : e'.sz = e.sz ∧ e'.mks = e.mks ∧ (∀ t, d ≠ some t → e'.t.get t = e.t.get t) ∧ (∀ t, d = some t → e'.t.get t = some v ∧ t < e.sz) := by
  unfold putD at h
  split at h
  · rename_i d
    cases hb : Nat.blt d e.sz with
    | false => rw [hb] at h; cases h
    | true =>
      rw [hb] at h
      simp only [cond_true, Option.some.injEq] at h
      subst h
      refine ⟨rfl, rfl, fun t ht => ?_, fun t ht => ?_⟩
      · have : ¬ t = d := fun e => ht (by rw [e])
        simp only
        rw [T.get_put]; simp [this]
      · simp only [Option.some.injEq] at ht
        subst ht
        exact ⟨by simp only; rw [T.get_put]; simp, blt_iff.1 hb⟩
  · simp only [Option.some.injEq] at h
    subst h
    exact ⟨rfl, rfl, fun _ _ => rfl, fun t ht => by cases ht⟩
/-- the operations once in their own order -/
theorem loc_of (hf : SF P G B call) (hrd : SR P G B round) {y : Way} (hst : ∀ i o, ops[i]? = some o → StepT P G call round ops y i o) {μ : Mu} {a : Act} {w : World} (c : Cond G B μ (y.H 0) w) (he : AR μ (y.E 0) a) :
    Loc G ops y ∧ ∃ μ' w', Good B μ (y.H 0) w μ' (y.H ops.size) w' := by
  have href : ∀ i, i ≤ ops.size → ∃ μ1 a1 w1, Cond G B μ1 (y.H i) w1 ∧ AR μ1 (y.E i) a1 ∧ Good B μ (y.H 0) w μ1 (y.H i) w1 := by
    intro i
    induction i with
    | zero => intro _; exact ⟨μ, a, w, c, he, .refl c.hr⟩
    | succ i ih =>
      intro hi
      obtain ⟨μ1, a1, w1, c1, he1, g1⟩ := ih (by omega)
      have ho : ops[i]? = some ops[i] := Array.getElem?_eq_getElem (by omega)
      have s := hst i _ ho
      obtain ⟨⟨μ2, v', w2, q1, q2⟩, _⟩ := step_ref hf hrd ho s c1 he1
      exact ⟨μ2, _, w2, c1.next q2, putD_ok (he1.mono q2.st.le) q1 s.put, Good.trans c.hr g1 q2⟩
  refine ⟨⟨?_, ?_, ?_, ?_, ?_, ?_, ?_, ?_, ?_⟩, ?_⟩
  · intro i hi
    obtain ⟨μ1, a1, w1, c1, he1, g1⟩ := href i (by omega)
    have ho : ops[i]? = some ops[i] := Array.getElem?_eq_getElem hi
    obtain ⟨⟨μ2, v', w2, q1, q2⟩, _⟩ := step_ref hf hrd ho (hst i _ ho) c1 he1
    exact q2.st.n
  · intro i k hi hk hnw
    obtain ⟨μ1, a1, w1, c1, he1, g1⟩ := href i (by omega)
    have ho : ops[i]? = some ops[i] := Array.getElem?_eq_getElem hi
    exact (step_ref hf hrd ho (hst i _ ho) c1 he1).2 k hk hnw
  · intro i t hi hnd
    have ho : ops[i]? = some ops[i] := Array.getElem?_eq_getElem hi
    exact (putD_spec (hst i _ ho).put).2.2.1 t fun e => hnd ⟨_, ho, e⟩
  · rintro i t hi ⟨o, ho, hd⟩
    exact ((putD_spec (hst i o ho).put).2.2.2 t hd).1
  · intro i hi
    have ho : ops[i]? = some ops[i] := Array.getElem?_eq_getElem hi
    exact (putD_spec (hst i _ ho).put).1
  · intro i hi
    have ho : ops[i]? = some ops[i] := Array.getElem?_eq_getElem hi
    exact (putD_spec (hst i _ ho).put).2.1
  · rintro i t hi ⟨o, ho, hd⟩
    exact ((putD_spec (hst i o ho).put).2.2.2 t hd).2
  · intro i hi
    obtain ⟨μ1, a1, w1, c1, he1, g1⟩ := href i (by omega)
    have ho : ops[i]? = some ops[i] := Array.getElem?_eq_getElem hi
    obtain ⟨⟨μ2, v', w2, q1, q2⟩, _⟩ := step_ref hf hrd ho (hst i _ ho) c1 he1
    exact q2.st.low
  · intro i k o hi hk hq hl
    obtain ⟨μ1, a1, w1, c1, he1, g1⟩ := href i (by omega)
    have ho : ops[i]? = some ops[i] := Array.getElem?_eq_getElem hi
    obtain ⟨⟨μ2, v', w2, q1, q2⟩, _⟩ := step_ref hf hrd ho (hst i _ ho) c1 he1
    exact q2.st.alive k o hk hq hl
  · obtain ⟨μ1, a1, w1, c1, he1, g1⟩ := href ops.size (Nat.le_refl _)
    exact ⟨μ1, w1, g1⟩
end
end Cx
end Go.Proofs.YtkljlbilhcdjhaaGreatDoor
namespace Go.Proofs.YtkljlbilhcdjhaaGreatDoor
namespace Cx
open Go

def cutM (μ : Mu) (n : Nat) : Mu := fun k => if k < n then μ k else none
theorem cutM_some {μ : Mu} {n k : Nat} {x : Nat × Nat × Nat} : cutM μ n k = some x ↔ k < n ∧ μ k = some x := by
  unfold cutM
  by_cases h : k < n <;> simp [h]
theorem cutM_le (μ : Mu) (n : Nat) : Mu.le (cutM μ n) μ := fun _ _ h => (cutM_some.1 h).2
theorem cutM_mono {μ μ' : Mu} {n m : Nat} (h : n ≤ m) (hm : ∀ k x, k < n → μ k = some x → μ' k = some x) : Mu.le (cutM μ n) (cutM μ' m) := fun k x e => by
  obtain ⟨h1, h2⟩ := cutM_some.1 e
  exact cutM_some.2 ⟨by omega, hm k x h1 h2⟩

def AgS (ops : Array Oper) (D : Nat → Prop) (j t : Nat) : Prop := ∀ i, i < ops.size → Ds ops i t → (D i ↔ i < j)
def AgK (G : GS) (ops : Array Oper) (y : Way) (D : Nat → Prop) (m k : Nat) : Prop := ∀ i, i < ops.size → Wr G ops y i k → (D i ↔ i < m)

structure Inv (B : Nat) (G : GS) (ops : Array Oper) (y : Way) (μ0 : Mu) (w0 : World) (a0 : Act) (D : Nat → Prop) (μ : Mu) (a : Act) (w : World) : Prop where
  slot : ∀ t v j, j ≤ ops.size → (y.E j).t.get t = some v → AgS ops D j t → ∃ v', a.tmps[t]? = some v' ∧ VR (cutM μ (y.H j).n) v v'
  size : a.tmps.size = (y.E 0).sz
  defers : a.defers = a0.defers
  lt : ∀ k b p s, μ k = some (b, p, s) → b < w.heap.size ∧ (k < (y.H 0).n ∨ ∃ i, i < ops.size ∧ D i ∧ (y.H i).n ≤ k ∧ k < (y.H (i + 1)).n)
  base : ∀ k, k < (y.H 0).n → μ k = μ0 k
  obj : ∀ k b p s m o, m ≤ ops.size → μ k = some (b, p, s) → k < (y.H m).n → AgK G ops y D m k → (y.H m).t.get k = some o → OR (cutM μ (y.H m).n) w b p s o
  inj : ∀ k k' b p s p' s' m m' o o', m ≤ ops.size → m' ≤ ops.size → μ k = some (b, p, s) → μ k' = some (b, p', s') → k < (y.H m).n → k' < (y.H m').n → AgK G ops y D m k → AgK G ops y D m' k' → (y.H m).t.get k = some o → (y.H m').t.get k' = some o' → o.live = true → o'.live = true → k = k'
  own : ∀ k b p s m o, m ≤ ops.size → μ k = some (b, p, s) → k < (y.H m).n → AgK G ops y D m k → (y.H m).t.get k = some o → o.live = true → o.isRo = true ∨ B ≤ b
  touched : ∀ i o k st, ops[i]? = some o → D i → y.W i = true → touch G (y.E i) o.op = some (st, k) → ∃ x, μ k = some x
  os : w.os = w0.os
  tape : w.tape = w0.tape
  output : w.output = w0.output
  wsize : w0.heap.size ≤ w.heap.size
  frame : ∀ b, b < w0.heap.size → (∀ k p s o, μ0 k = some (b, p, s) → (y.H 0).t.get k = some o → o.live = true → o.isRo = true ∨ k < (y.H ops.size).low) → w.heap[b]? = w0.heap[b]?
  fresh : ∀ k b p s, (y.H 0).n ≤ k → μ k = some (b, p, s) → w0.heap.size ≤ b ∨ ∃ k0 p0 s0 o0, μ0 k0 = some (b, p0, s0) ∧ (y.H 0).t.get k0 = some o0 ∧ o0.live = true ∧ o0.isRo = false ∧ (y.H ops.size).low ≤ k0

section
variable {B : Nat} {G : GS} {ops : Array Oper} {y : Way} {μ0 : Mu} {w0 : World} {a0 : Act} {D : Nat → Prop} {μ : Mu} {a : Act} {w : World}

theorem Loc.mono (l : Loc G ops y) : ∀ {i j : Nat}, i ≤ j → j ≤ ops.size → (y.H i).n ≤ (y.H j).n := by
  intro i j hij
  induction j with
  | zero => intro _; have : i = 0 := by omega
            subst this; exact Nat.le_refl _
  | succ j ih =>
    intro hj
    by_cases h : i = j + 1
    · subst h; exact Nat.le_refl _
    · exact Nat.le_trans (ih (by omega) (by omega)) (l.n j (by omega))
theorem Loc.content (l : Loc G ops y) {k : Nat} : ∀ {m m' : Nat}, m ≤ m' → m' ≤ ops.size → k < (y.H m).n → (∀ i, m ≤ i → i < m' → ¬ Wr G ops y i k) → (y.H m').t.get k = (y.H m).t.get k := by
  intro m m' hmm
  induction m' with
  | zero => intro _ _ _; have : m = 0 := by omega
            subst this; rfl
  | succ j ih =>
    intro hj hk hno
    by_cases h : m = j + 1
    · subst h; rfl
    · have hkj : k < (y.H j).n := Nat.lt_of_lt_of_le hk (l.mono (by omega) (by omega))
      rw [l.same j k (by omega) hkj (hno j (by omega) (by omega))]
      exact ih (by omega) (by omega) hk fun i h1 h2 => hno i h1 (by omega)
theorem Loc.slots (l : Loc G ops y) {t : Nat} : ∀ {m m' : Nat}, m ≤ m' → m' ≤ ops.size → (∀ i, m ≤ i → i < m' → ¬ Ds ops i t) → (y.E m').t.get t = (y.E m).t.get t := by
  intro m m' hmm
  induction m' with
  | zero => intro _ _; have : m = 0 := by omega
            subst this; rfl
  | succ j ih =>
    intro hj hno
    by_cases h : m = j + 1
    · subst h; rfl
    · rw [l.keptE j t (by omega) (hno j (by omega) (by omega))]
      exact ih (by omega) (by omega) fun i h1 h2 => hno i h1 (by omega)
theorem Loc.consts (l : Loc G ops y) : ∀ {i : Nat}, i ≤ ops.size → (y.E i).sz = (y.E 0).sz ∧ (y.E i).mks = (y.E 0).mks := by
  intro i
  induction i with
  | zero => intro _; exact ⟨rfl, rfl⟩
  | succ i ih => intro hi; obtain ⟨h1, h2⟩ := ih (by omega); exact ⟨(l.sz i (by omega)).trans h1, (l.mks i (by omega)).trans h2⟩
/-- two times that agree with what is done show the same -/
theorem Loc.agree (l : Loc G ops y) {m m' k : Nat} (hm : m ≤ ops.size) (hm' : m' ≤ ops.size) (hk : k < (y.H m).n) (hk' : k < (y.H m').n) (h1 : AgK G ops y D m k) (h2 : AgK G ops y D m' k) : (y.H m').t.get k = (y.H m).t.get k := by
  rcases Nat.le_total m m' with h | h
  · refine l.content h hm' hk fun i q1 q2 hw => ?_
    have := (h1 i (by omega) hw).1 ((h2 i (by omega) hw).2 q2)
    omega
  · refine (l.content h hm hk' fun i q1 q2 hw => ?_).symm
    have := (h2 i (by omega) hw).1 ((h1 i (by omega) hw).2 q2)
    omega

/-- done too -/
def Dn (D : Nat → Prop) (i : Nat) : Nat → Prop := fun j => D j ∨ j = i
theorem AgK.back {i m k : Nat} (h : AgK G ops y (Dn D i) m k) (hw : ¬ Wr G ops y i k) : AgK G ops y D m k := fun j hj hwj => by
  have hne : j ≠ i := fun e => hw (e ▸ hwj)
  have := h j hj hwj
  unfold Dn at this
  constructor
  · intro hd; exact this.1 (.inl hd)
  · intro hlt; exact (this.2 hlt).resolve_right hne

theorem slot_next (l : Loc G ops y) (inv : Inv B G ops y μ0 w0 a0 D μ a w) {i : Nat} {o : Oper} (ho : ops[i]? = some o) {μ' : Mu} {v' : Value} (hds : ∀ i2 t, i2 < ops.size → D i2 → Ds ops i2 t → Ds ops i t → i2 < i)
    (hm : ∀ k x, μ k = some x → μ' k = some x) (hv : VR (cutM μ' (y.H (i + 1)).n) (y.V i) v') :
    ∀ t v j, j ≤ ops.size → (y.E j).t.get t = some v → AgS ops (Dn D i) j t → ∃ v'', (a.put o.dst v').tmps[t]? = some v'' ∧ VR (cutM μ' (y.H j).n) v v'' := by
  intro t v j hj hv' hag
  have hi : i < ops.size := (Array.getElem?_eq_some_iff.1 ho).1
  by_cases hd : o.dst = some t
  · have hDs : Ds ops i t := ⟨o, ho, hd⟩
    have hij : i < j := (hag i hi hDs).1 (.inr rfl)
    have heq : (y.E j).t.get t = (y.E (i + 1)).t.get t := l.slots (by omega) hj fun i2 q1 q2 hd2 => by
      have := (hag i2 (by omega) hd2).2 q2
      rcases this with h3 | h3
      · have := hds i2 t (by omega) h3 hd2 hDs; omega
      · omega
    rw [heq, l.putE i t hi hDs] at hv'
    simp only [Option.some.injEq] at hv'
    subst hv'
    have hlt : t < a.tmps.size := by
      rw [inv.size, ← (l.consts (i := i) (by omega)).1]
      exact l.dlt i t hi hDs
    refine ⟨v', by rw [hd]; simp [Act.put, hlt], hv.mono (cutM_mono (l.mono (by omega) hj) fun _ _ _ h => h)⟩
  · have hag' : AgS ops D j t := fun i2 h2 hd2 => by
      have hne : i2 ≠ i := fun e => by
        subst e
        obtain ⟨o2, ho2, hd3⟩ := hd2
        rw [ho] at ho2; simp only [Option.some.injEq] at ho2; subst ho2
        exact hd hd3
      have := hag i2 h2 hd2
      unfold Dn at this
      constructor
      · intro q; exact this.1 (.inl q)
      · intro q; exact (this.2 q).resolve_right hne
    obtain ⟨u, h1, h2⟩ := inv.slot t v j hj hv' hag'
    refine ⟨u, ?_, h2.mono (cutM_mono (Nat.le_refl _) fun k x _ h => hm k x h)⟩
    cases hdst : o.dst with
    | none => exact h1
    | some d =>
      have : d ≠ t := fun e => hd (by rw [hdst, e])
      simp [Act.put, Array.getElem?_setIfInBounds_ne this, h1]

/-- the places behind an operation: new ones of its own -/
def nextM (y : Way) (i : Nat) (μ μ1 : Mu) : Mu := fun k => if (y.H i).n ≤ k ∧ k < (y.H (i + 1)).n then μ1 k else μ k
theorem put_size (a : Act) (d : Option Tmp) (v : Value) : (a.put d v).tmps.size = a.tmps.size ∧ (a.put d v).defers = a.defers := by
  cases d <;> simp [Act.put]

/-- an operation that changes nothing that was there -/
theorem inv_clean (l : Loc G ops y) (inv : Inv B G ops y μ0 w0 a0 D μ a w) {i : Nat} {o : Oper} (ho : ops[i]? = some o) (hnD : ¬ D i) {μ1 : Mu} {v' : Value} {w1 : World}
    (hds : ∀ i2 t, i2 < ops.size → D i2 → Ds ops i2 t → Ds ops i t → i2 < i) (hwr : ∀ k, ¬ Wr G ops y i k) (hnw : ∀ i2 k, i2 < ops.size → i < i2 → D i2 → Wr G ops y i2 k → (y.H i).n ≤ k → k < (y.H (i + 1)).n → False)
    (hdom : ∀ k, k < (y.H i).n → μ1 k = cutM μ (y.H i).n k) (hnew : ∀ k b p s, (y.H i).n ≤ k → μ1 k = some (b, p, s) → k < (y.H (i + 1)).n ∧ w.heap.size ≤ b ∧ b < w1.heap.size)
    (hsame : ∀ b, b < w.heap.size → w1.heap[b]? = w.heap[b]?) (hos : w1.os = w.os) (htp : w1.tape = w.tape) (hout : w1.output = w.output) (hsz : w.heap.size ≤ w1.heap.size)
    (hobj : ∀ k b p s q, (y.H i).n ≤ k → μ1 k = some (b, p, s) → (y.H (i + 1)).t.get k = some q → OR μ1 w1 b p s q ∧ (q.live = true → q.isRo = true ∨ B ≤ b))
    (hinj : ∀ k k' b p s p' s' q q', (y.H i).n ≤ k → (y.H i).n ≤ k' → μ1 k = some (b, p, s) → μ1 k' = some (b, p', s') → (y.H (i + 1)).t.get k = some q → (y.H (i + 1)).t.get k' = some q' → q.live = true → q'.live = true → k = k')
    (htc : ∀ k st, y.W i = true → touch G (y.E i) o.op = some (st, k) → ∃ x, μ k = some x) (hv : VR μ1 (y.V i) v') :
    Inv B G ops y μ0 w0 a0 (Dn D i) (nextM y i μ μ1) (a.put o.dst v') w1 := by
  have hi : i < ops.size := (Array.getElem?_eq_some_iff.1 ho).1
  have hn := l.n i hi
  have hN : ∀ k x, μ k = some x → ¬ ((y.H i).n ≤ k ∧ k < (y.H (i + 1)).n) := by
    rintro k ⟨b, p, s⟩ e ⟨h1, h2⟩
    rcases (inv.lt k b p s e).2 with h3 | ⟨j, hj, hD, h4, h5⟩
    · have := l.mono (Nat.zero_le i) (by omega : i ≤ ops.size); omega
    · have hne : j ≠ i := fun e => hnD (e ▸ hD)
      rcases Nat.lt_or_gt_of_ne hne with h6 | h6
      · have := l.mono (by omega : j + 1 ≤ i) (by omega); omega
      · have := l.mono (by omega : i + 1 ≤ j) (by omega); omega
  have hup : ∀ k x, μ k = some x → nextM y i μ μ1 k = some x := fun k x e => by
    unfold nextM; rw [if_neg (hN k x e)]; exact e
  have hsplit : ∀ k x, nextM y i μ μ1 k = some x → ((y.H i).n ≤ k ∧ k < (y.H (i + 1)).n ∧ μ1 k = some x) ∨ μ k = some x := fun k x e => by
    unfold nextM at e
    by_cases h : (y.H i).n ≤ k ∧ k < (y.H (i + 1)).n
    · rw [if_pos h] at e; exact .inl ⟨h.1, h.2, e⟩
    · rw [if_neg h] at e; exact .inr e
  have hcut1 : Mu.le μ1 (cutM (nextM y i μ μ1) (y.H (i + 1)).n) := fun k x e => by
    by_cases hk : k < (y.H i).n
    · rw [hdom k hk] at e
      exact cutM_some.2 ⟨by omega, hup k x (cutM_some.1 e).2⟩
    · obtain ⟨b, p, s⟩ := x
      have h1 := (hnew k b p s (by omega) e).1
      refine cutM_some.2 ⟨h1, ?_⟩
      unfold nextM; rw [if_pos ⟨by omega, h1⟩]; exact e
  -- a new block as the times see it that agree
  have hnewC : ∀ k m q, (y.H i).n ≤ k → k < (y.H (i + 1)).n → m ≤ ops.size → k < (y.H m).n → AgK G ops y (Dn D i) m k → (y.H m).t.get k = some q → i + 1 ≤ m ∧ (y.H (i + 1)).t.get k = some q := by
    intro k m q h1 h2 hm hkm hag hq
    have him : i + 1 ≤ m := by
      rcases Nat.lt_or_ge i m with h | h
      · exact h
      · have := l.mono h (by omega : i ≤ ops.size); omega
    refine ⟨him, ?_⟩
    rw [← hq]
    refine (l.content him hm h2 fun i2 q1 q2 hw2 => ?_).symm
    rcases (hag i2 (by omega) hw2).2 q2 with h3 | h3
    · exact hnw i2 k (by omega) (by omega) h3 hw2 h1 h2
    · omega
  refine ⟨slot_next l inv ho hds hup (hv.mono hcut1), (put_size a _ _).1.trans inv.size, (put_size a _ _).2.trans inv.defers, ?_, ?_, ?_, ?_, ?_, ?_, hos.trans inv.os, htp.trans inv.tape, hout.trans inv.output, Nat.le_trans inv.wsize hsz, ?_, ?_⟩
  · intro k b p s e
    rcases hsplit k _ e with ⟨h1, h2, h3⟩ | h3
    · exact ⟨(hnew k b p s h1 h3).2.2, .inr ⟨i, hi, .inr rfl, h1, h2⟩⟩
    · obtain ⟨q1, q2⟩ := inv.lt k b p s h3
      exact ⟨by omega, q2.imp id fun ⟨j, r1, r2, r3⟩ => ⟨j, r1, .inl r2, r3⟩⟩
  · intro k hk
    rw [← inv.base k hk]
    unfold nextM
    have := l.mono (Nat.zero_le i) (by omega : i ≤ ops.size)
    rw [if_neg (by omega)]
  · intro k b p s m q hm e hkm hag hq
    rcases hsplit k _ e with ⟨h1, h2, h3⟩ | h3
    · obtain ⟨him, hq'⟩ := hnewC k m q h1 h2 hm hkm hag hq
      exact ((hobj k b p s q h1 h3 hq').1).mono (Mu.le_trans hcut1 (cutM_mono (l.mono him hm) fun _ _ _ h => h))
    · have := inv.obj k b p s m q hm h3 hkm (hag.back (hwr k)) hq
      exact (this.mono (cutM_mono (Nat.le_refl _) fun k x _ h => hup k x h)).same (hsame b (inv.lt k b p s h3).1)
  · intro k k' b p s p' s' m m' q q' hm hm' e e' hkm hkm' hag hag' hq hq' hl hl'
    rcases hsplit k _ e with ⟨h1, h2, h3⟩ | h3
    · obtain ⟨him, hq1⟩ := hnewC k m q h1 h2 hm hkm hag hq
      rcases hsplit k' _ e' with ⟨h1', h2', h3'⟩ | h3'
      · obtain ⟨him', hq1'⟩ := hnewC k' m' q' h1' h2' hm' hkm' hag' hq'
        exact hinj k k' b p s p' s' q q' h1 h1' h3 h3' hq1 hq1' hl hl'
      · have := (hnew k b p s h1 h3).2.1; have := (inv.lt k' b p' s' h3').1; omega
    · rcases hsplit k' _ e' with ⟨h1', h2', h3'⟩ | h3'
      · have := (hnew k' b p' s' h1' h3').2.1; have := (inv.lt k b p s h3).1; omega
      · exact inv.inj k k' b p s p' s' m m' q q' hm hm' h3 h3' hkm hkm' (hag.back (hwr k)) (hag'.back (hwr k')) hq hq' hl hl'
  · intro k b p s m q hm e hkm hag hq hl
    rcases hsplit k _ e with ⟨h1, h2, h3⟩ | h3
    · obtain ⟨him, hq1⟩ := hnewC k m q h1 h2 hm hkm hag hq
      exact (hobj k b p s q h1 h3 hq1).2 hl
    · exact inv.own k b p s m q hm h3 hkm (hag.back (hwr k)) hq hl
  · intro j oj k st hj hd hwj ht
    rcases hd with hd | rfl
    · obtain ⟨x, hx⟩ := inv.touched j oj k st hj hd hwj ht
      exact ⟨x, hup k x hx⟩
    · rw [ho] at hj; simp only [Option.some.injEq] at hj; subst hj
      obtain ⟨x, hx⟩ := htc k st hwj ht
      exact ⟨x, hup k x hx⟩
  · intro b hb hno
    rw [hsame b (by have := inv.wsize; omega)]
    exact inv.frame b hb hno
  · intro k b p s hk e
    rcases hsplit k _ e with ⟨h1, h2, h3⟩ | h3
    · exact .inl (by have := (hnew k b p s h1 h3).2.1; have := inv.wsize; omega)
    · exact inv.fresh k b p s hk h3
end
end Cx
end Go.Proofs.YtkljlbilhcdjhaaGreatDoor
