/- Closed runs: a region that draws its order: what an operation looks at; the executor's way through it. -/
import Derived.Test.YtfigbldiffjmbaaGreatDoorCxr
namespace Go.Proofs.YtfigbldiffjmbaaGreatDoor
namespace Cx
open Go

section
variable {P : Program} {G B : Nat}

/-- an environment cut down to some temporaries -/
noncomputable def restrict (l : List Nat) (t : T Value) : T Value := l.foldr (fun k acc => match t.get k with | some v => T.put v acc k | none => acc) .nil
theorem restrict_get (t : T Value) : ∀ (l : List Nat) (k : Nat), (restrict l t).get k = if k ∈ l then t.get k else none
  | [], k => by simp [restrict, T.get_nil]
  | j :: l, k => by
    have hd : restrict (j :: l) t = (match t.get j with | some v => T.put v (restrict l t) j | none => restrict l t) := rfl
    rw [hd]
    cases hj : t.get j with
    | none =>
      rw [restrict_get t l k]
      by_cases hk : k = j
      · subst hk; simp [hj]
      · simp [hk]
    | some v =>
      simp only
      rw [T.get_put, restrict_get t l k]
      by_cases hk : k = j
      · subst hk; simp [hj]
      · simp [hk]

theorem ev_congr {e e2 : En} {x : Operand} (hx : ∀ t, x = .tmp t → e2.t.get t = e.t.get t) : ev G e2 x = ev G e x := by
  cases x with
  | tmp t => exact hx t rfl
  | _ => rfl
theorem evs_congr {e e2 : En} : ∀ {l : List Operand}, (∀ x ∈ l, ev G e2 x = ev G e x) → evs G e2 l = evs G e l
  | [], _ => rfl
  | x :: l, hx => by rw [evs_cons, evs_cons, hx x (by simp), evs_congr fun y hy => hx y (by simp [hy])]
theorem evp_congr {e e2 : En} : ∀ {l : List (Nat × Operand)}, (∀ x ∈ l, ev G e2 x.2 = ev G e x.2) → evp G e2 l = evp G e l
  | [], _ => rfl
  | x :: l, hx => by rw [evp_cons, evp_cons, hx x (by simp), evp_congr fun y hy => hx y (by simp [hy])]
theorem bound_congr {e e2 : En} {d : Nat} {x : Option Operand} (hx : ∀ y, x = some y → ev G e2 y = ev G e y) : bound G e2 d x = bound G e d x := by
  cases x with
  | none => rfl
  | some y => simp only [bound, hx y rfl]
theorem opC_congr {e e2 : En} {h : Hp} {o : Oper} (hx : ∀ x ∈ o.op.operands, ev G e2 x = ev G e x) : opC P G e2 h o = opC P G e h o := by
  obtain ⟨dst, op, type, pos, after, guard⟩ := o
  have hops : ∀ q, op = q → (∀ x ∈ q.operands, ev G e2 x = ev G e x) := fun q hq => hq ▸ hx
  cases op with
  | move x => simp only [Op.operands] at hx; simp only [opC, opS, hx x (by simp)]
  | assign x => simp only [Op.operands] at hx; simp only [opC, opS, hx x (by simp)]
  | pick c x y => simp only [Op.operands] at hx; simp only [opC, opS, opPick, hx c (by simp), hx x (by simp), hx y (by simp)]
  | alloc t => rfl
  | box t x => simp only [Op.operands] at hx; simp only [opC, opS, opBox, hx x (by simp)]
  | build t ps =>
    have : evp G e2 ps.toList = evp G e ps.toList := evp_congr fun x hm => hx x.2 (by simp only [Op.operands]; simp; exact ⟨x.1, by simpa using hm⟩)
    simp only [opC, opS, opBuild, this]
  | buildSlice t n ps =>
    have : evp G e2 ps.toList = evp G e ps.toList := evp_congr fun x hm => hx x.2 (by simp only [Op.operands]; simp; exact ⟨x.1, by simpa using hm⟩)
    simp only [opC, opS, opBuildSlice, this]
  | load t x => simp only [Op.operands] at hx; simp only [opC, opS, hx x (by simp)]
  | store t x y => simp only [Op.operands] at hx; simp only [opC, opS, opStore, hx x (by simp), hx y (by simp)]
  | nilCheck x => simp only [Op.operands] at hx; simp only [opC, opS, hx x (by simp)]
  | binOp op t x y t2 => simp only [Op.operands] at hx; simp only [opC, opS, opBin, hx x (by simp), hx y (by simp)]
  | unOp op t x => simp only [Op.operands] at hx; simp only [opC, opS, opUn, hx x (by simp)]
  | convert s d x => simp only [Op.operands] at hx; simp only [opC, opS, opConv, hx x (by simp)]
  | makeInterface t x => simp only [Op.operands] at hx; simp only [opC, opS, opIface, hx x (by simp)]
  | makeFunc fn x y =>
    simp only [Op.operands] at hx
    have h1 : evs G e2 x.toList = evs G e x.toList := evs_congr fun z hz => hx z (by simp; exact .inl (by simpa using hz))
    have h2 : evs G e2 y.toList = evs G e y.toList := evs_congr fun z hz => hx z (by simp; exact .inr (by simpa using hz))
    simp only [opC, opS, opFunc, h1, h2]
  | makeMap t r =>
    cases r with
    | none => rfl
    | some x => simp only [Op.operands] at hx; simp only [opC, opS, opMakeMap, hx x (by simp)]
  | makeSlice t x y => simp only [Op.operands] at hx; simp only [opC, opS, opMakeSlice, hx x (by simp), hx y (by simp)]
  | slice t x lo hi mx =>
    simp only [Op.operands] at hx
    have h1 : ∀ d, bound G e2 d lo = bound G e d lo := fun d => bound_congr fun y hy => hx y (by simp [hy])
    have h2 : ∀ d, bound G e2 d hi = bound G e d hi := fun d => bound_congr fun y hy => hx y (by simp [hy])
    simp only [opC, opS, opSlice, hx x (by simp), sliceV, h1, h2]
  | fieldAddr s x f => simp only [Op.operands] at hx; simp only [opC, opS, opFieldAddr, hx x (by simp)]
  | indexAddr t x y => simp only [Op.operands] at hx; simp only [opC, opS, opIndexAddr, hx x (by simp), hx y (by simp)]
  | index t x y => simp only [Op.operands] at hx; simp only [opC, opS, opIndex, hx x (by simp), hx y (by simp)]
  | lookup t x y ok => simp only [Op.operands] at hx; simp only [opC, opS, opLookup, hx x (by simp), hx y (by simp)]
  | mapUpdate t x y z => simp only [Op.operands] at hx; simp only [opC, opS, opMapUpdate, hx x (by simp), hx y (by simp), hx z (by simp)]
  | extract t i => simp only [Op.operands] at hx; simp only [opC, opS, opExtract, hx t (by simp)]
  | field s x f => simp only [Op.operands] at hx; simp only [opC, opS, opField, hx x (by simp)]
  | typeAssert x xt t ok => simp only [Op.operands] at hx; simp only [opC, opS, opAssert, hx x (by simp)]
  | call c =>
    simp only [Op.operands, Call.operands] at hx
    have h1 : evs G e2 c.args.toList = evs G e c.args.toList := evs_congr fun z hz => hx z (by simp; exact .inr (by simpa using hz))
    cases hc : c.callee with
    | value f =>
      have h2 : ev G e2 f = ev G e f := hx f (by simp [hc])
      simp only [opC, opCall, h1, hc, h2]
    | invoke r m => simp only [opC, opCall, h1, hc]
    | builtin b => simp only [opC, opCall, h1, hc]
  | _ => rfl
theorem touch_congr {e e2 : En} {op : Op} (hx : ∀ x ∈ op.operands, ev G e2 x = ev G e x) : touch G e2 op = touch G e op := by
  cases op with
  | load t x => simp only [Op.operands] at hx; simp only [touch, hx x (by simp)]
  | store t x y => simp only [Op.operands] at hx; simp only [touch, hx x (by simp)]
  | _ => rfl
end
end Cx
end Go.Proofs.YtfigbldiffjmbaaGreatDoor
