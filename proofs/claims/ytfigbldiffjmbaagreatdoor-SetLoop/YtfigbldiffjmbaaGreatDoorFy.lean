/- Closed runs: the faster executor answers what the first one answers. -/
import Derived.Test.YtfigbldiffjmbaaGreatDoorFx
import Derived.Test.YtfigbldiffjmbaaGreatDoorCy
namespace Go.Proofs.YtfigbldiffjmbaaGreatDoor
set_option linter.unusedVariables false
namespace Cx
open Go

theorem lenN_eq {α : Type} (l : List α) : lenN l = l.length := by
  induction l with
  | nil => rfl
  | cons x l ih => show Nat.succ (lenN l) = _; rw [ih]; rfl
theorem nb0 (n : Nat) : Nat.beq (Nat.succ n) 0 = false := rfl
theorem hasN_cons {α : Type} (x : α) (l : List α) (n : Nat) : hasN (x :: l) (n + 1) = hasN l n := rfl
theorem takeN_cons {α : Type} (x : α) (l : List α) (n : Nat) : takeN (x :: l) (n + 1) = x :: takeN l n := rfl
theorem cut0_eq {α : Type} : ∀ (l : List α) (n : Nat), cut0 l n = Bool.rec none (some (takeN l n)) (hasN l n)
  | [], 0 => rfl
  | [], n + 1 => rfl
  | x :: l, 0 => rfl
  | x :: l, n + 1 => by
    rw [hasN_cons, takeN_cons]
    show (match cut0 l n with | some r => some (x :: r) | none => none) = _
    rw [cut0_eq l n]
    cases hasN l n <;> rfl
theorem cutF_eq {α : Type} : ∀ (l : List α) (o n : Nat), cutF l o n = cut l o n
  | [], 0, 0 => rfl
  | [], 0, n + 1 => rfl
  | [], o + 1, n => rfl
  | x :: l, 0, n => by
    show (Bool.rec none (some (takeN (x :: l) n)) (hasN (x :: l) n) : Option (List α)) = cut0 (x :: l) n
    rw [cut0_eq]
  | x :: l, o + 1, n => by
    show cutF l o n = cut l o n
    exact cutF_eq l o n
def oneOf {α : Type} : Option (List α) → Option α
  | some [v] => some v
  | _ => none
theorem nthF_eq {α : Type} : ∀ (l : List α) (o : Nat), oneOf (cut l o 1) = nthF l o
  | [], 0 => rfl
  | [], o + 1 => rfl
  | x :: [], 0 => rfl
  | x :: y :: l, 0 => rfl
  | x :: l, o + 1 => by
    show oneOf (cut l o 1) = nthF l o
    exact nthF_eq l o
theorem over0_eq {α : Type} : ∀ (l r : List α), over0 l r = Bool.rec none (some (appF r (dropF l r))) (fitsF l r)
  | [], [] => rfl
  | [], y :: r => rfl
  | x :: l, [] => rfl
  | x :: l, y :: r => by
    show (match over0 l r with | some q => some (y :: q) | none => none) = Bool.rec none (some (y :: appF r (dropF l r))) (fitsF l r)
    rw [over0_eq l r]
    cases fitsF l r <;> rfl
theorem overF_eq {α : Type} : ∀ (l : List α) (o : Nat) (r : List α), overF l o r = over l o r
  | [], 0, [] => rfl
  | [], 0, y :: r => rfl
  | [], o + 1, r => rfl
  | x :: l, 0, r => by
    show (Bool.rec none (some (appF r (dropF (x :: l) r))) (fitsF (x :: l) r) : Option (List α)) = over0 (x :: l) r
    rw [over0_eq]
  | x :: l, o + 1, r => by
    show (Option.rec none (fun q => some (x :: q)) (overF l o r) : Option (List α)) = (match over l o r with | some q => some (x :: q) | none => none)
    rw [overF_eq l o r]
    cases over l o r <;> rfl
theorem oneF_eq (v : Value) : oneF v = one v := by cases v <;> rfl
theorem allOne_eq (l : List Value) : allOne l = l.all one := by
  induction l with
  | nil => rfl
  | cons x l ih =>
    show (Bool.rec false (allOne l) (oneF x) : Bool) = (one x && l.all one)
    rw [oneF_eq, ih]; cases one x <;> rfl
theorem cellsF_eq (v : Value) : cellsF v = v.cells.toList := by cases v <;> rfl
theorem cellsF_len (v : Value) : lenN (cellsF v) = v.cells.size := by rw [lenN_eq, cellsF_eq]; simp
theorem rdF_eq (h : Hp) (k o n : Nat) : rdF h k o n = h.rd k o n := by
  unfold rdF Hp.rd
  cases h.t.get k with
  | none => rfl
  | some q => cases q <;> first | rfl | exact cutF_eq _ _ _
theorem rd1F_eq (h : Hp) (k o : Nat) : rd1F h k o = oneOf (h.rd k o 1) := by
  unfold rd1F Hp.rd
  cases h.t.get k with
  | none => rfl
  | some q => cases q <;> first | rfl | exact (nthF_eq _ _).symm
theorem wrF_eq (h : Hp) (k o : Nat) (vs : List Value) : wrF h k o vs = h.wr k o vs := by
  unfold wrF Hp.wr
  cases h.t.get k with
  | none => rfl
  | some q =>
    cases q with
    | cells us =>
      show (Bool.rec none (Option.rec none (fun q => some (h.set k (.cells q))) (overF us o vs)) (allOne vs) : Option Hp) = cond (vs.all one) (match over us o vs with | some q => some (h.set k (.cells q)) | none => none) none
      rw [allOne_eq, overF_eq]
      cases vs.all one
      · rfl
      · cases over us o vs <;> rfl
    | _ => rfl
theorem ptrOf_ld {P : Program} {h : Hp} {t : TypeId} (a : Value) : ld P h t a = (match ptrOf a with | some q => ldAt P h t q.1 q.2 | none => none) := by
  cases a with
  | pointer a =>
    cases a with
    | none => rfl
    | some x => obtain ⟨k, o, s⟩ := x; cases s <;> rfl
  | _ => rfl
section
variable {P : Program} {G : Nat}
theorem ldAF_eq {h : Hp} {t : TypeId} {n : Nat} (ha : agg P t = some true) (hn : size P t = some n) (a : Value) : ldAF n h a = ld P h t a := by
  rw [ptrOf_ld]
  unfold ldAF
  cases ptrOf a with
  | none => rfl
  | some q =>
    show (Option.rec none (fun l => some (Value.agg ⟨l⟩)) (rdF h q.1 q.2 n) : Option Value) = ldAt P h t q.1 q.2
    unfold ldAt
    rw [ha, hn, rdF_eq]
    simp only
    cases h.rd q.1 q.2 n <;> rfl
theorem ld1F_eq {h : Hp} {t : TypeId} (ha : agg P t = some false) (a : Value) : ld1F h a = ld P h t a := by
  rw [ptrOf_ld]
  unfold ld1F
  cases ptrOf a with
  | none => rfl
  | some q =>
    show rd1F h q.1 q.2 = ldAt P h t q.1 q.2
    unfold ldAt
    rw [ha, rd1F_eq]
    show oneOf (h.rd q.1 q.2 1) = (match h.rd q.1 q.2 1 with | some [v] => some v | _ => none)
    rcases h.rd q.1 q.2 1 with _ | _ | ⟨v, _ | _⟩ <;> rfl
theorem ldF_eq (h : Hp) (t : TypeId) (a : Value) : ldF P h t a = ld P h t a := by
  cases ha : agg P t with
  | none =>
    rw [ptrOf_ld]
    unfold ldF ldAt
    rw [ha]
    cases ptrOf a <;> rfl
  | some b =>
    cases b with
    | false => rw [← ld1F_eq ha]; unfold ldF; rw [ha]
    | true =>
      cases hs : size P t with
      | none =>
        rw [ptrOf_ld]
        unfold ldF ldAt
        rw [ha, hs]
        cases ptrOf a <;> rfl
      | some n => rw [← ldAF_eq ha hs]; unfold ldF; rw [ha, hs]
theorem getF (t : T Value) (i : Nat) : (GF.rec (fun g => g t) (gfn Value i) : Option Value) = t.get i := rfl
theorem resF_eq (sz : Nat) (t : T Value) (mks : List DI) (h : Hp) : ∀ (l : List ResultVar), resF P t h l = resOf P ⟨sz, t, mks⟩ h l
  | [] => rfl
  | r :: l => by
    have ih := resF_eq sz t mks h l
    show (Option.rec none (fun v => Option.rec none (fun l => some (v :: l)) (resF P t h l)) (ResultVar.rec (fun i => t.get i) (fun a ty => Option.rec none (fun p => ldF P h ty p) (t.get a)) r) : Option (List Value)) =
      (match (match r with | .tmp i => t.get i | .cell a ty => (match t.get a with | some p => ld P h ty p | none => none) : Option Value) with
        | some v => (match resOf P ⟨sz, t, mks⟩ h l with | some l => some (v :: l) | none => none)
        | none => none)
    rw [ih]
    cases r with
    | tmp i =>
      show (Option.rec none (fun v => Option.rec none (fun l => some (v :: l)) (resOf P ⟨sz, t, mks⟩ h l)) (t.get i) : Option (List Value)) = (match t.get i with
        | some v => (match resOf P ⟨sz, t, mks⟩ h l with | some l => some (v :: l) | none => none)
        | none => none)
      cases t.get i with
      | none => rfl
      | some v => cases resOf P ⟨sz, t, mks⟩ h l <;> rfl
    | cell a ty =>
      show (Option.rec none (fun v => Option.rec none (fun l => some (v :: l)) (resOf P ⟨sz, t, mks⟩ h l)) (Option.rec none (fun p => ldF P h ty p) (t.get a)) : Option (List Value)) = (match (match t.get a with | some p => ld P h ty p | none => none) with
        | some v => (match resOf P ⟨sz, t, mks⟩ h l with | some l => some (v :: l) | none => none)
        | none => none)
      cases t.get a with
      | none => rfl
      | some p =>
        show (Option.rec none (fun v => Option.rec none (fun l => some (v :: l)) (resOf P ⟨sz, t, mks⟩ h l)) (ldF P h ty p) : Option (List Value)) = (match ld P h ty p with
        | some v => (match resOf P ⟨sz, t, mks⟩ h l with | some l => some (v :: l) | none => none)
        | none => none)
        rw [ldF_eq]
        cases ld P h ty p with
        | none => rfl
        | some v => cases resOf P ⟨sz, t, mks⟩ h l <;> rfl
theorem retE_eq (dc : FuncId → List Value → UM → Hp → Option (UM × Hp)) (rs : List ResultVar) (e : En) (h : Hp) : retE P dc rs e h = endL P rs e (leave dc e.mks .rt h) := by
  obtain ⟨sz, t, mks⟩ := e
  cases mks with
  | cons d ds => rfl
  | nil =>
    show (Option.rec .fail (fun l => .ok (tupOf l) h) (resF P t h rs) : CRes) = (match resOf P ⟨sz, t, []⟩ h rs with
      | some l => .ok (tupOf l) h
      | none => .fail)
    rw [resF_eq sz t []]
    cases resOf P ⟨sz, t, []⟩ h rs <;> rfl
theorem retF_eq (ih : Option Nat → Code → En → Hp → Res) (rs : List ResultVar) (r : Res) : retF P (deferC P G ih) rs r = endC P G ih rs r := by
  cases r with
  | fail => rfl
  | ok x e h => cases x <;> first | exact retE_eq _ rs e h | rfl
theorem callF_eq (ih : Option Nat → Code → En → Hp → Res) (f : FuncId) (args : List Value) (h : Hp) : callF P G ih f args h = callC P G ih f args h := by
  unfold callF callC finfo
  cases P.funcs[f]? with
  | none => rfl
  | some fn =>
    simp only
    cases fn.body with
    | none => rfl
    | some c =>
      show (Bool.rec .fail (retF P (deferC P G ih) fn.results.toList (ih none c ⟨fn.ntmps, envOf args 0 .nil, []⟩ h)) (Nat.ble args.length fn.ntmps) : CRes) = _
      cases Nat.ble args.length fn.ntmps with
      | false => rfl
      | true => exact retF_eq ih _ _
theorem pK_eq (d : Nat) (ih : Kk) (v : Value) (t : T Value) (h : Hp) : pK (pfn Value d) ih v t h = ih (T.put v t d) h := by
  unfold pK T.put; cases pfn Value d; rfl
theorem evK_eq (sz : Nat) (t : T Value) (mks : List DI) (x : Operand) (k : Value → Res) : evK (compA G x) t k = (match ev G ⟨sz, t, mks⟩ x with | some v => k v | none => .fail) := by
  cases x with
  | tmp i =>
    show (Option.rec .fail k (t.get i) : Res) = (match t.get i with | some v => k v | none => .fail)
    cases t.get i <;> rfl
  | const v =>
    show evK (Bool.rec .bad (.val v) (constOk v)) t k = (match cond (constOk v) (some v) none with | some v => k v | none => .fail)
    cases constOk v <;> rfl
  | global g =>
    show evK (Bool.rec .bad (.val (.pointer (some ⟨g, 0, none⟩))) (Nat.blt g G)) t k = (match cond (Nat.blt g G) (some (.pointer (some ⟨g, 0, none⟩))) none with | some v => k v | none => .fail)
    cases Nat.blt g G <;> rfl
  | func f => rfl
theorem isBool_spec (v : Value) : (∃ b, v = .bool b ∧ isBool v = some b) ∨ ((∀ b, v ≠ .bool b) ∧ isBool v = none) := by
  cases v <;> first | exact .inl ⟨_, rfl, rfl⟩ | exact .inr ⟨fun b h => (by cases h), rfl⟩

variable (call : FuncId → List Value → Hp → CRes) (round : Nat → List Value → Hp → CRes) (all : Array Oper) (sz : Nat) (mks : List DI)
/-- what comes behind an operation with a place -/
noncomputable def doneR (ih : Kk) (t : T Value) (d : Nat) : CRes → Res
  | .ok v h => ih (T.put v t d) h
  | .fail => .fail
  | .panic v h => .ok (.pan v) ⟨sz, t, mks⟩ h
/-- what comes behind one without -/
noncomputable def doneN (ih : Kk) (t : T Value) : CRes → Res
  | .ok _ h => ih t h
  | .fail => .fail
  | .panic v h => .ok (.pan v) ⟨sz, t, mks⟩ h
theorem spec_none {o : Oper} (hs : isSpec o.op = false) (ro : Option Nat) (all : Array Oper) (e : En) (h : Hp) (ih : En → Hp → Res) : specC G ro all o e h ih = .fail := by
  unfold specC
  split
  · unfold spec0
    split
    · rename_i x ho; rw [ho] at hs; cases hs
    · rename_i c ho; rw [ho] at hs; cases hs
    · rfl
  · rfl
theorem spec_same {o : Oper} (hs : isDefer o.op = false) (ro ro' : Option Nat) (all : Array Oper) (e : En) (h : Hp) (ih ih' : En → Hp → Res) : specC G ro all o e h ih = specC G ro' all o e h ih' := by
  unfold specC
  split
  · unfold spec0
    split
    · rfl
    · rename_i c ho; rw [ho] at hs; cases hs
    · rfl
  · rfl
theorem gen_dst {o : Oper} (hg : o.guard = none) {d : Nat} (hd : o.dst = some d) (hb : Nat.blt d sz = true) (ih : Kk) (t : T Value) (h : Hp) (hs : isSpec o.op = false) :
    aGen P G call round all sz mks o ih t h = doneR sz mks ih t d (opDone call round h (opC P G ⟨sz, t, mks⟩ h o)) := by
  unfold aGen oneOp
  rw [spec_none hs]
  unfold wantedC
  rw [hg, hd]
  simp only
  cases opDone call round h (opC P G ⟨sz, t, mks⟩ h o) with
  | fail => rfl
  | panic v h2 => rfl
  | ok v h2 =>
    show (match cond (Nat.blt d sz) (some (⟨sz, T.put v t d, mks⟩ : En)) none with | some e => ih e.t h2 | none => .fail) = ih (T.put v t d) h2
    rw [hb]; rfl
theorem gen_no {o : Oper} (hg : o.guard = none) (hd : o.dst = none) (ih : Kk) (t : T Value) (h : Hp) (hs : isSpec o.op = false) :
    aGen P G call round all sz mks o ih t h = doneN sz mks ih t (opDone call round h (opC P G ⟨sz, t, mks⟩ h o)) := by
  unfold aGen oneOp
  rw [spec_none hs]
  unfold wantedC
  rw [hg, hd]
  simp only
  cases opDone call round h (opC P G ⟨sz, t, mks⟩ h o) <;> rfl
theorem done_ofV (ih : Kk) (t : T Value) (d : Nat) (h : Hp) (x : Option Value) : doneR sz mks ih t d (opDone call round h (Out.ofV h x)) = (match x with | some v => ih (T.put v t d) h | none => .fail) := by
  cases x <;> rfl
end
end Cx
end Go.Proofs.YtfigbldiffjmbaaGreatDoor
