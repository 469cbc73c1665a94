/- An executor for closed runs, made for the kernel to run: a memory of its own, whose blocks stand for blocks of the model's. -/
import GoSem.Dispatch
import GoSem.Machine.Return
import Derived.CallsIn
import Derived.OrdersIn
namespace Go.Proofs.YtkljlbilhcdjhaaGreatDoor
set_option linter.unusedVariables false
namespace Cx
open Go

structure N16 (α : Type) where
  mk ::
  c0 : α
  c1 : α
  c2 : α
  c3 : α
  c4 : α
  c5 : α
  c6 : α
  c7 : α
  c8 : α
  c9 : α
  c10 : α
  c11 : α
  c12 : α
  c13 : α
  c14 : α
  c15 : α
/-- a function, as something that the kernel reckons once -/
inductive GF (β γ : Type) where
  | mk (g : β → γ)
inductive PF (α β : Type) where
  | mk (p : (α → α) → β → β)
noncomputable def N16.u0 {α : Type} (F : α → α) (t : N16 α) : N16 α := N16.rec (fun c0 c1 c2 c3 c4 c5 c6 c7 c8 c9 c10 c11 c12 c13 c14 c15 => ⟨F c0, c1, c2, c3, c4, c5, c6, c7, c8, c9, c10, c11, c12, c13, c14, c15⟩) t
noncomputable def N16.u1 {α : Type} (F : α → α) (t : N16 α) : N16 α := N16.rec (fun c0 c1 c2 c3 c4 c5 c6 c7 c8 c9 c10 c11 c12 c13 c14 c15 => ⟨c0, F c1, c2, c3, c4, c5, c6, c7, c8, c9, c10, c11, c12, c13, c14, c15⟩) t
noncomputable def N16.u2 {α : Type} (F : α → α) (t : N16 α) : N16 α := N16.rec (fun c0 c1 c2 c3 c4 c5 c6 c7 c8 c9 c10 c11 c12 c13 c14 c15 => ⟨c0, c1, F c2, c3, c4, c5, c6, c7, c8, c9, c10, c11, c12, c13, c14, c15⟩) t
noncomputable def N16.u3 {α : Type} (F : α → α) (t : N16 α) : N16 α := N16.rec (fun c0 c1 c2 c3 c4 c5 c6 c7 c8 c9 c10 c11 c12 c13 c14 c15 => ⟨c0, c1, c2, F c3, c4, c5, c6, c7, c8, c9, c10, c11, c12, c13, c14, c15⟩) t
noncomputable def N16.u4 {α : Type} (F : α → α) (t : N16 α) : N16 α := N16.rec (fun c0 c1 c2 c3 c4 c5 c6 c7 c8 c9 c10 c11 c12 c13 c14 c15 => ⟨c0, c1, c2, c3, F c4, c5, c6, c7, c8, c9, c10, c11, c12, c13, c14, c15⟩) t
noncomputable def N16.u5 {α : Type} (F : α → α) (t : N16 α) : N16 α := N16.rec (fun c0 c1 c2 c3 c4 c5 c6 c7 c8 c9 c10 c11 c12 c13 c14 c15 => ⟨c0, c1, c2, c3, c4, F c5, c6, c7, c8, c9, c10, c11, c12, c13, c14, c15⟩) t
noncomputable def N16.u6 {α : Type} (F : α → α) (t : N16 α) : N16 α := N16.rec (fun c0 c1 c2 c3 c4 c5 c6 c7 c8 c9 c10 c11 c12 c13 c14 c15 => ⟨c0, c1, c2, c3, c4, c5, F c6, c7, c8, c9, c10, c11, c12, c13, c14, c15⟩) t
noncomputable def N16.u7 {α : Type} (F : α → α) (t : N16 α) : N16 α := N16.rec (fun c0 c1 c2 c3 c4 c5 c6 c7 c8 c9 c10 c11 c12 c13 c14 c15 => ⟨c0, c1, c2, c3, c4, c5, c6, F c7, c8, c9, c10, c11, c12, c13, c14, c15⟩) t
noncomputable def N16.u8 {α : Type} (F : α → α) (t : N16 α) : N16 α := N16.rec (fun c0 c1 c2 c3 c4 c5 c6 c7 c8 c9 c10 c11 c12 c13 c14 c15 => ⟨c0, c1, c2, c3, c4, c5, c6, c7, F c8, c9, c10, c11, c12, c13, c14, c15⟩) t
noncomputable def N16.u9 {α : Type} (F : α → α) (t : N16 α) : N16 α := N16.rec (fun c0 c1 c2 c3 c4 c5 c6 c7 c8 c9 c10 c11 c12 c13 c14 c15 => ⟨c0, c1, c2, c3, c4, c5, c6, c7, c8, F c9, c10, c11, c12, c13, c14, c15⟩) t
noncomputable def N16.u10 {α : Type} (F : α → α) (t : N16 α) : N16 α := N16.rec (fun c0 c1 c2 c3 c4 c5 c6 c7 c8 c9 c10 c11 c12 c13 c14 c15 => ⟨c0, c1, c2, c3, c4, c5, c6, c7, c8, c9, F c10, c11, c12, c13, c14, c15⟩) t
noncomputable def N16.u11 {α : Type} (F : α → α) (t : N16 α) : N16 α := N16.rec (fun c0 c1 c2 c3 c4 c5 c6 c7 c8 c9 c10 c11 c12 c13 c14 c15 => ⟨c0, c1, c2, c3, c4, c5, c6, c7, c8, c9, c10, F c11, c12, c13, c14, c15⟩) t
noncomputable def N16.u12 {α : Type} (F : α → α) (t : N16 α) : N16 α := N16.rec (fun c0 c1 c2 c3 c4 c5 c6 c7 c8 c9 c10 c11 c12 c13 c14 c15 => ⟨c0, c1, c2, c3, c4, c5, c6, c7, c8, c9, c10, c11, F c12, c13, c14, c15⟩) t
noncomputable def N16.u13 {α : Type} (F : α → α) (t : N16 α) : N16 α := N16.rec (fun c0 c1 c2 c3 c4 c5 c6 c7 c8 c9 c10 c11 c12 c13 c14 c15 => ⟨c0, c1, c2, c3, c4, c5, c6, c7, c8, c9, c10, c11, c12, F c13, c14, c15⟩) t
noncomputable def N16.u14 {α : Type} (F : α → α) (t : N16 α) : N16 α := N16.rec (fun c0 c1 c2 c3 c4 c5 c6 c7 c8 c9 c10 c11 c12 c13 c14 c15 => ⟨c0, c1, c2, c3, c4, c5, c6, c7, c8, c9, c10, c11, c12, c13, F c14, c15⟩) t
noncomputable def N16.u15 {α : Type} (F : α → α) (t : N16 α) : N16 α := N16.rec (fun c0 c1 c2 c3 c4 c5 c6 c7 c8 c9 c10 c11 c12 c13 c14 c15 => ⟨c0, c1, c2, c3, c4, c5, c6, c7, c8, c9, c10, c11, c12, c13, c14, F c15⟩) t
noncomputable def selG (α : Type) (n : Nat) : GF (N16 α) α := Nat.rec (GF.mk N16.c0) (fun n _ => Nat.rec (GF.mk N16.c1) (fun n _ => Nat.rec (GF.mk N16.c2) (fun n _ => Nat.rec (GF.mk N16.c3) (fun n _ => Nat.rec (GF.mk N16.c4) (fun n _ => Nat.rec (GF.mk N16.c5) (fun n _ => Nat.rec (GF.mk N16.c6) (fun n _ => Nat.rec (GF.mk N16.c7) (fun n _ => Nat.rec (GF.mk N16.c8) (fun n _ => Nat.rec (GF.mk N16.c9) (fun n _ => Nat.rec (GF.mk N16.c10) (fun n _ => Nat.rec (GF.mk N16.c11) (fun n _ => Nat.rec (GF.mk N16.c12) (fun n _ => Nat.rec (GF.mk N16.c13) (fun n _ => Nat.rec (GF.mk N16.c14) (fun n _ => GF.mk N16.c15) n) n) n) n) n) n) n) n) n) n) n) n) n) n) n
noncomputable def selU (α : Type) (n : Nat) : PF α (N16 α) := Nat.rec (PF.mk N16.u0) (fun n _ => Nat.rec (PF.mk N16.u1) (fun n _ => Nat.rec (PF.mk N16.u2) (fun n _ => Nat.rec (PF.mk N16.u3) (fun n _ => Nat.rec (PF.mk N16.u4) (fun n _ => Nat.rec (PF.mk N16.u5) (fun n _ => Nat.rec (PF.mk N16.u6) (fun n _ => Nat.rec (PF.mk N16.u7) (fun n _ => Nat.rec (PF.mk N16.u8) (fun n _ => Nat.rec (PF.mk N16.u9) (fun n _ => Nat.rec (PF.mk N16.u10) (fun n _ => Nat.rec (PF.mk N16.u11) (fun n _ => Nat.rec (PF.mk N16.u12) (fun n _ => Nat.rec (PF.mk N16.u13) (fun n _ => Nat.rec (PF.mk N16.u14) (fun n _ => PF.mk N16.u15) n) n) n) n) n) n) n) n) n) n) n) n) n) n) n
noncomputable def N16.all {α : Type} (x : α) : N16 α := ⟨x, x, x, x, x, x, x, x, x, x, x, x, x, x, x, x⟩
/-- A table: the first 16 places, the next 256, the next 4096, the next 65536, and all others. -/
structure T (α : Type) where
  a : N16 (Option α)
  b : N16 (N16 (Option α))
  c : N16 (N16 (N16 (Option α)))
  d : N16 (N16 (N16 (N16 (Option α))))
  f : Nat → Option α
noncomputable def T.nil {α : Type} : T α := ⟨N16.all none, N16.all (N16.all none), N16.all (N16.all (N16.all none)), N16.all (N16.all (N16.all (N16.all none))), fun _ => none⟩
noncomputable def T.ua {α : Type} (F : N16 (Option α) → N16 (Option α)) (t : T α) : T α := T.rec (fun a b c d f => ⟨F a, b, c, d, f⟩) t
noncomputable def T.ub {α : Type} (F : N16 (N16 (Option α)) → N16 (N16 (Option α))) (t : T α) : T α := T.rec (fun a b c d f => ⟨a, F b, c, d, f⟩) t
noncomputable def T.uc {α : Type} (F : N16 (N16 (N16 (Option α))) → N16 (N16 (N16 (Option α)))) (t : T α) : T α := T.rec (fun a b c d f => ⟨a, b, F c, d, f⟩) t
noncomputable def T.ud {α : Type} (F : N16 (N16 (N16 (N16 (Option α)))) → N16 (N16 (N16 (N16 (Option α))))) (t : T α) : T α := T.rec (fun a b c d f => ⟨a, b, c, F d, f⟩) t
noncomputable def T.uf {α : Type} (n : Nat) (F : Option α → Option α) (t : T α) : T α := T.rec (fun a b c d f => ⟨a, b, c, d, fun m => cond (Nat.beq m n) (F (f m)) (f m)⟩) t
section
variable (α : Type)
noncomputable def gfn1 (n : Nat) : GF (T α) (Option α) := GF.rec (fun g => GF.mk (fun t => g (T.a t))) (selG (Option α) n)
noncomputable def gfn2 (n : Nat) : GF (T α) (Option α) := GF.rec (fun g => GF.rec (fun g' => GF.mk (fun t => g' (g (T.b t)))) (selG (Option α) (Nat.mod n 16))) (selG (N16 (Option α)) (Nat.div n 16))
noncomputable def gfn3 (n : Nat) : GF (T α) (Option α) := GF.rec (fun g => GF.rec (fun g' => GF.rec (fun g'' => GF.mk (fun t => g'' (g' (g (T.c t))))) (selG (Option α) (Nat.mod n 16))) (selG (N16 (Option α)) (Nat.mod (Nat.div n 16) 16))) (selG (N16 (N16 (Option α))) (Nat.div n 256))
noncomputable def gfn4 (n : Nat) : GF (T α) (Option α) := GF.rec (fun g => GF.rec (fun g' => GF.rec (fun g'' => GF.rec (fun g3 => GF.mk (fun t => g3 (g'' (g' (g (T.d t)))))) (selG (Option α) (Nat.mod n 16))) (selG (N16 (Option α)) (Nat.mod (Nat.div n 16) 16))) (selG (N16 (N16 (Option α))) (Nat.mod (Nat.div n 256) 16))) (selG (N16 (N16 (N16 (Option α)))) (Nat.div n 4096))
noncomputable def gfn (n : Nat) : GF (T α) (Option α) :=
  Bool.rec (Bool.rec (Bool.rec (Bool.rec (GF.mk (fun t => t.f n)) (gfn4 α (Nat.sub n 4368)) (Nat.blt n 69904)) (gfn3 α (Nat.sub n 272)) (Nat.blt n 4368)) (gfn2 α (Nat.sub n 16)) (Nat.blt n 272)) (gfn1 α n) (Nat.blt n 16)
noncomputable def pfn1 (n : Nat) : PF (Option α) (T α) := PF.rec (fun u => PF.mk (fun F => T.ua (u F))) (selU (Option α) n)
noncomputable def pfn2 (n : Nat) : PF (Option α) (T α) := PF.rec (fun u => PF.rec (fun u' => PF.mk (fun F => T.ub (u (u' F)))) (selU (Option α) (Nat.mod n 16))) (selU (N16 (Option α)) (Nat.div n 16))
noncomputable def pfn3 (n : Nat) : PF (Option α) (T α) := PF.rec (fun u => PF.rec (fun u' => PF.rec (fun u'' => PF.mk (fun F => T.uc (u (u' (u'' F))))) (selU (Option α) (Nat.mod n 16))) (selU (N16 (Option α)) (Nat.mod (Nat.div n 16) 16))) (selU (N16 (N16 (Option α))) (Nat.div n 256))
noncomputable def pfn4 (n : Nat) : PF (Option α) (T α) := PF.rec (fun u => PF.rec (fun u' => PF.rec (fun u'' => PF.rec (fun u3 => PF.mk (fun F => T.ud (u (u' (u'' (u3 F)))))) (selU (Option α) (Nat.mod n 16))) (selU (N16 (Option α)) (Nat.mod (Nat.div n 16) 16))) (selU (N16 (N16 (Option α))) (Nat.mod (Nat.div n 256) 16))) (selU (N16 (N16 (N16 (Option α)))) (Nat.div n 4096))
noncomputable def pfn (n : Nat) : PF (Option α) (T α) :=
  Bool.rec (Bool.rec (Bool.rec (Bool.rec (PF.mk (fun F t => T.uf n F t)) (pfn4 α (Nat.sub n 4368)) (Nat.blt n 69904)) (pfn3 α (Nat.sub n 272)) (Nat.blt n 4368)) (pfn2 α (Nat.sub n 16)) (Nat.blt n 272)) (pfn1 α n) (Nat.blt n 16)
end
noncomputable def T.get {α : Type} (t : T α) (n : Nat) : Option α := GF.rec (fun g => g t) (gfn α n)
noncomputable def setTo {α : Type} (x : α) (_ : Option α) : Option α := some x
noncomputable def T.put {α : Type} (x : α) (t : T α) (n : Nat) : T α := PF.rec (fun p => p (setTo x) t) (pfn α n)

/-- What waits for a function's end: a loop's mark, or a deferred call. -/
inductive DI where
  | mark (k : Nat)
  | call (f : FuncId) (args : List Value)
/-- The temporaries: how many there are, and what is known of them. -/
structure En where
  sz : Nat
  t : T Value
  mks : List DI

inductive LObj where
  | cells (vs : List Value)
  | ro (vs : List Value)
  | map (es : List (Value × Value))
  | dead
  | other
  | defs
  | kmap (r : Nat)
  | loop (busy : Bool) (pend : Option Code) (e : En) (ps : List Tmp) (as bd : Code)

structure Hp where
  n : Nat
  t : T LObj
  low : Nat

inductive Ex where
  | normal
  | exit (id : Nat)
  | ret
  | pan (v : Value)

inductive Out where
  | value (v : Value) (h : Hp)
  | call (f : FuncId) (args : List Value)
  | round (l : Nat) (args : List Value)
  | fail

inductive Res where
  | ok (x : Ex) (e : En) (h : Hp)
  | fail

inductive CRes where
  | ok (v : Value) (h : Hp)
  | fail
  | panic (v : Value) (h : Hp)

/-- how a function leaves: it returns; a panic goes on; a panic that was recovered from -/
inductive UM where
  | rt
  | pn (v : Value)
  | dn (v : Value)
def settleU : UM → UM
  | .dn _ => .rt
  | u => u

/-- a new block -/
noncomputable def Hp.new (h : Hp) (o : LObj) : Hp := ⟨Nat.succ h.n, T.put o h.t h.n, h.low⟩
/-- a block changed -/
noncomputable def Hp.set (h : Hp) (k : Nat) (o : LObj) : Hp := ⟨h.n, T.put o h.t k, cond (Nat.ble h.low k) h.low k⟩

noncomputable def cut0 {α : Type} (l : List α) : Nat → Option (List α) :=
  List.rec (fun n => cond (Nat.beq n 0) (some []) none) (fun x _ ih n => cond (Nat.beq n 0) (some []) (match ih (Nat.pred n) with | some r => some (x :: r) | none => none)) l
noncomputable def cut {α : Type} (l : List α) : Nat → Nat → Option (List α) :=
  List.rec (fun o n => cond (Nat.beq o 0) (cut0 [] n) none) (fun x l ih o n => cond (Nat.beq o 0) (cut0 (x :: l) n) (ih (Nat.pred o) n)) l
noncomputable def over0 {α : Type} (l : List α) : List α → Option (List α) :=
  List.rec (fun r => match r with | [] => some [] | _ => none) (fun x l ih r => match r with | [] => some (x :: l) | y :: r => (match ih r with | some q => some (y :: q) | none => none)) l
noncomputable def over {α : Type} (l : List α) : Nat → List α → Option (List α) :=
  List.rec (fun o r => cond (Nat.beq o 0) (over0 [] r) none) (fun x l ih o r => cond (Nat.beq o 0) (over0 (x :: l) r) (match ih (Nat.pred o) r with | some q => some (x :: q) | none => none)) l

noncomputable def Hp.rd (h : Hp) (k o n : Nat) : Option (List Value) :=
  match h.t.get k with
  | some (.cells vs) => cut vs o n
  | some (.ro vs) => cut vs o n
  | _ => none
/-- a value of one cell -/
def one : Value → Bool
  | .agg _ => false
  | .tuple _ => false
  | _ => true
noncomputable def Hp.wr (h : Hp) (k o : Nat) (vs : List Value) : Option Hp :=
  match h.t.get k with
  | some (.cells us) => cond (vs.all one) (match over us o vs with
    | some q => some (h.set k (.cells q))
    | none => none) none
  | _ => none

def pureRun {α : Type} (P : Program) : Sem α → Option α
  | .pure a => some a
  | .program k => pureRun P (k P)
  | .mark _ k => pureRun P k
  | _ => none

/-- a value without memory -/
def scalar : Value → Bool
  | .bool _ => true
  | .int _ _ => true
  | .string _ => true
  | .float _ _ => true
  | _ => false
/-- what is reckoned without memory -/
def pureS (P : Program) (s : Sem Value) : Option Value :=
  match pureRun P s with
  | some v => cond (scalar v) (some v) none
  | none => none
def simple : Value → Bool
  | .bool _ => true
  | .int _ _ => true
  | .string _ => true
  | .float _ _ => true
  | .pointer none => true
  | .slice none 0 0 => true
  | .map none => true
  | .nilFunc => true
  | .nilIface => true
  | _ => false
def constOk : Value → Bool
  | .agg cs => cs.toList.all simple
  | .tuple cs => cs.toList.all simple
  | v => simple v

/-- how many globals there are, and calls whose answers are known otherwise -/
structure GS where
  n : Nat
  stub : FuncId → Option (List Value → Hp → Option CRes)
section
variable (P : Program) (G : GS)

noncomputable def ev (e : En) : Operand → Option Value
  | .tmp t => e.t.get t
  | .const v => cond (constOk v) (some v) none
  | .global g => cond (Nat.blt g G.n) (some (.pointer (some ⟨g, 0, none⟩))) none
  | .func f => some (.func (.func f) #[] #[])
noncomputable def evs (e : En) (l : List Operand) : Option (List Value) :=
  List.rec (some []) (fun x _ ih => match ev G e x with
    | some v => (match ih with | some l => some (v :: l) | none => none)
    | none => none) l
noncomputable def evp (e : En) (l : List (Nat × Operand)) : Option (List (Nat × Value)) :=
  List.rec (some []) (fun x _ ih => match ev G e x.2 with
    | some v => (match ih with | some l => some ((x.1, v) :: l) | none => none)
    | none => none) l

def size (t : TypeId) : Option Nat := match P.info? t with | some i => some i.size | none => none
def zero (t : TypeId) : Option Value := match P.info? t with | some i => (match i.zero with | some z => cond (constOk z) (some z) none | none => none) | none => none
def agg (t : TypeId) : Option Bool := match P.underlying t with | some (.struct _) => some true | some (.array _ _) => some true | some _ => some false | none => none
def elemOf (t : TypeId) : Option TypeId := match P.underlying t with | some (.slice e) => some e | _ => none

noncomputable def ldAt (h : Hp) (t : TypeId) (k o : Nat) : Option Value :=
  match agg P t with
  | some true => (match size P t with
    | some n => (match h.rd k o n with | some l => some (.agg l.toArray) | none => none)
    | none => none)
  | some false => (match h.rd k o 1 with | some [v] => some v | _ => none)
  | none => none
noncomputable def ld (h : Hp) (t : TypeId) : Value → Option Value
  | .pointer (some ⟨k, o, none⟩) => ldAt P h t k o
  | _ => none

noncomputable def fillL (place : Nat → Option (Nat × Nat)) (ps : List (Nat × Value)) : List Value → Option (List Value) :=
  List.rec (fun cells => some cells) (fun p _ ih cells => match place p.1 with
    | some q => cond (Nat.beq p.2.cells.size q.2) (match over cells q.1 p.2.cells.toList with | some r => ih r | none => none) none
    | none => none) ps
noncomputable def rep (z : List Value) (n : Nat) : List Value := Nat.rec [] (fun _ ih => z ++ ih) n

def Out.ofV (h : Hp) : Option Value → Out
  | some v => .value v h
  | none => .fail
noncomputable def outNew (h : Hp) (vs : List Value) : Out := .value (.pointer (some ⟨h.n, 0, none⟩)) (h.new (.cells vs))
noncomputable def outRow (h : Hp) (vs : List Value) (n es : Nat) : Out := .value (.slice (some ⟨h.n, 0, none⟩) n es) (h.new (.cells vs))
def outP (h : Hp) (k o : Nat) : Out := .value (.pointer (some ⟨k, o, none⟩)) h

def natOf : Value → Option Nat
  | .int _ (.ofNat n) => some n
  | _ => none

noncomputable def bytesOf (l : List Value) : Option (List UInt8) :=
  List.rec (some []) (fun v _ ih => match v with
    | .int .u8 n => (match ih with | some l => some (UInt8.ofNat n.toNat :: l) | none => none)
    | _ => none) l

def opPick (e : En) (h : Hp) (c a b : Operand) (ev : En → Operand → Option Value) : Out :=
  match ev e c with
  | some (.bool true) => .ofV h (ev e a)
  | some (.bool false) => .ofV h (ev e b)
  | _ => .fail
noncomputable def opAlloc (h : Hp) (t : TypeId) : Out := match zero P t with
  | some z => outNew h z.cells.toList
  | none => .fail
noncomputable def opBox (e : En) (h : Hp) (x : Operand) : Out := match ev G e x with
  | some z => outNew h z.cells.toList
  | none => .fail
noncomputable def placeS (fs : Array Field) (i : Nat) : Option (Nat × Nat) := match fs[i]? with
  | some f => (match size P f.type with | some n => some (f.offset, n) | none => none)
  | none => none
def sizesOk (fs : Array Field) : Bool := fs.toList.all fun f => (size P f.type).isSome
noncomputable def opBuild (e : En) (h : Hp) (t : TypeId) (parts : List (Nat × Operand)) : Out :=
  match zero P t, evp G e parts with
  | some z, some ps => (match P.underlying t with
    | some (.struct fs) => cond (sizesOk P fs) (match fillL (placeS P fs) ps z.cells.toList with | some l => .value (.agg l.toArray) h | none => .fail) .fail
    | some (.array _ el) => (match size P el with
      | some n => (match fillL (fun i => some (Nat.mul i n, n)) ps z.cells.toList with | some l => .value (.agg l.toArray) h | none => .fail)
      | none => .fail)
    | _ => .fail)
  | _, _ => .fail
noncomputable def opBuildSlice (e : En) (h : Hp) (t : TypeId) (len : Nat) (parts : List (Nat × Operand)) : Out :=
  match elemOf P t, evp G e parts with
  | some el, some ps => (match size P el, zero P el with
    | some n, some z => cond (Nat.beq z.cells.size n && Nat.blt 0 n && Nat.ble (Nat.mul len n) 65536) (match fillL (fun i => some (Nat.mul i n, n)) ps (rep z.cells.toList len) with
      | some l => outRow h l len n
      | none => .fail) .fail
    | _, _ => .fail)
  | _, _ => .fail
noncomputable def opStore (e : En) (h : Hp) (t : TypeId) (a x : Operand) : Out :=
  match ev G e a, ev G e x with
  | some (.pointer (some ⟨k, o, none⟩)), some v => (match size P t with
    | some n => cond (Nat.beq v.cells.size n) (match h.wr k o v.cells.toList with | some h => .value undef h | none => .fail) .fail
    | none => .fail)
  | _, _ => .fail
def nilCheckV (h : Hp) : Option Value → Out
  | some (.func (.func f) a b) => .value (.func (.func f) a b) h
  | some (.pointer (some a)) => .value (.pointer (some a)) h
  | some (.func (.yield f) a b) => .value (.func (.yield f) a b) h
  | _ => .fail
/-- is one of the two the nil of its kind, and are they the same? -/
def nilEq (c : Bool) : TypeDesc → Value → Value → Option Bool
  | .slice _, .slice none _ _, .slice b _ _ => some b.isNone
  | .slice _, .slice (some _) _ _, .slice none _ _ => some false
  | .pointer _, .pointer none, .pointer b => some b.isNone
  | .pointer _, .pointer (some _), .pointer none => some false
  | .map _ _, .map none, .map b => some b.isNone
  | .map _ _, .map (some _), .map none => some false
  | .func _ _ _, .nilFunc, .nilFunc => some true
  | .func _ _ _, .nilFunc, .func _ _ _ => some false
  | .func _ _ _, .func _ _ _, .nilFunc => some false
  | .interface _, .nilIface, .nilIface => cond c (some true) none
  | .interface _, .nilIface, .iface _ _ => some false
  | .interface _, .iface _ _, .nilIface => some false
  | _, _, _ => none
def isConst : Operand → Bool
  | .const _ => true
  | _ => false
def binNil (c : Bool) (op : BinOp) (t : TypeId) (a b : Value) : Option Value :=
  match P.underlying t with
  | some d => (match nilEq c d a b with
    | some r => (match op with | .eql => some (.bool r) | .neq => some (.bool !r) | _ => none)
    | none => none)
  | none => none
def binV (c : Bool) (op : BinOp) (t : TypeId) (a b : Value) : Option Value :=
  cond (scalar a && scalar b) (pureS P (binOp op t a b)) (binNil P c op t a b)
noncomputable def opBin (e : En) (h : Hp) (op : BinOp) (t : TypeId) (x y : Operand) : Out :=
  match ev G e x, ev G e y with
  | some a, some b => .ofV h (binV P (isConst x || isConst y) op t a b)
  | _, _ => .fail
noncomputable def opUn (e : En) (h : Hp) (op : UnOp) (x : Operand) : Out :=
  match ev G e x with
  | some a => cond (scalar a) (.ofV h (pureS P (Op.unary op a))) .fail
  | none => .fail
noncomputable def convB (h : Hp) (k o n c : Nat) : Bool → Option TypeDesc → Option LObj → Out
  | true, some (.int .u8), some (.cells vs) => .value (.slice (some ⟨k, o, none⟩) n c) (h.set k (.cells vs))
  | _, _, _ => .fail
noncomputable def convV (h : Hp) (src dst : TypeId) : Value → Out
  | .slice (some ⟨k, o, none⟩) n c => (match P.underlying src, P.underlying dst with
    | some (.slice el), some .string => (match P.underlying el with
      | some (.int .u8) => (match h.rd k o n with
        | some l => (match bytesOf l with | some bs => .value (.string ⟨bs.toArray⟩) h | none => .fail)
        | none => .fail)
      | _ => .fail)
    | some (.slice _), some (.slice el) => convB h k o n c (Nat.beq src dst) (P.underlying el) (h.t.get k)
    | _, _ => .fail)
  | .slice none _ _ => (match P.underlying src, P.underlying dst with
    | some (.slice el), some .string => (match P.underlying el with
      | some (.int .u8) => .value (.string ⟨#[]⟩) h
      | _ => .fail)
    | _, _ => .fail)
  | .string s => (match P.underlying src, P.underlying dst with
    | some .string, some (.slice el) => (match P.underlying el with
      | some (.int .u8) => cond (Nat.ble s.data.toList.length 16777216) (outRow h (s.data.toList.map fun b => Value.int .u8 b.toNat) s.data.toList.length 1) .fail
      | _ => .fail)
    | some .string, some .string => .value (.string s) h
    | _, _ => .fail)
  | a => cond (scalar a) (.ofV h (pureS P (convert src dst a))) .fail
noncomputable def opConv (e : En) (h : Hp) (src dst : TypeId) (x : Operand) : Out :=
  match ev G e x with
  | some a => convV P h src dst a
  | none => .fail
noncomputable def opIface (e : En) (h : Hp) (t : TypeId) (x : Operand) : Out :=
  match ev G e x, P.underlying t with
  | some _, some (.interface _) => .fail
  | some a, some _ => .value (.iface t a) h
  | _, _ => .fail
noncomputable def opFunc (e : En) (h : Hp) (fn : Fn) (first captured : List Operand) : Out :=
  match fn, evs G e first, evs G e captured with
  | .func f, some a, some b => .value (.func (.func f) a.toArray b.toArray) h
  | _, _, _ => .fail
noncomputable def opMakeMap (e : En) (h : Hp) (t : TypeId) : Option Operand → Out
  | none => .value (.map (some h.n)) (h.new (.map []))
  | some x => (match ev G e x, P.underlying t with
    | some (.int _ _), some (.map _ _) => .value (.map (some h.n)) (h.new (.map []))
    | _, _ => .fail)
noncomputable def opMakeSlice (e : En) (h : Hp) (t : TypeId) (l c : Operand) : Out :=
  match elemOf P t, ev G e l, ev G e c with
  | some el, some (.int .i64 (.ofNat l)), some (.int .i64 (.ofNat c)) => (match size P el, zero P el, P.info? el with
    | some n, some z, some i => cond (Nat.ble l c && Nat.beq z.cells.size n && Nat.blt 0 n && Nat.ble (Nat.mul c i.bytes) 16777216 && Nat.ble c 16777216) (outRow h (rep z.cells.toList l) l n) .fail
    | _, _, _ => .fail)
  | _, _, _ => .fail
noncomputable def bound (e : En) (d : Nat) : Option Operand → Option Nat
  | none => some d
  | some x => (match ev G e x with | some v => natOf v | none => none)
/-- a row has so many cells -/
noncomputable def arrIn (h : Hp) (k n : Nat) : Bool := match h.t.get k with | some (.cells vs) => Nat.ble n vs.length | _ => false
noncomputable def sliceV (e : En) (h : Hp) (t : TypeId) (lo hi : Option Operand) : Value → Out
  | .string s => (match P.underlying t, bound G e 0 lo, bound G e s.data.toList.length hi with
    | some .string, some l, some u => cond (Nat.ble l u && Nat.ble u s.data.toList.length) (.value (.string (s.extract l u)) h) .fail
    | _, _, _ => .fail)
  | .slice a n es => (match elemOf P t, bound G e 0 lo, bound G e n hi with
    | some el, some l, some u => cond (Nat.ble l u && Nat.ble u n) (match a with
      | some ⟨k, o, none⟩ => (match size P el with
        | some m => cond (Nat.beq m es) (.value (.slice (some ⟨k, Nat.add o (Nat.mul l es), none⟩) (Nat.sub u l) es) h) .fail
        | none => .fail)
      | none => (match size P el with
        | some _ => .value (.slice none 0 0) h
        | none => .fail)
      | _ => .fail) .fail
    | _, _, _ => .fail)
  | .pointer (some ⟨k, o, none⟩) => (match P.underlying t with
    | some (.array n el) => (match size P el, bound G e 0 lo, bound G e n hi with
      | some es, some l, some u => cond (Nat.ble l u && Nat.ble u n && Nat.blt 0 es && arrIn h k (Nat.add o (Nat.mul n es))) (.value (.slice (some ⟨k, Nat.add o (Nat.mul l es), none⟩) (Nat.sub u l) es) h) .fail
      | _, _, _ => .fail)
    | _ => .fail)
  | _ => .fail
noncomputable def opSlice (e : En) (h : Hp) (t : TypeId) (x : Operand) (lo hi mx : Option Operand) : Out :=
  match ev G e x, mx with
  | some a, none => sliceV P G e h t lo hi a
  | _, _ => .fail
noncomputable def opFieldAddr (e : En) (h : Hp) (s : TypeId) (x : Operand) (f : Nat) : Out :=
  match ev G e x, P.underlying s with
  | some (.pointer (some ⟨k, o, none⟩)), some (.struct fs) => (match fs[f]? with
    | some fd => (match size P fd.type with
      | some n => cond (Nat.blt 0 n) (outP h k (Nat.add o fd.offset)) .fail
      | none => .fail)
    | none => .fail)
  | _, _ => .fail
noncomputable def idxV (h : Hp) (t : TypeId) (i : Nat) : Value → Out
  | .slice (some ⟨k, o, none⟩) n es => (match elemOf P t with
    | some el => (match size P el with
      | some m => cond (Nat.blt i n && Nat.beq m es) (outP h k (Nat.add o (Nat.mul i es))) .fail
      | none => .fail)
    | none => .fail)
  | .pointer (some ⟨k, o, none⟩) => (match P.underlying t with
    | some (.array n el) => (match size P el with
      | some es => cond (Nat.blt i n) (outP h k (Nat.add o (Nat.mul i es))) .fail
      | none => .fail)
    | _ => .fail)
  | _ => .fail
noncomputable def opIndexAddr (e : En) (h : Hp) (t : TypeId) (x ix : Operand) : Out :=
  match ev G e x, ev G e ix with
  | some a, some (.int _ (.ofNat i)) => idxV P h t i a
  | _, _ => .fail
noncomputable def opIndex (e : En) (h : Hp) (t : TypeId) (x ix : Operand) : Out :=
  match ev G e x, ev G e ix with
  | some a, some i => cond (scalar a && scalar i) (.ofV h (pureS P (Instr.index t a i))) .fail
  | _, _ => .fail
/-- a part of a struct's value -/
noncomputable def partV (t : TypeId) (l : List Value) (off : Nat) : Option Value := match agg P t, size P t with
  | some true, some n => (match cut l off n with | some r => some (.agg ⟨r⟩) | none => none)
  | some false, _ => l[off]?
  | _, _ => none
noncomputable def fieldV (s : TypeId) (f : Nat) : Value → Option Value
  | .agg a => (match P.underlying s with
    | some (.struct fs) => (match fs[f]? with
      | some fd => partV P fd.type a.toList fd.offset
      | none => none)
    | _ => none)
  | _ => none
noncomputable def opField (e : En) (h : Hp) (s : TypeId) (x : Operand) (f : Nat) : Out :=
  match ev G e x with
  | some a => .ofV h (fieldV P s f a)
  | none => .fail
noncomputable def opExtract (e : En) (h : Hp) (t : Operand) (ix : Nat) : Out :=
  match ev G e t with
  | some (.tuple vs) => .ofV h vs[ix]?
  | _ => .fail
def assertNo (h : Hp) (t : TypeId) (ok : Bool) : Out := match ok, zero P t with
  | true, some z => .value (.tuple #[z, .bool false]) h
  | _, _ => .fail
def assertV (h : Hp) (t : TypeId) (ok : Bool) : Value → Out
  | .iface t' v => cond (Nat.beq t' t) (.value (cond ok (.tuple #[v, .bool true]) v) h) (assertNo P h t ok)
  | .nilIface => assertNo P h t ok
  | _ => .fail
noncomputable def opAssert (e : En) (h : Hp) (x : Operand) (t : TypeId) (ok : Bool) : Out :=
  match ev G e x, P.underlying t with
  | some _, some (.interface _) => .fail
  | some a, some _ => assertV P h t ok a
  | _, _ => .fail
noncomputable def findK (d : TypeDesc) (k : Value) (l : List (Value × Value)) : Option (Option Value) :=
  List.rec (some none) (fun p _ ih => match Instr.sameNow d k p.1 with
    | some true => some (some p.2)
    | some false => ih
    | none => none) l
noncomputable def putK (d : TypeDesc) (k v : Value) (l : List (Value × Value)) : Option (List (Value × Value)) :=
  List.rec (some [(k, v)]) (fun p l ih => match Instr.sameNow d k p.1 with
    | some true => some ((k, v) :: l)
    | some false => (match ih with | some r => some (p :: r) | none => none)
    | none => none) l
/-- the kind of a map's keys, and the type of its elements -/
def mapTy (t : TypeId) : Option (TypeDesc × TypeId) := match P.underlying t with
  | some (.map key el) => (match P.underlying key with | some .string => some (.string, el) | some (.int k) => some (.int k, el) | _ => none)
  | _ => none
noncomputable def opLookup (e : En) (h : Hp) (t : TypeId) (x k : Operand) (ok : Bool) : Out :=
  match ev G e x, ev G e k, mapTy P t with
  | some (.map (some r)), some k, some (d, el) => (match h.t.get r, zero P el with
    | some (.map es), some z => (match findK d k es with
      | some (some v) => .value (cond ok (.tuple #[v, .bool true]) v) h
      | some none => .value (cond ok (.tuple #[z, .bool false]) z) h
      | none => .fail)
    | _, _ => .fail)
  | _, _, _ => .fail
noncomputable def opMapUpdate (e : En) (h : Hp) (t : TypeId) (m k x : Operand) : Out :=
  match ev G e m, ev G e k, ev G e x with
  | some (.map (some r)), some k, some v => (match h.t.get r, mapTy P t with
    | some (.map es), some (d, _) => (match cond (scalar k) (putK d k v es) none with
      | some es => .value undef (h.set r (.map es))
      | none => .fail)
    | _, _ => .fail)
  | _, _, _ => .fail
noncomputable def appX (h : Hp) (es : Nat) : Value → Option (List Value)
  | .slice none _ _ => some []
  | .slice (some ⟨k, o, none⟩) m es' => cond (Nat.beq es es') (h.rd k o (Nat.mul m es)) none
  | .string s => cond (Nat.beq es 1) (some (s.data.toList.map fun b => Value.int .u8 b.toNat)) none
  | _ => none
noncomputable def appTo (h : Hp) (es n c : Nat) (vs : List Value) (m : Nat) : Option Addr → Out
  | none => outRow h vs m es
  | some ⟨k, o, none⟩ => (match h.t.get k with
    | some (.cells us) => (match cut us o (Nat.mul n es) with
      | some old => cond (vs.all one && Nat.beq c es) (outRow (h.set k .dead) (old ++ vs) m es) .fail
      | none => .fail)
    | _ => .fail)
  | _ => .fail
noncomputable def appBody (h : Hp) (el : TypeId) (a : Option Addr) (n c : Nat) (x : Value) : Out :=
  match size P el, zero P el, P.info? el with
  | some es, some z, some i => cond (Nat.blt 0 es && Nat.beq z.cells.size es && Nat.ble i.bytes 4096) (match appX h es x with
    | none => .fail
    | some [] => .value (.slice a n c) h
    | some vs => cond (Nat.ble (Nat.add n (Nat.div vs.length es)) 16777216) (appTo h es n c vs (Nat.add n (Nat.div vs.length es)) a) .fail) .fail
  | _, _, _ => .fail
def sliceOrString (t : TypeId) : Bool := match P.underlying t with
  | some (.slice _) => true
  | some .string => true
  | _ => false
noncomputable def opAppend (h : Hp) (argTypes : Array TypeId) : List Value → Out
  | [.slice a n c, x] => (match argTypes[0]?, argTypes[1]? with
    | some st, some xt => (match elemOf P st with
      | some el => cond (sliceOrString P xt) (appBody P h el a n c x) .fail
      | none => .fail)
    | _, _ => .fail)
  | _ => .fail
noncomputable def opCopy (h : Hp) (argTypes : Array TypeId) : List Value → Out
  | [.slice (some ⟨k, o, none⟩) n _, .slice (some ⟨k', o', none⟩) n' _] => (match argTypes[0]? with
    | some st => (match elemOf P st with
      | some el => (match size P el with
        | some es => (let m := cond (Nat.ble n' n) n' n
          cond (Nat.beq m 0) (.value (.int .i64 0) h) (match h.rd k' o' (Nat.mul m es) with
          | some vs => (match h.wr k o vs with | some h => .value (.int .i64 m) h | none => .fail)
          | none => .fail))
        | none => .fail)
      | none => .fail)
    | none => .fail)
  | _ => .fail
noncomputable def opLen (h : Hp) (argTypes : Array TypeId) : List Value → Out
  | [.slice _ n _] => (match argTypes[0]? with
    | some t => (match P.underlying t with | some (.slice _) => .value (.int .i64 n) h | _ => .fail)
    | none => .fail)
  | [.string s] => (match argTypes[0]? with
    | some t => (match P.underlying t with | some .string => .value (.int .i64 s.data.toList.length) h | _ => .fail)
    | none => .fail)
  | _ => .fail
noncomputable def repV (c : Value) (n : Nat) : List Value := Nat.rec [] (fun _ ih => c :: ih) n
/-- clear, of a slice whose elements have one cell each -/
noncomputable def opClear (h : Hp) (argTypes : Array TypeId) : List Value → Out
  | [.slice (some ⟨k, o, none⟩) n _] => (match argTypes[0]? with
    | some st => (match elemOf P st with
      | some el => (match zero P el with
        | some z => (match z.cells.toList with
          | [c] => cond (Nat.beq n 0) (.value (.tuple #[]) h) (match h.wr k o (repV c n) with | some h => .value (.tuple #[]) h | none => .fail)
          | _ => .fail)
        | none => .fail)
      | none => .fail)
    | none => .fail)
  | _ => .fail
noncomputable def opBuiltin (h : Hp) (b : Builtin) (argTypes : Array TypeId) (type : TypeId) (args : List Value) : Out :=
  match b with
  | .len => opLen P h argTypes args
  | .append => opAppend P h argTypes args
  | .copy => opCopy P h argTypes args
  | .clear => opClear P h argTypes args
  | .min => cond (args.all scalar) (.ofV h (pureS P (Builtin.min_ argTypes type args.toArray))) .fail
  | .max => cond (args.all scalar) (.ofV h (pureS P (Builtin.max_ argTypes type args.toArray))) .fail
  | _ => .fail
def callV (args : List Value) : Option Value → Out
  | some (.func (.func f) first captured) => .call f (first.toList ++ (args ++ captured.toList))
  | some (.func (.yield l) first _) => .round l (first.toList ++ args)
  | _ => .fail
noncomputable def opCall (e : En) (h : Hp) (c : Call) (type : TypeId) : Out :=
  match evs G e c.args.toList with
  | none => .fail
  | some args => (match c.callee with
    | .builtin b => (match opBuiltin P h b c.argTypes type args with | .value v h => .value v h | _ => .fail)
    | .value f => callV args (ev G e f)
    | .invoke _ _ => .fail)

noncomputable def opS (e : En) (h : Hp) (op : Op) : Out :=
  match op with
  | .move x => .ofV h (ev G e x)
  | .assign x => .ofV h (ev G e x)
  | .pick c a b => opPick e h c a b (ev G)
  | .alloc t => opAlloc P h t
  | .box _ x => opBox G e h x
  | .build t parts => opBuild P G e h t parts.toList
  | .buildSlice t len parts => opBuildSlice P G e h t len parts.toList
  | .load t a => (match ev G e a with | some p => .ofV h (ld P h t p) | none => .fail)
  | .store t a x => opStore P G e h t a x
  | .nilCheck x => nilCheckV h (ev G e x)
  | .binOp op t x y _ => opBin P G e h op t x y
  | .unOp op _ x => opUn P G e h op x
  | .convert src dst x => opConv P G e h src dst x
  | .makeInterface t x => opIface P G e h t x
  | .makeFunc fn first captured => opFunc G e h fn first.toList captured.toList
  | .makeMap t r => opMakeMap P G e h t r
  | .makeSlice t l c => opMakeSlice P G e h t l c
  | .slice t x lo hi mx => opSlice P G e h t x lo hi mx
  | .fieldAddr s x f => opFieldAddr P G e h s x f
  | .indexAddr t x ix => opIndexAddr P G e h t x ix
  | .index t x ix => opIndex P G e h t x ix
  | .lookup t x k ok => opLookup P G e h t x k ok
  | .mapUpdate t m k x => opMapUpdate P G e h t m k x
  | .extract t ix => opExtract G e h t ix
  | .field s x f => opField P G e h s x f
  | .typeAssert x _ t ok => opAssert P G e h x t ok
  | _ => .fail

def onlyV : Out → Out
  | .value v h => .value v h
  | _ => .fail
noncomputable def opC (e : En) (h : Hp) (o : Oper) : Out :=
  match o.op with
  | .call c => opCall P G e h c o.type
  | op => onlyV (opS P G e h op)

noncomputable def putD (e : En) (d : Option Tmp) (v : Value) : Option En :=
  match d with
  | some d => cond (Nat.blt d e.sz) (some ⟨e.sz, T.put v e.t d, e.mks⟩) none
  | none => some e

/-- is it to be done? none: not known -/
noncomputable def wantedC (all : Array Oper) (e : En) (g : Option (Nat × Bool)) : Option Bool :=
  match g with
  | none => some true
  | some (j, want) => (match all[j]? with
    | some o => (match o.dst with
      | some d => (match e.t.get d with
        | some (.bool b) => some (b == want)
        | some (.tuple _) => some false
        | _ => none)
      | none => none)
    | none => none)

noncomputable def opDone (call : FuncId → List Value → Hp → CRes) (round : Nat → List Value → Hp → CRes) (h : Hp) : Out → CRes
  | .value v h => .ok v h
  | .call f args => call f args h
  | .round l args => round l args h
  | .fail => .fail

noncomputable def oneOp (call : FuncId → List Value → Hp → CRes) (round : Nat → List Value → Hp → CRes) (all : Array Oper) (o : Oper) (e : En) (h : Hp) : CRes :=
  match wantedC all e o.guard with
  | some true => opDone call round h (opC P G e h o)
  | some false => .ok undef h
  | none => .fail

def emptyAgg : Value → Bool
  | .agg a => a.toList.isEmpty
  | _ => false
/-- a value that may be panicked with -/
def closedV : Value → Bool
  | .iface _ v => scalar v || emptyAgg v
  | _ => false
def deferV (args : List Value) : Option Value → Option DI
  | some (.func (.func f) first captured) => some (.call f (first.toList ++ (args ++ captured.toList)))
  | _ => none
noncomputable def panC (e : En) (h : Hp) : Option Value → Res
  | some v => cond (closedV v) (.ok (.pan v) e h) .fail
  | none => .fail
noncomputable def defC (e : En) (h : Hp) (d : Option Tmp) (ih : En → Hp → Res) : Option DI → Res
  | some x => (match putD ⟨e.sz, e.t, x :: e.mks⟩ d undef with | some e => ih e h | none => .fail)
  | none => .fail
/-- what is no operation like the others: a panic, a deferred call -/
noncomputable def spec0 (ro : Option Nat) (o : Oper) (e : En) (h : Hp) (ih : En → Hp → Res) : Res :=
  match o.op with
  | .panic x => panC e h (ev G e x)
  | .defer c => (match ro, c.callee, evs G e c.args.toList with
    | none, .value f, some args => defC e h o.dst ih (deferV args (ev G e f))
    | _, _, _ => .fail)
  | _ => .fail
noncomputable def specC (ro : Option Nat) (all : Array Oper) (o : Oper) (e : En) (h : Hp) (ih : En → Hp → Res) : Res :=
  match wantedC all e o.guard with
  | some true => spec0 G ro o e h ih
  | _ => .fail

noncomputable def runOps (ro : Option Nat) (call : FuncId → List Value → Hp → CRes) (round : Nat → List Value → Hp → CRes) (all : Array Oper) (l : List Oper) : En → Hp → Res :=
  List.rec (fun e h => .ok .normal e h) (fun o _ ih e h => match oneOp P G call round all o e h with
    | .ok v h => (match putD e o.dst v with | some e => ih e h | none => .fail)
    | .fail => specC G ro all o e h ih
    | .panic v h => .ok (.pan v) e h) l

noncomputable def envOf (l : List Value) : Nat → T Value → T Value :=
  List.rec (fun _ e => e) (fun v _ ih i e => ih (Nat.succ i) (T.put v e i)) l

noncomputable def resOf (e : En) (h : Hp) (l : List ResultVar) : Option (List Value) :=
  List.rec (some []) (fun r _ ih => match (match r with | .tmp t => e.t.get t | .cell a t => (match e.t.get a with | some p => ld P h t p | none => none) : Option Value) with
    | some v => (match ih with | some l => some (v :: l) | none => none)
    | none => none) l
def tupOf : List Value → Value
  | [v] => v
  | l => .tuple l.toArray

noncomputable def externC (f : FuncId) (args : List Value) (h : Hp) : CRes :=
  cond (args.all scalar) (match pureRun P (callFunc f args.toArray) with
    | some (.value v) => cond (scalar v) (.ok v h) .fail
    | _ => .fail) .fail

/-- at a function's end its loops' marks are taken away, and its deferred calls are run -/
noncomputable def leave (dc : FuncId → List Value → UM → Hp → Option (UM × Hp)) (l : List DI) : UM → Hp → Option (UM × Hp) :=
  List.rec (fun u h => some (u, h)) (fun d _ ih u h => match d with
    | .mark k => (match h.t.get k with
      | some .defs => ih u (h.set k .other)
      | _ => none)
    | .call f args => (match dc f args u h with
      | some (u, h) => ih (settleU u) h
      | none => none)) l
/-- an operation that neither reads nor changes memory -/
def slotOp : Op → Bool
  | .move _ => true
  | .assign _ => true
  | .pick _ _ _ => true
  | .binOp _ _ _ _ _ => true
  | .unOp _ _ _ => true
  | .extract _ _ => true
  | .field _ _ _ => true
  | .fieldAddr _ _ _ => true
  | .indexAddr _ _ _ => true
  | .nilCheck _ => true
  | .makeFunc _ _ _ => true
  | .makeInterface _ _ => true
  | .build _ _ => true
  | .index _ _ _ => true
  | .typeAssert _ _ _ _ => true
  | .call { callee := .builtin .len, .. } => true
  | .call { callee := .builtin .min, .. } => true
  | .call { callee := .builtin .max, .. } => true
  | _ => false
/-- the first one always comes ahead of the second -/
def ahead (ops : Array Oper) (i j : Nat) : Bool := ((Region.before ops)[j]?.getD 0).testBit i
def loadStore : Op → Bool
  | .load _ _ => true
  | .store _ _ _ => true
  | _ => false
def isLoad : Op → Bool
  | .load _ _ => true
  | _ => false
/-- an operation that makes a block and neither reads nor changes another -/
def isNew : Op → Bool
  | .alloc _ => true
  | .box _ _ => true
  | .buildSlice _ _ _ => true
  | .makeMap _ _ => true
  | .makeSlice _ _ _ => true
  | _ => false
/-- an operation that changes memory: every other one that reads or changes memory, loads and new blocks apart, is always ahead of it, or always behind it -/
def barrier (ops : Array Oper) (i : Nat) : Bool :=
  (List.range ops.size).all fun j => j == i || (match ops[j]? with | some o => slotOp o.op || isLoad o.op || isNew o.op | none => true) || ahead ops i j || ahead ops j i
/-- a store: the same, loads and stores apart -/
def barrierS (ops : Array Oper) (i : Nat) : Bool :=
  (List.range ops.size).all fun j => j == i || (match ops[j]? with | some o => slotOp o.op || loadStore o.op | none => true) || ahead ops i j || ahead ops j i
/-- whatever order is drawn, each operation finds the same in its temporaries -/
def drawOk (ops : Array Oper) : Bool :=
  (List.range ops.size).all fun j => match ops[j]? with
    | some y => y.after.all (fun e => !Region.binds .any e || e.on < j) && (List.range j).all fun i => match ops[i]? with
      | some x => ahead ops i j || Oper.apart ops x y
      | none => false
    | none => false

/-- the block that a load or a store touches; true: a store -/
noncomputable def touch (e : En) : Op → Option (Bool × Nat)
  | .load _ a => (match ev G e a with | some (.pointer (some ⟨k, _, _⟩)) => some (false, k) | _ => none)
  | .store _ a _ => (match ev G e a with | some (.pointer (some ⟨k, _, _⟩)) => some (true, k) | _ => none)
  | _ => none
noncomputable def eqB (l : List UInt8) : List UInt8 → Bool :=
  List.rec (fun r => match r with | [] => true | _ => false) (fun x _ ih r => match r with | [] => false | y :: r => and (Nat.beq x.toNat y.toNat) (ih r)) l
/-- the same value, as far as it is told -/
noncomputable def eqV : Value → Value → Bool
  | .bool a, .bool b => cond a b (not b)
  | .int k a, .int k' b => (match a, b with | .ofNat m, .ofNat n => and (Nat.beq m n) (decide (k = k')) | .negSucc m, .negSucc n => and (Nat.beq m n) (decide (k = k')) | _, _ => false)
  | .pointer (some ⟨k, o, none⟩), .pointer (some ⟨k', o', none⟩) => and (Nat.beq k k') (Nat.beq o o')
  | .pointer none, .pointer none => true
  | .slice (some ⟨k, o, none⟩) n c, .slice (some ⟨k', o', none⟩) n' c' => and (and (Nat.beq k k') (Nat.beq o o')) (and (Nat.beq n n') (Nat.beq c c'))
  | .slice none n c, .slice none n' c' => and (Nat.beq n n') (Nat.beq c c')
  | .map (some k), .map (some k') => Nat.beq k k'
  | .map none, .map none => true
  | .nilFunc, .nilFunc => true
  | .func (.func f) ⟨[]⟩ ⟨[]⟩, .func (.func f') ⟨[]⟩ ⟨[]⟩ => Nat.beq f f'
  | .nilIface, .nilIface => true
  | .string a, .string b => eqB a.data.toList b.data.toList
  | _, _ => false
noncomputable def eqL (l : List Value) : List Value → Bool :=
  List.rec (fun r => match r with | [] => true | _ => false) (fun x _ ih r => match r with | [] => false | y :: r => and (eqV x y) (ih r)) l
/-- the same block -/
noncomputable def sameO : Option LObj → Option LObj → Bool
  | some (.cells a), some (.cells b) => eqL a b
  | some (.ro a), some (.ro b) => eqL a b
  | _, _ => false
/-- what was done: a load, a store, what may have changed more -/
inductive AE where
  | ld (k : Nat)
  | st (k : Nat)
  | nw (k : Nat)
  | ch (h h' : Hp)
noncomputable def aeOk (st : Bool) (k : Nat) : AE → Bool
  | .ld k' => !st || !Nat.beq k' k
  | .st k' => !Nat.beq k' k
  | .nw _ => true
  | .ch h h' => sameO (h.t.get k) (h'.t.get k)
/-- loads and stores that may come in either order touch different blocks, where one is a store; and what may have changed more left this one as it was -/
noncomputable def accOk (ops : Array Oper) (i : Nat) (st : Bool) (k : Nat) (acc : List (Nat × AE)) : Bool :=
  acc.all fun x => aeOk st k x.2 || ahead ops x.1 i
noncomputable def aeB (h h' : Hp) : AE → Bool
  | .ld k => sameO (h.t.get k) (h'.t.get k)
  | .nw k => sameO (h.t.get k) (h'.t.get k)
  | _ => true
/-- what changes more leaves as they were the blocks of the loads that may come behind it -/
noncomputable def accB (ops : Array Oper) (i : Nat) (h h' : Hp) (acc : List (Nat × AE)) : Bool :=
  acc.all fun x => aeB h h' x.2 || ahead ops x.1 i

noncomputable def drawRest (ops : Array Oper) (i : Nat) (h : Hp) (acc : List (Nat × AE)) : CRes → CRes
  | .ok v h' => cond (Nat.ble h.n h'.low || (barrier ops i && accB ops i h h' acc)) (.ok v ⟨h'.n, h'.t, cond (Nat.ble h.low h'.low) h.low h'.low⟩) .fail
  | _ => .fail

noncomputable def drawOne (call : FuncId → List Value → Hp → CRes) (round : Nat → List Value → Hp → CRes) (ops : Array Oper) (i : Nat) (o : Oper) (e : En) (h : Hp) (acc : List (Nat × AE)) : Option (Bool × Nat) → CRes
  | some (st, k) => cond (accOk ops i st k acc && (!st || barrierS ops i)) (opDone call round h (opC P G e h o)) .fail
  | none => cond (loadStore o.op) .fail (drawRest ops i h acc (opDone call round ⟨h.n, h.t, h.n⟩ (opC P G e ⟨h.n, h.t, h.n⟩ o)))
noncomputable def accPut (i : Nat) (acc : List (Nat × AE)) (h h' : Hp) (slot new : Bool) : Option (Bool × Nat) → List (Nat × AE)
  | some (false, k) => (i, .ld k) :: acc
  | some (true, k) => (i, .st k) :: acc
  | none => cond slot acc (cond new ((i, .nw h.n) :: acc) ((i, .ch h h') :: acc))

noncomputable def runDrawn (call : FuncId → List Value → Hp → CRes) (round : Nat → List Value → Hp → CRes) (ops : Array Oper) (l : List Oper) : Nat → List (Nat × AE) → En → Hp → Res :=
  List.rec (fun _ _ e h => .ok .normal e h) (fun o _ ih i acc e h => match wantedC ops e o.guard with
    | some true => (match drawOne P G call round ops i o e h acc (touch G e o.op) with
      | .ok v h' => (match putD e o.dst v with | some e' => ih (Nat.succ i) (accPut i acc h h' (slotOp o.op) (isNew o.op) (touch G e o.op)) e' h' | none => .fail)
      | _ => .fail)
    | some false => (match putD e o.dst undef with | some e' => ih (Nat.succ i) acc e' h | none => .fail)
    | none => .fail) l

/-- is it recover? -/
def isRecover : Op → Bool
  | .call { callee := .builtin .recover, .. } => true
  | _ => false
/-- what recover answers, and what it leaves -/
def recoverU : UM → Option (Value × UM)
  | .pn v => cond (closedV v) (some (v, .dn v)) none
  | u => some (.nilIface, u)
noncomputable def recOps (all : Array Oper) (l : List Oper) : UM → En → Hp → Option (UM × En × Hp) :=
  List.rec (fun u e h => some (u, e, h)) (fun o _ ih u e h => match wantedC all e o.guard with
    | some true => cond (isRecover o.op) (match recoverU u with
          | some (v, u) => (match putD e o.dst v with | some e => ih u e h | none => none)
          | none => none)
        (match opC P G e h o with
        | .value v h => (match putD e o.dst v with | some e => ih u e h | none => none)
        | _ => none)
    | some false => (match putD e o.dst undef with | some e => ih u e h | none => none)
    | none => none) l
/-- the body of a deferred call: recover may stand in what comes first -/
noncomputable def recC (ih : Option Nat → Code → En → Hp → Res) (u : UM) (e : En) (h : Hp) (c : Code) : Option (UM × Res) :=
  match c with
  | .seq a b => (match recC ih u e h a with
    | some (u, .ok .normal e h) => recC ih u e h b
    | r => r)
  | .region _ ops false => (match recOps P G ops ops.toList u e h with
    | some (u, e, h) => some (u, .ok .normal e h)
    | none => some (u, ih none c e h))
  | c => some (u, ih none c e h)
noncomputable def recEnd (rs : List ResultVar) : Option (UM × Res) → Option (UM × Hp)
  | some (u, .ok .ret ⟨sz, t, []⟩ h) => (match resOf P ⟨sz, t, []⟩ h rs with | some _ => some (u, h) | none => none)
  | some (u, .ok .normal ⟨sz, t, []⟩ h) => (match resOf P ⟨sz, t, []⟩ h rs with | some _ => some (u, h) | none => none)
  | _ => none
noncomputable def deferC (ih : Option Nat → Code → En → Hp → Res) (f : FuncId) (args : List Value) (u : UM) (h : Hp) : Option (UM × Hp) :=
  match P.funcs[f]? with
  | none => none
  | some fn => (match fn.body with
    | none => none
    | some c => cond (Nat.ble args.length fn.ntmps) (recEnd P fn.results.toList (recC P G ih u ⟨fn.ntmps, envOf args 0 .nil, []⟩ h c)) none)

noncomputable def endL (rs : List ResultVar) (e : En) : Option (UM × Hp) → CRes
  | some (.rt, h) => (match resOf P e h rs with
    | some l => .ok (tupOf l) h
    | none => .fail)
  | some (.pn v, h) => .panic v h
  | _ => .fail
noncomputable def endC (ih : Option Nat → Code → En → Hp → Res) (rs : List ResultVar) : Res → CRes
  | .ok .ret e h => endL P rs e (leave (deferC P G ih) e.mks .rt h)
  | .ok .normal e h => endL P rs e (leave (deferC P G ih) e.mks .rt h)
  | .ok (.pan v) e h => endL P rs e (leave (deferC P G ih) e.mks (.pn v) h)
  | _ => .fail
noncomputable def callC0 (ih : Option Nat → Code → En → Hp → Res) (f : FuncId) (args : List Value) (h : Hp) : CRes :=
  match P.funcs[f]? with
  | none => .fail
  | some fn => (match fn.body with
    | none => externC P f args h
    | some c => cond (Nat.ble args.length fn.ntmps) (endC P G ih fn.results.toList (ih none c ⟨fn.ntmps, envOf args 0 .nil, []⟩ h)) .fail)
noncomputable def callC (ih : Option Nat → Code → En → Hp → Res) (f : FuncId) (args : List Value) (h : Hp) : CRes :=
  match G.stub f with
  | some g => (match g args h with
    | some r => r
    | none => callC0 P G ih f args h)
  | none => callC0 P G ih f args h

noncomputable def putPs (ps : List Tmp) : List Value → En → Option En :=
  List.rec (fun vs e => match vs with | [] => some e | _ => none) (fun t _ ih vs e => match vs with
    | v :: vs => (match putD e (some t) v with | some e => ih vs e | none => none)
    | [] => none) ps

noncomputable def roundEnd (l : Nat) : Res → CRes
  | .ok x _ h => (match h.t.get l with
    | some (.loop _ _ e ps as bd) => (match x with
      | .normal => .ok (.bool true) (h.set l (.loop false none e ps as bd))
      | .ret => .ok (.bool false) (h.set l (.loop true (some .ret) e ps as bd))
      | .exit i => .ok (.bool false) (h.set l (.loop true (some (.exit i)) e ps as bd))
      | .pan _ => .fail)
    | _ => .fail)
  | .fail => .fail

noncomputable def roundMid (ih : Option Nat → Code → En → Hp → Res) (l : Nat) (bd : Code) : Res → CRes
  | .ok .normal e2 h => (match h.t.get l with
    | some (.loop false _ e ps as bd') => roundEnd l (ih (some l) bd e2 (h.set l (.loop true none e ps as bd')))
    | _ => .fail)
  | _ => .fail

noncomputable def roundC (ih : Option Nat → Code → En → Hp → Res) (l : Nat) (args : List Value) (h : Hp) : CRes :=
  match h.t.get l with
  | some (.loop false _ e ps as bd) => (match putPs ps args ⟨e.sz, e.t, []⟩ with
    | none => .fail
    | some e1 => roundMid ih l bd (ih (some l) as e1 h))
  | _ => .fail

noncomputable def rangeEnd (ih : Option Nat → Code → En → Hp → Res) (ro : Option Nat) (l : Nat) (e : En) : CRes → Res
  | .ok _ h => (match h.t.get l with
    | some (.loop false none _ _ _ _) => .ok .normal e (h.set l .other)
    | some (.loop true (some c) _ _ _ _) => ih ro c e (h.set l .other)
    | _ => .fail)
  | _ => .fail

noncomputable def rangeC (ih : Option Nat → Code → En → Hp → Res) (ro : Option Nat) (f : Operand) (ps : List Tmp) (as bd : Code) (e : En) (h : Hp) : Res :=
  match ev G e f with
  | some (.func (.func f) first captured) => (match ro with
    | none => (let h1 := (h.new .defs).new (.loop false none ⟨e.sz, e.t, []⟩ ps as bd)
      rangeEnd ih ro (Nat.succ h.n) ⟨e.sz, e.t, .mark h.n :: e.mks⟩ (callC P G ih f (first.toList ++ (.func (.yield (Nat.succ h.n)) #[] #[] :: captured.toList)) h1))
    | some l => (match h.t.get l with
      | some (.loop _ _ _ _ _ _) => (let h1 := h.new (.loop false none ⟨e.sz, e.t, []⟩ ps as bd)
        rangeEnd ih ro h.n e (callC P G ih f (first.toList ++ (.func (.yield h.n) #[] #[] :: captured.toList)) h1))
      | _ => .fail))
  | _ => .fail

noncomputable def condC (ih : Option Nat → Code → En → Hp → Res) (ro : Option Nat) (a b : Code) (e : En) (h : Hp) : Option Value → Res
  | some (.bool true) => ih ro a e h
  | some (.bool false) => ih ro b e h
  | _ => .fail
noncomputable def thenC (ih : Option Nat → Code → En → Hp → Res) (ro : Option Nat) (b : Code) : Res → Res
  | .ok .normal e h => ih ro b e h
  | r => r
def blockC (id : Nat) : Res → Res
  | .ok (.exit i) e h => cond (Nat.beq i id) (.ok .normal e h) (.ok (.exit i) e h)
  | r => r

/-! A range over a map: it is run in every order, and what all of them leave alike is kept. -/
/-- the last one, and those ahead of it -/
noncomputable def lastOf (l : List Oper) : Option (List Oper × Oper) :=
  List.rec none (fun o _ ih => match ih with | some p => some (o :: p.1, p.2) | none => some ([], o)) l
/-- a range over a map -/
structure MF where
  pre : List Oper
  all : Array Oper
  t : TypeId
  x : Operand
  it : Tmp
  out : Nat
  tn : Tmp
  tm : Tmp
  nx : Nat
  te : Tmp
  asg : Array Oper
  code : Code
def rangeOf : Oper → Option (Tmp × TypeId × Operand)
  | ⟨some it, .range t x, _, _, _, none⟩ => some (it, t, x)
  | _ => none
def stepOf : List Oper → Option (Tmp × Tmp × Tmp)
  | [⟨some tn, .next (.tmp i) false, _, _, _, none⟩, ⟨some tm, .extract (.tmp n) 0, _, _, _, none⟩] => cond (Nat.beq n tn) (some (tn, i, tm)) none
  | _ => none
def entryOf : List Oper → Option (Tmp × Tmp)
  | ⟨some te, .entry (.tmp i), _, _, _, none⟩ :: _ => some (te, i)
  | _ => none
noncomputable def mapOf2 (ops st asg : Array Oper) (out nx : Nat) (more out' : Nat) (code : Code) : Option MF :=
  match lastOf ops.toList with
  | some (pre, o) => (match rangeOf o, stepOf st.toList, entryOf asg.toList with
    | some (it, t, x), some (tn, i1, tm), some (te, i2) => cond ((Nat.beq i1 it && Nat.beq i2 it) && (Nat.beq more tm && Nat.beq out' out)) (some ⟨pre, ops, t, x, it, out, tn, tm, nx, te, asg, code⟩) none
    | _, _, _ => none)
  | none => none
noncomputable def mapOf (a b : Code) : Option MF :=
  match b with
  | .block out (.loop (.seq (.region _ st false) (.seq (.cond (.tmp more) .skip (.exit out')) (.block nx (.seq (.region _ asg false) code))))) => (match a with
    | .region _ ops false => mapOf2 ops st asg out nx more out' code
    | _ => none)
  | _ => none
/-- operations, none of which ends what it stands in -/
noncomputable def preOps (call : FuncId → List Value → Hp → CRes) (round : Nat → List Value → Hp → CRes) (all : Array Oper) (l : List Oper) : En → Hp → Option (En × Hp) :=
  List.rec (fun e h => some (e, h)) (fun o _ ih e h => match oneOp P G call round all o e h with
    | .ok v h => (match putD e o.dst v with | some e => ih e h | none => none)
    | _ => none) l
/-- each one, with the others -/
noncomputable def picks (l : List (Value × Value)) : List ((Value × Value) × List (Value × Value)) :=
  List.rec [] (fun x l ih => (x, l) :: ih.map fun p => (p.1, x :: p.2)) l
/-- the ends of all orders -/
noncomputable def expl (rin : Value → Value → En → Hp → Res) (rout : En → Hp → Res) (n : Nat) : List (Value × Value) → En → Hp → List Res :=
  Nat.rec (fun _ e h => [rout e h]) (fun _ ih l e h => (picks l).flatMap fun p => match rin p.1.1 p.1.2 e h with
    | .ok .normal e h => ih p.2 e h
    | r => [r]) n
noncomputable def eqW : Value → Value → Bool
  | .agg a, .agg b => eqL a.toList b.toList
  | .tuple a, .tuple b => eqL a.toList b.toList
  | a, b => eqV a b
noncomputable def takePr (x : Value × Value) (l : List (Value × Value)) : Option (List (Value × Value)) :=
  List.rec none (fun y l ih => cond (eqV x.1 y.1 && eqW x.2 y.2) (some l) (match ih with | some r => some (y :: r) | none => none)) l
noncomputable def permB (l : List (Value × Value)) : List (Value × Value) → Bool :=
  List.rec (fun r => r.isEmpty) (fun x _ ih r => match takePr x r with | some r => ih r | none => false) l
noncomputable def likeO : Option LObj → Option LObj → Bool
  | some (.map a), some (.map b) => permB a b
  | a, b => sameO a b
/-- what all of them show at a block -/
noncomputable def likeAll (o : LObj) (k : Nat) (l : List (Ex × En × Hp)) : Bool :=
  List.rec true (fun p _ ih => and (likeO (some o) (p.2.2.t.get k)) ih) l
noncomputable def meetO (a : Option LObj) (k : Nat) (l : List (Ex × En × Hp)) : LObj :=
  match a with | some o => cond (likeAll o k l) o .other | none => .other
noncomputable def meetT (a : T LObj) (l : List (Ex × En × Hp)) (ks : List Nat) : T LObj → T LObj :=
  List.rec (fun t => t) (fun k _ ih t => ih (T.put (meetO (a.get k) k l) t k)) ks
noncomputable def sameAll (v : Value) (k : Nat) (l : List (Ex × En × Hp)) : Bool :=
  List.rec true (fun p _ ih => and (match p.2.1.t.get k with | some u => eqW v u | none => false) ih) l
noncomputable def meetV (a : T Value) (l : List (Ex × En × Hp)) (ks : List Nat) : T Value → T Value :=
  List.rec (fun t => t) (fun k _ ih t => ih (match a.get k with | some v => cond (sameAll v k l) (T.put v t k) t | none => t)) ks
noncomputable def eqM (l : List DI) : List DI → Bool :=
  List.rec (fun r => r.isEmpty) (fun x _ ih r => match x, r with | .mark a, .mark b :: r => and (Nat.beq a b) (ih r) | _, _ => false) l
def sameX : Ex → Ex → Bool
  | .normal, .normal => true
  | .ret, .ret => true
  | .exit i, .exit j => Nat.beq i j
  | _, _ => false
noncomputable def endsOk (x : Ex) (e : En) (l : List (Ex × En × Hp)) : Bool :=
  List.rec true (fun p _ ih => and (and (sameX x p.1) (and (Nat.beq e.sz p.2.1.sz) (eqM e.mks p.2.1.mks))) ih) l
noncomputable def minN (a b : Nat) : Nat := cond (Nat.ble a b) a b
noncomputable def maxN (a b : Nat) : Nat := cond (Nat.ble a b) b a
noncomputable def lowL (n0 : Nat) (l : List (Ex × En × Hp)) : Nat := List.rec n0 (fun p _ ih => minN p.2.2.low ih) l
noncomputable def topL (n0 : Nat) (l : List (Ex × En × Hp)) : Nat := List.rec n0 (fun p _ ih => maxN p.2.2.n ih) l
noncomputable def okL (l : List Res) : Option (List (Ex × En × Hp)) :=
  List.rec (some []) (fun r _ ih => match r, ih with | .ok x e h, some l => some ((x, e, h) :: l) | _, _ => none) l
noncomputable def meetR (h0 : Hp) (x : Ex) (e : En) (h : Hp) (l : List (Ex × En × Hp)) : Res :=
  cond (endsOk x e l) (.ok x ⟨e.sz, meetV e.t l (List.range e.sz) .nil, e.mks⟩ ⟨topL h0.n l, meetT h.t l (List.range' (lowL h0.n l) (Nat.sub (topL h0.n l) (lowL h0.n l))) h0.t, lowL h0.n l⟩) .fail
noncomputable def mergeL (h0 : Hp) (l : List Res) : Res :=
  match l with
  | [] => .fail
  | [r] => r
  | r :: rs => (match r, okL (r :: rs) with | .ok x e h, some l => meetR h0 x e h l | _, _ => .fail)
/-- does the iterator stand where it is looked for? -/
noncomputable def itOk (ki : Nat) : Option Value → Bool
  | some (.pointer (some ⟨k, 0, none⟩)) => Nat.beq k ki
  | _ => false
noncomputable def rOut (m : MF) (ki : Nat) (e : En) (h : Hp) : Res :=
  cond (itOk ki (e.t.get m.it)) (match putD e (some m.tn) (.tuple #[.bool false]) with
  | some e => (match putD e (some m.tm) (.bool false) with
    | some e => .ok (.exit m.out) e h
    | none => .fail)
  | none => .fail) .fail
noncomputable def rIn (call : FuncId → List Value → Hp → CRes) (round : Nat → List Value → Hp → CRes) (ih : Option Nat → Code → En → Hp → Res) (ro : Option Nat) (m : MF) (ki : Nat) (k v : Value) (e : En) (h : Hp) : Res :=
  cond (itOk ki (e.t.get m.it)) (match putD e (some m.tn) (.tuple #[.bool true, k, v]) with
  | some e => (match putD e (some m.tm) (.bool true) with
    | some e => cond (itOk ki (e.t.get m.it)) (match putD e (some m.te) (.tuple #[k, v]) with
      | some e => blockC m.nx (thenC ih ro m.code (runOps P G ro call round m.asg m.asg.toList.tail e h))
      | none => .fail) .fail
    | none => .fail)
  | none => .fail) .fail
noncomputable def mapEnd (out r : Nat) (es : List (Value × Value)) : Res → Res
  | .ok x e h => blockC out (.ok x e ⟨h.n, T.put (.map es) h.t r, h.low⟩)
  | .fail => .fail
noncomputable def mapGo (call : FuncId → List Value → Hp → CRes) (round : Nat → List Value → Hp → CRes) (ih : Option Nat → Code → En → Hp → Res) (ro : Option Nat) (m : MF) (r : Nat) (es : List (Value × Value)) (e : En) (h : Hp) : Res :=
  mapEnd m.out r es (mergeL h (expl (rIn P G call round ih ro m h.n) (rOut m h.n) es.length es e (h.new .other)))
noncomputable def mapC (call : FuncId → List Value → Hp → CRes) (round : Nat → List Value → Hp → CRes) (ih : Option Nat → Code → En → Hp → Res) (ro : Option Nat) (m : MF) (e : En) (h : Hp) : Res :=
  match preOps P G call round m.all m.pre e h with
  | some (e, h) => (match ev G e m.x, P.underlying m.t with
    | some (.map (some r)), some (.map _ _) => (match h.t.get r with
      | some (.map es) => (match putD e (some m.it) (.pointer (some ⟨h.n, 0, none⟩)) with
        | some e => mapGo P G call round ih ro m r es e ⟨h.n, T.put .other h.t r, h.low⟩
        | none => .fail)
      | _ => .fail)
    | _, _ => .fail)
  | none => .fail

noncomputable def stepC (ih : Option Nat → Code → En → Hp → Res) (ro : Option Nat) (c : Code) (e : En) (h : Hp) : Res :=
  match c with
  | .skip => .ok .normal e h
  | .label _ => .ok .normal e h
  | .seq a b => (match mapOf a b with
    | some m => mapC P G (callC P G ih) (roundC ih) ih ro m e h
    | none => thenC ih ro b (ih ro a e h))
  | .cond x a b => condC ih ro a b e h (ev G e x)
  | .block id b => blockC id (ih ro b e h)
  | .loop b => thenC ih ro (.loop b) (ih ro b e h)
  | .exit id => .ok (.exit id) e h
  | .ret => .ok .ret e h
  | .region _ ops false => runOps P G ro (callC P G ih) (roundC ih) ops ops.toList e h
  | .region _ ops true => cond (drawOk ops) (runDrawn P G (callC P G ih) (roundC ih) ops ops.toList 0 [] e h) .fail
  | .rangeFunc f ps as bd => rangeC P G ih ro f ps.toList as bd e h
  | _ => .fail

noncomputable def exec (n : Nat) : Option Nat → Code → En → Hp → Res :=
  Nat.rec (fun _ _ _ _ => .fail) (fun _ ih => stepC P G ih) n

noncomputable def callN (n : Nat) (f : FuncId) (args : List Value) (h : Hp) : CRes := callC P G (exec P G n) f args h

def isTrue : CRes → Bool
  | .ok (.bool true) _ => true
  | _ => false
end
end Cx
end Go.Proofs.YtkljlbilhcdjhaaGreatDoor
