/- Closed runs: a faster executor: what can be told of an operation ahead of its run is told once. -/
import Derived.Test.YtkljlbilhcdjhaaGreatDoorCx
import Derived.KernelRfl
import Derived.Test.YtkljlbilhcdjhaaGreatDoorCum
namespace Go.Proofs.YtkljlbilhcdjhaaGreatDoor
set_option linter.unusedVariables false
namespace Cx
open Go

/-! Lists, as the kernel goes over them cheapest. -/
noncomputable def lenN {α : Type} (l : List α) : Nat := List.rec 0 (fun _ _ ih => Nat.succ ih) l
noncomputable def hasN {α : Type} (l : List α) : Nat → Bool := List.rec (fun n => Nat.rec true (fun _ _ => false) n) (fun _ _ ih n => Nat.rec true (fun m _ => ih m) n) l
noncomputable def dropNt {α : Type} (l : List α) : Nat → List α := List.rec (fun _ => []) (fun x l ih n => Nat.rec (x :: l) (fun m _ => ih m) n) l
noncomputable def takeN {α : Type} (l : List α) : Nat → List α := List.rec (fun _ => []) (fun x _ ih n => Nat.rec [] (fun m _ => x :: ih m) n) l
noncomputable def cutF {α : Type} (l : List α) : Nat → Nat → Option (List α) :=
  List.rec (fun o n => Nat.rec (Nat.rec (some []) (fun _ _ => none) n) (fun _ _ => none) o) (fun x l ih o n => Nat.rec (Bool.rec none (some (takeN (x :: l) n)) (hasN (x :: l) n)) (fun m _ => ih m n) o) l
noncomputable def nthF {α : Type} (l : List α) : Nat → Option α := List.rec (fun _ => none) (fun x _ ih o => Nat.rec (some x) (fun m _ => ih m) o) l
/-- the list from sixteen places on, again and again: each but once -/
noncomputable def dropK {α : Type} (l : List α) (k : Nat) : List α := Nat.rec l (fun _ ih => dropNt ih 16) k
noncomputable def nthK {α : Type} (l : List α) (n : Nat) : Option α := nthF (dropK l (Nat.div n 16)) (Nat.mod n 16)
noncomputable def fitsF {α : Type} (l : List α) : List α → Bool := List.rec (fun r => List.rec true (fun _ _ _ => false) r) (fun _ _ ih r => List.rec true (fun _ r _ => ih r) r) l
noncomputable def dropF {α : Type} (l : List α) : List α → List α := List.rec (fun _ => []) (fun x l ih r => List.rec (x :: l) (fun _ r _ => ih r) r) l
noncomputable def appF {α : Type} (r l : List α) : List α := List.rec l (fun x _ ih => x :: ih) r
noncomputable def overF {α : Type} (l : List α) : Nat → List α → Option (List α) :=
  List.rec (fun o r => Nat.rec (List.rec (some []) (fun _ _ _ => none) r) (fun _ _ => none) o) (fun x l ih o r => Nat.rec (Bool.rec none (some (appF r (dropF (x :: l) r))) (fitsF (x :: l) r)) (fun m _ => Option.rec none (fun q => some (x :: q)) (ih m r)) o) l
noncomputable def oneF (v : Value) : Bool := @Value.casesOn (fun _ => Bool) v (fun _ => true) (fun _ _ => true) (fun _ _ => true) (fun _ _ _ => true) (fun _ => true) (fun _ => true) (fun _ _ _ => true) (fun _ => true) (fun _ => true) (fun _ _ _ => true) true (fun _ _ => true) true (fun _ => false) (fun _ => false)
noncomputable def allOne (l : List Value) : Bool := List.rec true (fun x _ ih => Bool.rec false ih (oneF x)) l
noncomputable def cellsF (v : Value) : List Value := match v with
  | .agg a => a.toList
  | v => [v]
noncomputable def rdF (h : Hp) (k o n : Nat) : Option (List Value) :=
  Option.rec none (fun q => LObj.casesOn (motive := fun _ => Option (List Value)) q (fun vs => cutF vs o n) (fun vs => cutF vs o n) (fun _ => none) none none none (fun _ => none) (fun _ _ _ _ _ _ => none)) (h.t.get k)
noncomputable def rd1F (h : Hp) (k o : Nat) : Option Value :=
  Option.rec none (fun q => LObj.casesOn (motive := fun _ => Option Value) q (fun vs => nthF vs o) (fun vs => nthF vs o) (fun _ => none) none none none (fun _ => none) (fun _ _ _ _ _ _ => none)) (h.t.get k)
/-- a memory whose lowest change is written out -/
noncomputable def fl (h : Hp) : Hp := Hp.rec (motive := fun _ => Hp) (fun n t low => Nat.rec (motive := fun _ => Hp) ⟨n, t, 0⟩ (fun m _ => ⟨n, t, Nat.succ m⟩) low) h
noncomputable def wrF (h : Hp) (k o : Nat) (vs : List Value) : Option Hp :=
  Option.rec none (fun q => LObj.casesOn (motive := fun _ => Option Hp) q (fun us => Bool.rec none (Option.rec none (fun q => some (fl (h.set k (.cells q)))) (overF us o vs)) (allOne vs)) (fun _ => none) (fun _ => none) none none none (fun _ => none) (fun _ _ _ _ _ _ => none)) (h.t.get k)
/-- An operand, told ahead. -/
inductive MA where
  | tmp (g : GF (T Value) (Option Value))
  | val (v : Value)
  | bad
/-- An operation, told ahead. -/
inductive M where
  | mv (x : MA) (p : PF (Option Value) (T Value))
  | v1 (x : MA) (F : Hp → Value → Option Value) (p : PF (Option Value) (T Value))
  | v2 (x y : MA) (F : Hp → Value → Value → Option Value) (p : PF (Option Value) (T Value))
  | pk (c x y : MA) (p : PF (Option Value) (T Value))
  | nw (z : List Value) (p : PF (Option Value) (T Value))
  | bx (x : MA) (p : PF (Option Value) (T Value))
  | st (n : Nat) (x y : MA)
  | cl (f : FuncId) (l : List MA) (p : Option (PF (Option Value) (T Value)))
  | bd (l : List (MA × Nat × Nat)) (z : List Value) (p : PF (Option Value) (T Value))
  | mo (l : List MA) (F : List Value → Hp → Out) (p : PF (Option Value) (T Value))
  | cv (x : MA) (l : List MA) (p : Option (PF (Option Value) (T Value)))
  | gen (o : Oper)
  | gd (g : GF (T Value) (Option Value)) (want : Bool) (m : M) (p : Option (PF (Option Value) (T Value)))
abbrev Kk := T Value → Hp → Res

noncomputable def evK (x : MA) (t : T Value) (k : Value → Res) : Res :=
  MA.rec (motive := fun _ => Res) (fun g => Option.rec .fail k (GF.rec (fun g => g t) g)) (fun v => k v) .fail x
noncomputable def pK (p : PF (Option Value) (T Value)) (ih : Kk) (v : Value) (t : T Value) (h : Hp) : Res := PF.rec (fun p => ih (p (setTo v) t) h) p
noncomputable def optK (o : Option Value) (k : Value → Res) : Res := Option.rec .fail k o
/-- a number, as the kernel writes it -/
noncomputable def numK (n : Nat) (k : Nat → Res) : Res := Nat.rec (k 0) (fun m _ => k (Nat.succ m)) n

noncomputable def aMv (x : MA) (p : PF (Option Value) (T Value)) (ih : Kk) (t : T Value) (h : Hp) : Res := evK x t fun v => pK p ih v t h
noncomputable def aV1 (x : MA) (F : Hp → Value → Option Value) (p : PF (Option Value) (T Value)) (ih : Kk) (t : T Value) (h : Hp) : Res := evK x t fun a => optK (F h a) fun v => pK p ih v t h
noncomputable def aV2 (x y : MA) (F : Hp → Value → Value → Option Value) (p : PF (Option Value) (T Value)) (ih : Kk) (t : T Value) (h : Hp) : Res := evK x t fun a => evK y t fun b => optK (F h a b) fun v => pK p ih v t h
def isBool : Value → Option Bool
  | .bool b => some b
  | _ => none
noncomputable def aPk (c x y : MA) (p : PF (Option Value) (T Value)) (ih : Kk) (t : T Value) (h : Hp) : Res :=
  evK c t fun c => Option.rec .fail (fun b => Bool.rec (evK y t fun v => pK p ih v t h) (evK x t fun v => pK p ih v t h) b) (isBool c)
noncomputable def newK (vs : List Value) (p : PF (Option Value) (T Value)) (ih : Kk) (t : T Value) (h : Hp) : Res :=
  Hp.rec (fun n ht low => numK n fun n => pK p ih (.pointer (some ⟨n, 0, none⟩)) t ⟨Nat.succ n, T.put (.cells vs) ht n, low⟩) h
noncomputable def aNw (z : List Value) (p : PF (Option Value) (T Value)) (ih : Kk) (t : T Value) (h : Hp) : Res := newK z p ih t h
noncomputable def aBx (x : MA) (p : PF (Option Value) (T Value)) (ih : Kk) (t : T Value) (h : Hp) : Res := evK x t fun v => newK (cellsF v) p ih t h
/-- where a pointer points -/
def ptrOf : Value → Option (Nat × Nat)
  | .pointer (some ⟨k, o, none⟩) => some (k, o)
  | _ => none
noncomputable def aSt (n : Nat) (x y : MA) (ih : Kk) (t : T Value) (h : Hp) : Res :=
  evK x t fun a => evK y t fun v => Option.rec .fail (fun q => Bool.rec .fail (Option.rec .fail (fun h => ih t h) (wrF h q.1 q.2 (cellsF v))) (Nat.beq (lenN (cellsF v)) n)) (ptrOf a)
noncomputable def evL (t : T Value) (l : List MA) (k : List Value → Res) : Res :=
  List.rec (motive := fun _ => (List Value → Res) → Res) (fun k => k []) (fun x _ ih k => evK x t fun v => ih fun l => k (v :: l)) l k
noncomputable def aCl (sz : Nat) (mks : List DI) (call : FuncId → List Value → Hp → CRes) (f : FuncId) (l : List MA) (p : Option (PF (Option Value) (T Value))) (ih : Kk) (t : T Value) (h : Hp) : Res :=
  evL t l fun vs => CRes.rec (fun v h => Option.rec (ih t h) (fun p => pK p ih v t h) p) .fail (fun v h => .ok (.pan v) ⟨sz, t, mks⟩ h) (call f vs h)

noncomputable def bdK (t : T Value) (l : List (MA × Nat × Nat)) (k : List Value → Res) : List Value → Res :=
  List.rec k (fun x _ ih cells => evK x.1 t fun v => Bool.rec .fail (Option.rec .fail ih (overF cells x.2.1 (cellsF v))) (Nat.beq (lenN (cellsF v)) x.2.2)) l
noncomputable def aBd (l : List (MA × Nat × Nat)) (z : List Value) (p : PF (Option Value) (T Value)) (ih : Kk) (t : T Value) (h : Hp) : Res :=
  bdK t l (fun cells => pK p ih (.agg ⟨cells⟩) t h) z
noncomputable def aMo (l : List MA) (F : List Value → Hp → Out) (p : PF (Option Value) (T Value)) (ih : Kk) (t : T Value) (h : Hp) : Res :=
  evL t l fun vs => Out.rec (fun v h => pK p ih v t (fl h)) (fun _ _ => .fail) (fun _ _ => .fail) .fail (F vs h)
noncomputable def evO (x : MA) (t : T Value) : Option Value := MA.rec (motive := fun _ => Option Value) (fun g => GF.rec (fun g => g t) g) (fun v => some v) none x
noncomputable def aCv (sz : Nat) (mks : List DI) (call : FuncId → List Value → Hp → CRes) (round : Nat → List Value → Hp → CRes) (x : MA) (l : List MA) (p : Option (PF (Option Value) (T Value))) (ih : Kk) (t : T Value) (h : Hp) : Res :=
  evL t l fun vs => CRes.rec (fun v h => Option.rec (ih t h) (fun p => pK p ih v t h) p) .fail (fun v h => .ok (.pan v) ⟨sz, t, mks⟩ h) (opDone call round h (callV vs (evO x t)))
section
variable (P : Program) (G : GS)

/-! Appending, copying, making: as the first executor does, over lists that the kernel goes over cheaply. -/
noncomputable def appXF (h : Hp) (es : Nat) : Value → Option (List Value)
  | .slice none _ _ => some []
  | .slice (some ⟨k, o, none⟩) m es' => cond (Nat.beq es es') (rdF h k o (Nat.mul m es)) none
  | .string s => cond (Nat.beq es 1) (some (s.data.toList.map fun b => Value.int .u8 b.toNat)) none
  | _ => none
noncomputable def appToF (h : Hp) (es n c : Nat) (vs : List Value) (m : Nat) : Option Addr → Out
  | none => outRow h vs m es
  | some ⟨k, o, none⟩ => (match h.t.get k with
    | some (.cells us) => (match cutF us o (Nat.mul n es) with
      | some old => cond (allOne vs && Nat.beq c es) (outRow (h.set k .dead) (appF old vs) m es) .fail
      | none => .fail)
    | _ => .fail)
  | _ => .fail
noncomputable def appBodyF (h : Hp) (el : TypeId) (a : Option Addr) (n c : Nat) (x : Value) : Out :=
  match size P el, zero P el, P.info? el with
  | some es, some z, some i => cond (Nat.blt 0 es && Nat.beq z.cells.size es && Nat.ble i.bytes 4096) (match appXF h es x with
    | none => .fail
    | some [] => .value (.slice a n c) h
    | some vs => cond (Nat.ble (Nat.add n (Nat.div (lenN vs) es)) 16777216) (appToF h es n c vs (Nat.add n (Nat.div (lenN vs) es)) a) .fail) .fail
  | _, _, _ => .fail
noncomputable def appendF (ts : Array TypeId) (l : List Value) (h : Hp) : Out := match l with
  | [.slice a n c, x] => (match ts[0]?, ts[1]? with
    | some st, some xt => (match elemOf P st with
      | some el => cond (sliceOrString P xt) (appBodyF P h el a n c x) .fail
      | none => .fail)
    | _, _ => .fail)
  | _ => .fail
noncomputable def compA (x : Operand) : MA :=
  Operand.rec (fun t => .tmp (gfn Value t)) (fun v => Bool.rec .bad (.val v) (constOk v)) (fun g => Bool.rec .bad (.val (.pointer (some ⟨g, 0, none⟩))) (Nat.blt g G.n)) (fun f => .val (.func (.func f) #[] #[])) x

noncomputable def kidx (k : IntKind) : Nat := IntKind.rec 0 1 2 3 4 5 6 7 k
/-- a whole number not below zero, with its kind -/
noncomputable def intOf : Value → Option (Nat × Nat)
  | .int k (.ofNat n) => some (kidx k, n)
  | _ => none
noncomputable def natsK (a b : Value) (f : Nat → Nat → Nat → Option Value) (g : Option Value) : Option Value :=
  Option.rec g (fun p => Option.rec g (fun q => Bool.rec g (f p.1 p.2 q.2) (Nat.beq p.1 q.1)) (intOf b)) (intOf a)
/-- the bytes of a text -/
noncomputable def strOf (v : Value) : Option (List UInt8) := match v with
  | .string s => some s.data.toList
  | _ => none
noncomputable def eqBy (l : List UInt8) : List UInt8 → Bool :=
  List.rec (fun r => List.rec true (fun _ _ _ => false) r) (fun x _ ih r => List.rec false (fun y r _ => Bool.rec false (ih r) (Nat.beq x.toNat y.toNat)) r) l
noncomputable def strK (a b : Value) (f : Bool → Bool) (g : Option Value) : Option Value :=
  Option.rec g (fun l => Option.rec g (fun r => some (.bool (f (eqBy l r)))) (strOf b)) (strOf a)
noncomputable def cmpF (c : Nat → Nat → Bool) (g : Value → Value → Option Value) (_ : Hp) (a b : Value) : Option Value :=
  natsK a b (fun _ m n => some (.bool (c m n))) (g a b)
/-- a sum that stays in range -/
noncomputable def i64K (k r : Nat) (ok : Bool) (g : Option Value) : Option Value := Bool.rec g (Bool.rec g (some (.int .i64 (.ofNat r))) ok) (Nat.beq k 3)
noncomputable def addF (g : Value → Value → Option Value) (_ : Hp) (a b : Value) : Option Value :=
  natsK a b (fun k m n => i64K k (Nat.add m n) (Nat.ble (Nat.add m n) 9223372036854775807) (g a b)) (g a b)
noncomputable def mulF (g : Value → Value → Option Value) (_ : Hp) (a b : Value) : Option Value :=
  natsK a b (fun k m n => i64K k (Nat.mul m n) (Nat.ble (Nat.mul m n) 9223372036854775807) (g a b)) (g a b)
noncomputable def subF (g : Value → Value → Option Value) (_ : Hp) (a b : Value) : Option Value :=
  natsK a b (fun k m n => i64K k (Nat.sub m n) (and (Nat.ble n m) (Nat.ble m 9223372036854775807)) (g a b)) (g a b)
noncomputable def fastF (op : BinOp) (g : Value → Value → Option Value) : Hp → Value → Value → Option Value :=
  match op with
  | .eql => cmpF (fun m n => Nat.beq m n) (fun a b => strK a b (fun c => c) (g a b))
  | .neq => cmpF (fun m n => not (Nat.beq m n)) (fun a b => strK a b (fun c => not c) (g a b))
  | .lss => cmpF (fun m n => Nat.blt m n) g
  | .leq => cmpF (fun m n => Nat.ble m n) g
  | .gtr => cmpF (fun m n => Nat.blt n m) g
  | .geq => cmpF (fun m n => Nat.ble n m) g
  | .add => addF g
  | .sub => subF g
  | .mul => mulF g
  | _ => fun _ a b => g a b
/-- a field's place, told ahead -/
noncomputable def fieldOff (s : TypeId) (f : Nat) : Option Nat :=
  match P.underlying s with
  | some (.struct fs) => (match fs[f]? with
    | some fd => (match size P fd.type with
      | some n => cond (Nat.blt 0 n) (some fd.offset) none
      | none => none)
    | none => none)
  | _ => none
noncomputable def fldF (off : Nat) (_ : Hp) (a : Value) : Option Value := Option.rec none (fun q => some (.pointer (some ⟨q.1, Nat.add q.2 off, none⟩))) (ptrOf a)
noncomputable def ldAF (n : Nat) (h : Hp) (a : Value) : Option Value := Option.rec none (fun q => Option.rec none (fun l => some (.agg ⟨l⟩)) (rdF h q.1 q.2 n)) (ptrOf a)
noncomputable def ld1F (h : Hp) (a : Value) : Option Value := Option.rec none (fun q => rd1F h q.1 q.2) (ptrOf a)
noncomputable def ldF (h : Hp) (t : TypeId) (a : Value) : Option Value := match agg P t, size P t with
  | some true, some n => ldAF n h a
  | some false, _ => ld1F h a
  | _, _ => none
def outV : Out → Option Value
  | .value v _ => some v
  | _ => none
noncomputable def nilF (h : Hp) (a : Value) : Option Value := outV (nilCheckV h (some a))
noncomputable def unF (op : UnOp) (_ : Hp) (a : Value) : Option Value := cond (scalar a) (pureS P (Op.unary op a)) none
noncomputable def idxF (t : TypeId) (h : Hp) (a b : Value) : Option Value := match b with
  | .int _ (.ofNat i) => outV (idxV P h t i a)
  | _ => none
noncomputable def lenF (ts : Array TypeId) (h : Hp) (a : Value) : Option Value := outV (opLen P h ts [a])
noncomputable def extF (ix : Nat) (_ : Hp) (a : Value) : Option Value := match a with
  | .tuple vs => vs[ix]?
  | _ => none
def isLen (c : Call) : Option Operand := match c.callee, c.args.toList with
  | .builtin .len, [x] => some x
  | _, _ => none
noncomputable def minS (l : List Value) (h : Hp) : Out := cond (l.all scalar) (.ofV h (pureS P (Builtin.min_ #[] 0 l.toArray))) .fail
noncomputable def maxS (l : List Value) (h : Hp) : Out := cond (l.all scalar) (.ofV h (pureS P (Builtin.max_ #[] 0 l.toArray))) .fail
noncomputable def two (l : List Value) (h : Hp) (slow : Out) (f : Nat → Nat → Bool) : Out := match l with
  | [a, b] => Option.rec slow (fun p => Option.rec slow (fun q => Bool.rec slow (.value (Bool.rec a b (f p.2 q.2)) h) (Nat.beq p.1 q.1)) (intOf b)) (intOf a)
  | _ => slow
noncomputable def bltF (c : Call) : Option (List Value → Hp → Out) := match c.callee with
  | .builtin .append => some (appendF P c.argTypes)
  | .builtin .min => some fun l h => two l h (minS P l h) (fun m n => Nat.blt n m)
  | .builtin .max => some fun l h => two l h (maxS P l h) (fun m n => Nat.blt m n)
  | _ => none
def calleeV (c : Call) : Option Operand := match c.callee with | .value f => some f | _ => none
noncomputable def convF (src dst : TypeId) (l : List Value) (h : Hp) : Out := match l with
  | [a] => convV P h src dst a
  | _ => .fail
noncomputable def assertF (t : TypeId) (ok : Bool) (l : List Value) (h : Hp) : Out := match l with
  | [a] => (match P.underlying t with
    | some (.interface _) => .fail
    | some _ => assertV P h t ok a
    | none => .fail)
  | _ => .fail
noncomputable def ifaceF (t : TypeId) (_ : Hp) (a : Value) : Option Value := some (.iface t a)
noncomputable def indexF (t : TypeId) (_ : Hp) (a b : Value) : Option Value :=
  Option.rec (cond (scalar a && scalar b) (pureS P (Instr.index t a b)) none) (fun l => Option.rec (cond (scalar a && scalar b) (pureS P (Instr.index t a b)) none) (fun q => match P.underlying t with
    | some .string => Option.rec (cond (scalar a && scalar b) (pureS P (Instr.index t a b)) none) (fun b => some (.int .u8 (.ofNat b.toNat))) (nthF l q.2)
    | _ => cond (scalar a && scalar b) (pureS P (Instr.index t a b)) none) (intOf b)) (strOf a)
/-- where a part begins or ends -/
def bv (o : Option Value) (d : Nat) : Option Nat := match o with | none => some d | some v => natOf v
noncomputable def cutS (l : List UInt8) (a b : Nat) : Value := .string ⟨⟨takeN (dropNt l a) (Nat.sub b a)⟩⟩
/-- a part of a text, of a row, told by where it begins and ends -/
noncomputable def sliceG (h : Hp) (t : TypeId) (lo hi : Nat → Option Nat) : Value → Out
  | .string s => (match P.underlying t, lo 0, hi s.data.toList.length with
    | some .string, some l, some u => cond (Nat.ble l u && Nat.ble u s.data.toList.length) (.value (.string (s.extract l u)) h) .fail
    | _, _, _ => .fail)
  | .slice a n es => (match elemOf P t, lo 0, hi n with
    | some el, some l, some u => cond (Nat.ble l u && Nat.ble u n) (match a with
      | some ⟨k, o, none⟩ => (match size P el with
        | some m => cond (Nat.beq m es) (.value (.slice (some ⟨k, Nat.add o (Nat.mul l es), none⟩) (Nat.sub u l) es) h) .fail
        | none => .fail)
      | none => (match size P el with
        | some _ => .value (.slice none 0 0) h
        | none => .fail)
      | _ => .fail) .fail
    | _, _, _ => .fail)
  | .pointer (some ⟨k, o, none⟩) => (match P.underlying t with
    | some (.array n el) => (match size P el, lo 0, hi n with
      | some es, some l, some u => cond (Nat.ble l u && Nat.ble u n && Nat.blt 0 es && arrIn h k (Nat.add o (Nat.mul n es))) (.value (.slice (some ⟨k, Nat.add o (Nat.mul l es), none⟩) (Nat.sub u l) es) h) .fail
      | _, _, _ => .fail)
    | _ => .fail)
  | _ => .fail

noncomputable def mkSlF (t : TypeId) (l : List Value) (h : Hp) : Out := match l with
  | [a, b] => (match elemOf P t, a, b with
    | some el, .int .i64 (.ofNat l), .int .i64 (.ofNat c) => (match size P el, zero P el, P.info? el with
      | some n, some z, some i => cond (Nat.ble l c && Nat.beq z.cells.size n && Nat.blt 0 n && Nat.ble (Nat.mul c i.bytes) 16777216 && Nat.ble c 16777216) (outRow h (rep z.cells.toList l) l n) .fail
      | _, _, _ => .fail)
    | _, _, _ => .fail)
  | _ => .fail
/-- so many, and the others -/
noncomputable def funcF (f : FuncId) (n : Nat) (l : List Value) (h : Hp) : Out := .value (.func (.func f) (l.take n).toArray (l.drop n).toArray) h
noncomputable def bsF (t : TypeId) (len : Nat) (is : List Nat) (l : List Value) (h : Hp) : Out := match elemOf P t with
  | some el => (match size P el, zero P el with
    | some n, some z => cond (Nat.beq z.cells.size n && Nat.blt 0 n && Nat.ble (Nat.mul len n) 65536) (match fillL (fun i => some (Nat.mul i n, n)) (is.zip l) (rep z.cells.toList len) with
      | some l => outRow h l len n
      | none => .fail) .fail
    | _, _ => .fail)
  | none => .fail
def callee (c : Call) : Option FuncId := match c.callee with | .value (.func f) => some f | _ => none

/-- the parts of a struct, told ahead: place and cells -/
noncomputable def partsF (fs : Array Field) (l : List (Nat × Operand)) : Option (List (MA × Nat × Nat)) :=
  List.rec (some []) (fun p _ ih => match placeS P fs p.1, ih with | some q, some r => some ((compA G p.2, q) :: r) | _, _ => none) l
noncomputable def compOp (o : Oper) (p : PF (Option Value) (T Value)) : M :=
  match o.op with
  | .move x => .mv (compA G x) p
  | .assign x => .mv (compA G x) p
  | .binOp op t x y _ => .v2 (compA G x) (compA G y) (fastF op (binV P (isConst x || isConst y) op t)) p
  | .load t x => (match agg P t, size P t with
    | some true, some n => .v1 (compA G x) (ldAF n) p
    | some false, _ => .v1 (compA G x) ld1F p
    | _, _ => .gen o)
  | .fieldAddr s x f => (match fieldOff P s f with | some off => .v1 (compA G x) (fldF off) p | none => .gen o)
  | .nilCheck x => .v1 (compA G x) nilF p
  | .unOp op _ x => .v1 (compA G x) (unF P op) p
  | .indexAddr t x ix => .v2 (compA G x) (compA G ix) (idxF P t) p
  | .pick c x y => .pk (compA G c) (compA G x) (compA G y) p
  | .alloc t => (match zero P t with | some z => .nw z.cells.toList p | none => .gen o)
  | .build t parts => (match zero P t, P.underlying t with
    | some z, some (.struct fs) => cond (sizesOk P fs) (match partsF P G fs parts.toList with | some l => .bd l z.cells.toList p | none => .gen o) (.gen o)
    | _, _ => .gen o)
  | .box _ x => .bx (compA G x) p
  | .call c => (match callee c with | some f => .cl f (c.args.toList.map (compA G)) (some p) | none => (match isLen c with | some x => .v1 (compA G x) (lenF P c.argTypes) p | none => (match bltF P c with | some F => .mo (c.args.toList.map (compA G)) F p | none => (match calleeV c with | some f => .cv (compA G f) (c.args.toList.map (compA G)) (some p) | none => .gen o))))
  | .convert src dst x => .mo [compA G x] (convF P src dst) p
  | .makeInterface t x => (match P.underlying t with | some (.interface _) => .gen o | some _ => .v1 (compA G x) (ifaceF t) p | none => .gen o)
  | .typeAssert x _ t ok => .mo [compA G x] (assertF P t ok) p
  | .index t x ix => .v2 (compA G x) (compA G ix) (indexF P t) p
  | .makeSlice t l c => .mo [compA G l, compA G c] (mkSlF P t) p
  | .makeFunc fn first cap => (match fn with | .func f => .mo ((first.toList ++ cap.toList).map (compA G)) (funcF f first.toList.length) p | _ => .gen o)
  | .buildSlice t len parts => .mo (parts.toList.map fun q => compA G q.2) (bsF P t len (parts.toList.map (·.1))) p
  | .extract x ix => .v1 (compA G x) (extF ix) p
  | .field s x f => .v1 (compA G x) (fun _ a => fieldV P s f a) p
  | _ => .gen o
noncomputable def compNo (o : Oper) : M :=
  match o.op with
  | .store t x y => (match size P t with | some n => .st n (compA G x) (compA G y) | none => .gen o)
  | .call c => (match callee c with | some f => .cl f (c.args.toList.map (compA G)) none | none => (match calleeV c with | some f => .cv (compA G f) (c.args.toList.map (compA G)) none | none => .gen o))
  | _ => .gen o
/-! The same, by a table of small parts. -/
def loF (lo : Bool) (r : List Value) : Option Value := match lo, r with | true, x :: _ => some x | _, _ => none
def hiF (lo hi : Bool) (r : List Value) : Option Value := match hi, lo, r with | true, true, _ :: x :: _ => some x | true, false, x :: _ => some x | _, _, _ => none
noncomputable def sliceS (t : TypeId) (s : List UInt8) (lo hi : Option Value) (h : Hp) : Out := match P.underlying t, bv lo 0, bv hi (lenN s) with
  | some .string, some a, some b => cond (Nat.ble a b && Nat.ble b (lenN s)) (.value (cutS s a b) h) .fail
  | _, _, _ => .fail
noncomputable def sliceF (t : TypeId) (lo hi : Bool) (l : List Value) (h : Hp) : Out :=
  List.rec .fail (fun a r _ => Option.rec (sliceG P h t (bv (loF lo r)) (bv (hiF lo hi r)) a) (fun s => sliceS P t s (loF lo r) (hiF lo hi r) h) (strOf a)) l
def isSm {α : Type} (o : Option α) : Bool := match o with | some _ => true | none => false
def opL (o : Option Operand) : List Operand := match o with | some x => [x] | none => []
noncomputable def cSlice (t : TypeId) (x : Operand) (lo hi mx : Option Operand) : Oper → PF (Option Value) (T Value) → M := fun o p => match mx with
  | some _ => .gen o
  | none => .mo ((x :: (opL lo ++ opL hi)).map (compA G)) (sliceF P t (isSm lo) (isSm hi)) p
abbrev Cp := Oper → PF (Option Value) (T Value) → M
noncomputable def cMove (x : Operand) : Cp := fun _ p => .mv (compA G x) p
noncomputable def cBin (op : BinOp) (t : TypeId) (x y : Operand) (_ : TypeId) : Cp := fun _ p => .v2 (compA G x) (compA G y) (fastF op (binV P (isConst x || isConst y) op t)) p
noncomputable def cLoad (t : TypeId) (x : Operand) : Cp := fun o p => match agg P t, size P t with
  | some true, some n => .v1 (compA G x) (ldAF n) p
  | some false, _ => .v1 (compA G x) ld1F p
  | _, _ => .gen o
noncomputable def cFld (s : TypeId) (x : Operand) (f : Nat) : Cp := fun o p => match fieldOff P s f with | some off => .v1 (compA G x) (fldF off) p | none => .gen o
noncomputable def cNil (x : Operand) : Cp := fun _ p => .v1 (compA G x) nilF p
noncomputable def cUn (op : UnOp) (_ : TypeId) (x : Operand) : Cp := fun _ p => .v1 (compA G x) (unF P op) p
noncomputable def cIdx (t : TypeId) (x ix : Operand) : Cp := fun _ p => .v2 (compA G x) (compA G ix) (idxF P t) p
noncomputable def cPick (c x y : Operand) : Cp := fun _ p => .pk (compA G c) (compA G x) (compA G y) p
noncomputable def cAlloc (t : TypeId) : Cp := fun o p => match zero P t with | some z => .nw z.cells.toList p | none => .gen o
noncomputable def cBuild (t : TypeId) (parts : Array (Nat × Operand)) : Cp := fun o p => match zero P t, P.underlying t with
  | some z, some (.struct fs) => cond (sizesOk P fs) (match partsF P G fs parts.toList with | some l => .bd l z.cells.toList p | none => .gen o) (.gen o)
  | _, _ => .gen o
noncomputable def cBox (_ : TypeId) (x : Operand) : Cp := fun _ p => .bx (compA G x) p
noncomputable def cCall (c : Call) : Cp := fun o p => match callee c with | some f => .cl f (c.args.toList.map (compA G)) (some p) | none => (match isLen c with | some x => .v1 (compA G x) (lenF P c.argTypes) p | none => (match bltF P c with | some F => .mo (c.args.toList.map (compA G)) F p | none => (match calleeV c with | some f => .cv (compA G f) (c.args.toList.map (compA G)) (some p) | none => .gen o)))
noncomputable def cConv (src dst : TypeId) (x : Operand) : Cp := fun _ p => .mo [compA G x] (convF P src dst) p
noncomputable def cIface (t : TypeId) (x : Operand) : Cp := fun o p => match P.underlying t with | some (.interface _) => .gen o | some _ => .v1 (compA G x) (ifaceF t) p | none => .gen o
noncomputable def cAssert (x : Operand) (_ t : TypeId) (ok : Bool) : Cp := fun _ p => .mo [compA G x] (assertF P t ok) p
noncomputable def cIndex (t : TypeId) (x ix : Operand) : Cp := fun _ p => .v2 (compA G x) (compA G ix) (indexF P t) p
noncomputable def cMkSl (t : TypeId) (l c : Operand) : Cp := fun _ p => .mo [compA G l, compA G c] (mkSlF P t) p
noncomputable def cFunc (fn : Fn) (first cap : Array Operand) : Cp := fun o p => match fn with | .func f => .mo ((first.toList ++ cap.toList).map (compA G)) (funcF f first.toList.length) p | _ => .gen o
noncomputable def cBs (t : TypeId) (len : Nat) (parts : Array (Nat × Operand)) : Cp := fun _ p => .mo (parts.toList.map fun q => compA G q.2) (bsF P t len (parts.toList.map (·.1))) p
noncomputable def cExt (x : Operand) (ix : Nat) : Cp := fun _ p => .v1 (compA G x) (extF ix) p
noncomputable def cField (s : TypeId) (x : Operand) (f : Nat) : Cp := fun _ p => .v1 (compA G x) (fun _ a => fieldV P s f a) p
noncomputable def opTab : GF Op Cp := .mk fun op => Op.rec (motive := fun _ => Cp) (move := cMove G) (assign := cMove G) (pick := cPick G) (alloc := cAlloc P) (box := cBox G) (build := cBuild P G) (buildSlice := cBs P G) (insert := fun _ _ _ _ => (fun o _ => .gen o)) (load := cLoad P G) (store := fun _ _ _ => (fun o _ => .gen o)) (ready := fun _ => (fun o _ => .gen o)) (waits := fun _ => (fun o _ => .gen o)) (nilCheck := cNil G) (binOp := cBin P G) (unOp := cUn P G) (convert := cConv P G) (sliceToArrayPointer := fun _ _ => (fun o _ => .gen o)) (makeInterface := cIface P G) (makeFunc := cFunc G) (makeMap := fun _ _ => (fun o _ => .gen o)) (makeChan := fun _ _ => (fun o _ => .gen o)) (makeSlice := cMkSl P G) (slice := cSlice P G) (fieldAddr := cFld P G) (field := cField P G) (indexAddr := cIdx P G) (index := cIndex P G) (lookup := fun _ _ _ _ => (fun o _ => .gen o)) (mapUpdate := fun _ _ _ _ => (fun o _ => .gen o)) (mapEntry := fun _ _ _ => (fun o _ => .gen o)) (entryStore := fun _ _ _ _ => (fun o _ => .gen o)) (range := fun _ _ => (fun o _ => .gen o)) (next := fun _ _ => (fun o _ => .gen o)) (entry := fun _ => (fun o _ => .gen o)) (typeAssert := cAssert P G) (extract := cExt G) (call := cCall P G) (go := fun _ => (fun o _ => .gen o)) (defer := fun _ => (fun o _ => .gen o)) (panic := fun _ => (fun o _ => .gen o)) (send := fun _ _ => (fun o _ => .gen o)) (recv := fun _ _ _ => (fun o _ => .gen o)) (select := fun _ _ => (fun o _ => .gen o)) op
noncomputable def compOpR (o : Oper) (p : PF (Option Value) (T Value)) : M := GF.rec (fun g => g o.op o p) (opTab P G)
noncomputable def nStore (t : TypeId) (x y : Operand) : Oper → M := fun o => match size P t with | some n => .st n (compA G x) (compA G y) | none => .gen o
noncomputable def nCall (c : Call) : Oper → M := fun o => match callee c with | some f => .cl f (c.args.toList.map (compA G)) none | none => (match calleeV c with | some f => .cv (compA G f) (c.args.toList.map (compA G)) none | none => .gen o)
noncomputable def opTabN : GF Op (Oper → M) := .mk fun op => Op.rec (motive := fun _ => Oper → M) (move := fun _ => (fun o => .gen o)) (assign := fun _ => (fun o => .gen o)) (pick := fun _ _ _ => (fun o => .gen o)) (alloc := fun _ => (fun o => .gen o)) (box := fun _ _ => (fun o => .gen o)) (build := fun _ _ => (fun o => .gen o)) (buildSlice := fun _ _ _ => (fun o => .gen o)) (insert := fun _ _ _ _ => (fun o => .gen o)) (load := fun _ _ => (fun o => .gen o)) (store := nStore P G) (ready := fun _ => (fun o => .gen o)) (waits := fun _ => (fun o => .gen o)) (nilCheck := fun _ => (fun o => .gen o)) (binOp := fun _ _ _ _ _ => (fun o => .gen o)) (unOp := fun _ _ _ => (fun o => .gen o)) (convert := fun _ _ _ => (fun o => .gen o)) (sliceToArrayPointer := fun _ _ => (fun o => .gen o)) (makeInterface := fun _ _ => (fun o => .gen o)) (makeFunc := fun _ _ _ => (fun o => .gen o)) (makeMap := fun _ _ => (fun o => .gen o)) (makeChan := fun _ _ => (fun o => .gen o)) (makeSlice := fun _ _ _ => (fun o => .gen o)) (slice := fun _ _ _ _ _ => (fun o => .gen o)) (fieldAddr := fun _ _ _ => (fun o => .gen o)) (field := fun _ _ _ => (fun o => .gen o)) (indexAddr := fun _ _ _ => (fun o => .gen o)) (index := fun _ _ _ => (fun o => .gen o)) (lookup := fun _ _ _ _ => (fun o => .gen o)) (mapUpdate := fun _ _ _ _ => (fun o => .gen o)) (mapEntry := fun _ _ _ => (fun o => .gen o)) (entryStore := fun _ _ _ _ => (fun o => .gen o)) (range := fun _ _ => (fun o => .gen o)) (next := fun _ _ => (fun o => .gen o)) (entry := fun _ => (fun o => .gen o)) (typeAssert := fun _ _ _ _ => (fun o => .gen o)) (extract := fun _ _ => (fun o => .gen o)) (call := nCall G) (go := fun _ => (fun o => .gen o)) (defer := fun _ => (fun o => .gen o)) (panic := fun _ => (fun o => .gen o)) (send := fun _ _ => (fun o => .gen o)) (recv := fun _ _ _ => (fun o => .gen o)) (select := fun _ _ => (fun o => .gen o)) op
noncomputable def compNoR (o : Oper) : M := GF.rec (fun g => g o.op o) (opTabN P G)
noncomputable def isSpecR : Op → Bool := fun op => Op.rec (motive := fun _ => Bool) (move := fun _ => false) (assign := fun _ => false) (pick := fun _ _ _ => false) (alloc := fun _ => false) (box := fun _ _ => false) (build := fun _ _ => false) (buildSlice := fun _ _ _ => false) (insert := fun _ _ _ _ => false) (load := fun _ _ => false) (store := fun _ _ _ => false) (ready := fun _ => false) (waits := fun _ => false) (nilCheck := fun _ => false) (binOp := fun _ _ _ _ _ => false) (unOp := fun _ _ _ => false) (convert := fun _ _ _ => false) (sliceToArrayPointer := fun _ _ => false) (makeInterface := fun _ _ => false) (makeFunc := fun _ _ _ => false) (makeMap := fun _ _ => false) (makeChan := fun _ _ => false) (makeSlice := fun _ _ _ => false) (slice := fun _ _ _ _ _ => false) (fieldAddr := fun _ _ _ => false) (field := fun _ _ _ => false) (indexAddr := fun _ _ _ => false) (index := fun _ _ _ => false) (lookup := fun _ _ _ _ => false) (mapUpdate := fun _ _ _ _ => false) (mapEntry := fun _ _ _ => false) (entryStore := fun _ _ _ _ => false) (range := fun _ _ => false) (next := fun _ _ => false) (entry := fun _ => false) (typeAssert := fun _ _ _ _ => false) (extract := fun _ _ => false) (call := fun _ => false) (go := fun _ => false) (defer := fun _ => true) (panic := fun _ => true) (send := fun _ _ => false) (recv := fun _ _ _ => false) (select := fun _ _ => false) op
def isSpec (o : Op) : Bool := match o with
  | .panic _ => true
  | .defer _ => true
  | _ => false
/-- the place that a guard looks at -/
noncomputable def guardAt (all : Array Oper) (j : Nat) : Option Nat := match nthF all.toList j with
  | some o => o.dst
  | none => none
noncomputable def dstF (sz : Nat) (d : Option Nat) (k : Option (PF (Option Value) (T Value)) → M) (no : M) : M :=
  Option.rec (k none) (fun d => Bool.rec no (k (some (pfn Value d))) (Nat.blt d sz)) d
noncomputable def comp0 (o : Oper) (p : Option (PF (Option Value) (T Value))) : M := Option.rec (compNoR P G o) (fun p => compOpR P G o p) p
noncomputable def compG (all : Array Oper) (sz : Nat) (o : Oper) (g : Nat × Bool) : M :=
  Option.rec (.gen o) (fun d => Bool.rec (dstF sz o.dst (fun p => .gd (gfn Value d) g.2 (comp0 P G { o with guard := none } p) p) (.gen o)) (.gen o) (isSpecR o.op)) (guardAt all g.1)
noncomputable def comp (all : Array Oper) (sz : Nat) (o : Oper) : M :=
  Option.rec (dstF sz o.dst (fun p => comp0 P G o p) (.gen o)) (fun g => compG P G all sz o g) o.guard
noncomputable def comps (all : Array Oper) (sz : Nat) (l : List Oper) : List M := List.rec [] (fun o _ ih => comp P G all sz o :: ih) l

variable (call : FuncId → List Value → Hp → CRes) (round : Nat → List Value → Hp → CRes) (all : Array Oper) (sz : Nat) (mks : List DI)
noncomputable def aGen (o : Oper) (ih : Kk) (t : T Value) (h : Hp) : Res :=
  match oneOp P G call round all o ⟨sz, t, mks⟩ h with
  | .ok v h => (match putD ⟨sz, t, mks⟩ o.dst v with | some e => ih e.t h | none => .fail)
  | .fail => specC G (some 0) all o ⟨sz, t, mks⟩ h (fun _ _ => .fail)
  | .panic v h => .ok (.pan v) ⟨sz, t, mks⟩ h
def wantB : Value → Bool → Option Bool
  | .bool b, w => some (b == w)
  | .tuple _, _ => some false
  | _, _ => none
/-- an operation behind a guard -/
noncomputable def aGd (g : GF (T Value) (Option Value)) (want : Bool) (_ : M) (p : Option (PF (Option Value) (T Value))) (ihm : Kk → Kk) (ih : Kk) (t : T Value) (h : Hp) : Res :=
  Option.rec .fail (fun v => Option.rec .fail (fun c => Bool.rec (Option.rec (ih t h) (fun p => pK p ih undef t h) p) (ihm ih t h) c) (wantB v want)) (GF.rec (fun g => g t) g)
/-- one operation that was told ahead -/
noncomputable def runOne (m : M) (ih : Kk) : Kk := M.rec (motive := fun _ => Kk → Kk) aMv aV1 aV2 aPk aNw aBx aSt (aCl sz mks call) aBd aMo (aCv sz mks call round) (aGen P G call round all sz mks) aGd m ih
noncomputable def runM (l : List M) : Kk :=
  List.rec (fun t h => .ok .normal ⟨sz, t, mks⟩ h) (fun m _ ih => M.rec (motive := fun _ => Kk → Kk) aMv aV1 aV2 aPk aNw aBx aSt (aCl sz mks call) aBd aMo (aCv sz mks call round) (aGen P G call round all sz mks) aGd m ih) l

/-! A region that draws its order: most of its operations as if it drew none. -/
/-- the kinds of an operation there, told ahead -/
inductive MD where
  | sl (m : M)
  | ld (x : MA) (m : M)
  | nw (m : M)
  | st (ok : Bool) (x : MA) (m : M)
  | ge (o : Oper)
noncomputable def compD (i : Nat) (o : Oper) : MD :=
  Option.rec (match o.op with
    | .load _ x => .ld (compA G x) (comp P G all sz o)
    | .store _ x _ => .st (barrierS all i) (compA G x) (comp P G all sz o)
    | op => Bool.rec (Bool.rec (.ge o) (.nw (comp P G all sz o)) (isNew op)) (.sl (comp P G all sz o)) (slotOp op)) (fun _ => .ge o) o.guard
abbrev Dp := Nat → Array Oper → M → Oper → MD
noncomputable def eLoad (_ : TypeId) (x : Operand) : Dp := fun _ _ m _ => .ld (compA G x) m
noncomputable def eStore (_ : TypeId) (x _ : Operand) : Dp := fun i all m _ => .st (barrierS all i) (compA G x) m
noncomputable def eSlot : Dp := fun _ _ m _ => .sl m
noncomputable def eNew : Dp := fun _ _ m _ => .nw m
noncomputable def eOther : Dp := fun _ _ _ o => .ge o
noncomputable def eCall (c : Call) : Dp := fun _ _ m o => Bool.rec (.ge o) (.sl m) (slotOp (.call c))
noncomputable def opTabD : GF Op Dp := .mk fun op => Op.rec (motive := fun _ => Dp) (move := fun _ => eSlot) (assign := fun _ => eSlot) (pick := fun _ _ _ => eSlot) (alloc := fun _ => eNew) (box := fun _ _ => eNew) (build := fun _ _ => eSlot) (buildSlice := fun _ _ _ => eNew) (insert := fun _ _ _ _ => eOther) (load := eLoad G) (store := eStore G) (ready := fun _ => eOther) (waits := fun _ => eOther) (nilCheck := fun _ => eSlot) (binOp := fun _ _ _ _ _ => eSlot) (unOp := fun _ _ _ => eSlot) (convert := fun _ _ _ => eOther) (sliceToArrayPointer := fun _ _ => eOther) (makeInterface := fun _ _ => eSlot) (makeFunc := fun _ _ _ => eSlot) (makeMap := fun _ _ => eNew) (makeChan := fun _ _ => eOther) (makeSlice := fun _ _ _ => eNew) (slice := fun _ _ _ _ _ => eOther) (fieldAddr := fun _ _ _ => eSlot) (field := fun _ _ _ => eSlot) (indexAddr := fun _ _ _ => eSlot) (index := fun _ _ _ => eSlot) (lookup := fun _ _ _ _ => eOther) (mapUpdate := fun _ _ _ _ => eOther) (mapEntry := fun _ _ _ => eOther) (entryStore := fun _ _ _ _ => eOther) (range := fun _ _ => eOther) (next := fun _ _ => eOther) (entry := fun _ => eOther) (typeAssert := fun _ _ _ _ => eSlot) (extract := fun _ _ => eSlot) (call := eCall) (go := fun _ => eOther) (defer := fun _ => eOther) (panic := fun _ => eOther) (send := fun _ _ => eOther) (recv := fun _ _ _ => eOther) (select := fun _ _ => eOther) op
noncomputable def compDR (i : Nat) (o : Oper) : MD :=
  Option.rec (GF.rec (fun g => g o.op i all (comp P G all sz o) o) (opTabD G)) (fun _ => .ge o) o.guard
noncomputable def compsD (l : List Oper) : Nat → List (MD × List Oper) := List.rec (fun _ => []) (fun o l ih i => (compDR P G all sz i o, l) :: ih (Nat.succ i)) l
abbrev KdD := Nat → List (Nat × AE) → Kk
/-- what changes were made lie low enough: on; else by the first executor -/
noncomputable def goD (rest : List Oper) (ih : KdD) (i : Nat) (acc : List (Nat × AE)) : Kk := fun t h =>
  (fun h => Bool.rec (runDrawn P G call round all rest i acc ⟨sz, t, mks⟩ h) (ih i acc t h) (Nat.ble h.low h.n)) (fl h)
noncomputable def dSl (m : M) (rest : List Oper) (ih : KdD) (i : Nat) (acc : List (Nat × AE)) : Kk := runOne P G call round all sz mks m (ih (Nat.succ i) acc)
noncomputable def dLd (x : MA) (m : M) (rest : List Oper) (ih : KdD) (i : Nat) (acc : List (Nat × AE)) : Kk := fun t h =>
  evK x t fun p => Option.rec .fail (fun q => Bool.rec .fail (runOne P G call round all sz mks m (goD P G call round all sz mks rest ih (Nat.succ i) ((i, .ld q.1) :: acc)) t h) (accOk all i false q.1 acc)) (ptrOf p)
noncomputable def dNw (m : M) (rest : List Oper) (ih : KdD) (i : Nat) (acc : List (Nat × AE)) : Kk := fun t h =>
  runOne P G call round all sz mks m (goD P G call round all sz mks rest ih (Nat.succ i) ((i, .nw h.n) :: acc)) t h
noncomputable def dSt (ok : Bool) (x : MA) (m : M) (rest : List Oper) (ih : KdD) (i : Nat) (acc : List (Nat × AE)) : Kk := fun t h =>
  evK x t fun p => Option.rec .fail (fun q => Bool.rec .fail (Bool.rec .fail (runOne P G call round all sz mks m (goD P G call round all sz mks rest ih (Nat.succ i) ((i, .st q.1) :: acc)) t h) ok) (accOk all i true q.1 acc)) (ptrOf p)
noncomputable def dGe (o : Oper) (rest : List Oper) (ih : KdD) (i : Nat) (acc : List (Nat × AE)) : Kk := fun t h =>
  match wantedC all ⟨sz, t, mks⟩ o.guard with
    | some true => (match drawOne P G call round all i o ⟨sz, t, mks⟩ h acc (touch G ⟨sz, t, mks⟩ o.op) with
      | .ok v h' => (match putD ⟨sz, t, mks⟩ o.dst v with | some e' => goD P G call round all sz mks rest ih (Nat.succ i) (accPut i acc h h' (slotOp o.op) (isNew o.op) (touch G ⟨sz, t, mks⟩ o.op)) e'.t h' | none => .fail)
      | _ => .fail)
    | some false => (match putD ⟨sz, t, mks⟩ o.dst undef with | some e' => ih (Nat.succ i) acc e'.t h | none => .fail)
    | none => .fail
noncomputable def runMD (l : List (MD × List Oper)) : KdD :=
  List.rec (fun _ _ t h => .ok .normal ⟨sz, t, mks⟩ h) (fun m _ ih => MD.rec (motive := fun _ => List Oper → KdD → KdD) (dSl P G call round all sz mks) (dLd P G call round all sz mks) (dNw P G call round all sz mks) (dSt P G call round all sz mks) (dGe P G call round all sz mks) m.1 m.2 ih) l
end

section
variable (P : Program) (G : GS)
/-- A function, told ahead. -/
inductive FI where
  | no
  | ext
  | go (n : Nat) (c : Code) (rs : List ResultVar)
noncomputable def finfo (f : FuncId) : FI := match nthK P.funcs.toList f with
  | none => .no
  | some fn => (match fn.body with
    | none => .ext
    | some c => .go fn.ntmps c fn.results.toList)
noncomputable def resF (t : T Value) (h : Hp) (l : List ResultVar) : Option (List Value) :=
  List.rec (some []) (fun r _ ih => Option.rec none (fun v => Option.rec none (fun l => some (v :: l)) ih) (ResultVar.rec (fun i => GF.rec (fun g => g t) (gfn Value i)) (fun a ty => Option.rec none (fun p => ldF P h ty p) (GF.rec (fun g => g t) (gfn Value a))) r)) l
noncomputable def retE (dc : FuncId → List Value → UM → Hp → Option (UM × Hp)) (rs : List ResultVar) (e : En) (h : Hp) : CRes :=
  En.rec (fun sz t mks => List.rec (Option.rec .fail (fun l => .ok (tupOf l) h) (resF P t h rs)) (fun d ds _ => endL P rs ⟨sz, t, d :: ds⟩ (leave dc (d :: ds) .rt h)) mks) e
noncomputable def panE (dc : FuncId → List Value → UM → Hp → Option (UM × Hp)) (rs : List ResultVar) (e : En) (h : Hp) (v : Value) : CRes := endL P rs e (leave dc e.mks (.pn v) h)
noncomputable def retF (dc : FuncId → List Value → UM → Hp → Option (UM × Hp)) (rs : List ResultVar) (r : Res) : CRes := Res.rec (fun x e h => Ex.rec (retE P dc rs e h) (fun _ => .fail) (retE P dc rs e h) (panE P dc rs e h) x) .fail r
noncomputable def callF0 (ih : Option Nat → Code → En → Hp → Res) (f : FuncId) (args : List Value) (h : Hp) : CRes :=
  FI.rec .fail (externC P f args h) (fun n c rs => Bool.rec .fail (retF P (deferC P G ih) rs (ih none c ⟨n, envOf args 0 .nil, []⟩ h)) (Nat.ble args.length n)) (finfo P f)
noncomputable def callF (ih : Option Nat → Code → En → Hp → Res) (f : FuncId) (args : List Value) (h : Hp) : CRes :=
  Option.rec (callF0 P G ih f args h) (fun g => Option.rec (callF0 P G ih f args h) (fun r => r) (g args h)) (G.stub f)
noncomputable def isDefer (o : Op) : Bool := match o with
  | .defer _ => true
  | _ => false
noncomputable def anyDef (l : List Oper) : Bool := List.rec false (fun o _ ih => Bool.rec ih true (isDefer o.op)) l
noncomputable def isDeferR : Op → Bool := fun op => Op.rec (motive := fun _ => Bool) (move := fun _ => false) (assign := fun _ => false) (pick := fun _ _ _ => false) (alloc := fun _ => false) (box := fun _ _ => false) (build := fun _ _ => false) (buildSlice := fun _ _ _ => false) (insert := fun _ _ _ _ => false) (load := fun _ _ => false) (store := fun _ _ _ => false) (ready := fun _ => false) (waits := fun _ => false) (nilCheck := fun _ => false) (binOp := fun _ _ _ _ _ => false) (unOp := fun _ _ _ => false) (convert := fun _ _ _ => false) (sliceToArrayPointer := fun _ _ => false) (makeInterface := fun _ _ => false) (makeFunc := fun _ _ _ => false) (makeMap := fun _ _ => false) (makeChan := fun _ _ => false) (makeSlice := fun _ _ _ => false) (slice := fun _ _ _ _ _ => false) (fieldAddr := fun _ _ _ => false) (field := fun _ _ _ => false) (indexAddr := fun _ _ _ => false) (index := fun _ _ _ => false) (lookup := fun _ _ _ _ => false) (mapUpdate := fun _ _ _ _ => false) (mapEntry := fun _ _ _ => false) (entryStore := fun _ _ _ _ => false) (range := fun _ _ => false) (next := fun _ _ => false) (entry := fun _ => false) (typeAssert := fun _ _ _ _ => false) (extract := fun _ _ => false) (call := fun _ => false) (go := fun _ => false) (defer := fun _ => true) (panic := fun _ => false) (send := fun _ _ => false) (recv := fun _ _ _ => false) (select := fun _ _ => false) op
noncomputable def anyDefR (l : List Oper) : Bool := List.rec false (fun o _ ih => Bool.rec ih true (isDeferR o.op)) l
noncomputable def runF (ro : Option Nat) (call : FuncId → List Value → Hp → CRes) (round : Nat → List Value → Hp → CRes) (ops : Array Oper) (e : En) (h : Hp) : Res :=
  Bool.rec (En.rec (fun sz t mks => runM P G call round ops sz mks (comps P G ops sz ops.toList) t h) e) (runOps P G ro call round ops ops.toList e h) (anyDefR ops.toList)
noncomputable def runDF (call : FuncId → List Value → Hp → CRes) (round : Nat → List Value → Hp → CRes) (ops : Array Oper) (e : En) (h : Hp) : Res :=
  En.rec (fun sz t mks => goD P G call round ops sz mks ops.toList (runMD P G call round ops sz mks (compsD P G ops sz ops.toList 0)) 0 [] t h) e
noncomputable def aRegion (ih : Option Nat → Code → En → Hp → Res) (ro : Option Nat) (ops : Array Oper) (draw : Bool) (e : En) (h : Hp) : Res :=
  Bool.rec (runF P G ro (callF P G ih) (roundC ih) ops e h) (Bool.rec .fail (runDF P G (callF P G ih) (roundC ih) ops e h) (drawOk ops)) draw
abbrev Ih := Option Nat → Code → En → Hp → Res
abbrev Cd := Ih → Option Nat → En → Hp → Res
noncomputable def thenF (k : En → Hp → Res) (r : Res) : Res := Res.rec (fun x e h => Ex.rec (k e h) (fun i => .ok (.exit i) e h) (.ok .ret e h) (fun v => .ok (.pan v) e h) x) .fail r
noncomputable def cSkip : Cd := fun _ _ e h => .ok .normal e h
noncomputable def cRegion (_ : Nat) (ops : Array Oper) (draw : Bool) : Cd := fun ih ro e h => aRegion P G ih ro ops draw e h
noncomputable def cSeq (a b : Code) (_ _ : Cd) : Cd := fun ih ro e h => Option.rec (thenF (ih ro b) (ih ro a e h)) (fun m => mapC P G (callF P G ih) (roundC ih) ih ro m e h) (mapOf a b)
noncomputable def cCond (x : Operand) (a b : Code) (_ _ : Cd) : Cd := fun ih ro e h => Option.rec .fail (fun v => Option.rec .fail (fun c => Bool.rec (ih ro b e h) (ih ro a e h) c) (isBool v)) (ev G e x)
noncomputable def cBlock (id : Nat) (b : Code) (_ : Cd) : Cd := fun ih ro e h => blockC id (ih ro b e h)
noncomputable def cLoop (b : Code) (_ : Cd) : Cd := fun ih ro e h => thenF (ih ro (.loop b)) (ih ro b e h)
noncomputable def cRange (f : Operand) (ps : Array Tmp) (as bd : Code) (_ _ : Cd) : Cd := fun ih ro e h => rangeC P G ih ro f ps.toList as bd e h
noncomputable def cExit (id : Nat) : Cd := fun _ _ e h => .ok (.exit id) e h
noncomputable def cScope (_ : Code) (_ : Cd) : Cd := fun _ _ _ _ => .fail
noncomputable def cNo1 (_ : Nat) : Cd := fun _ _ _ _ => .fail
noncomputable def cRet : Cd := fun _ _ e h => .ok .ret e h
noncomputable def cLabel (_ : Nat) : Cd := cSkip
noncomputable def cNoS (_ : String) : Cd := fun _ _ _ _ => .fail
noncomputable def stepF (ih : Ih) (ro : Option Nat) (c : Code) (e : En) (h : Hp) : Res :=
  Code.rec (motive := fun _ => Cd) cSkip (cRegion P G) (cSeq P G) (cCond G) cBlock cLoop (cRange P G) cExit cScope cLabel cNo1 cRet cNoS c ih ro e h
noncomputable def exF (n : Nat) : Option Nat → Code → En → Hp → Res :=
  Nat.rec (fun _ _ _ _ => .fail) (fun _ ih => stepF P G ih) n
noncomputable def callNF (n : Nat) (f : FuncId) (args : List Value) (h : Hp) : CRes := callF P G (exF P G n) f args h
end
end Cx
end Go.Proofs.YtkljlbilhcdjhaaGreatDoor
namespace Go.Proofs.YtkljlbilhcdjhaaGreatDoor
set_option linter.unusedVariables false
namespace Cx
open Go

theorem lenN_eq {α : Type} (l : List α) : lenN l = l.length := by
  induction l with
  | nil => rfl
  | cons x l ih => show Nat.succ (lenN l) = _; rw [ih]; rfl
theorem nb0 (n : Nat) : Nat.beq (Nat.succ n) 0 = false := rfl
theorem hasN_cons {α : Type} (x : α) (l : List α) (n : Nat) : hasN (x :: l) (n + 1) = hasN l n := rfl
theorem takeN_cons {α : Type} (x : α) (l : List α) (n : Nat) : takeN (x :: l) (n + 1) = x :: takeN l n := rfl
theorem cut0_eq {α : Type} : ∀ (l : List α) (n : Nat), cut0 l n = Bool.rec none (some (takeN l n)) (hasN l n)
  | [], 0 => rfl
  | [], n + 1 => rfl
  | x :: l, 0 => rfl
  | x :: l, n + 1 => by
    rw [hasN_cons, takeN_cons]
    show (match cut0 l n with | some r => some (x :: r) | none => none) = _
    rw [cut0_eq l n]
    cases hasN l n <;> rfl
theorem cutF_eq {α : Type} : ∀ (l : List α) (o n : Nat), cutF l o n = cut l o n
  | [], 0, 0 => rfl
  | [], 0, n + 1 => rfl
  | [], o + 1, n => rfl
  | x :: l, 0, n => by
    show (Bool.rec none (some (takeN (x :: l) n)) (hasN (x :: l) n) : Option (List α)) = cut0 (x :: l) n
    rw [cut0_eq]
  | x :: l, o + 1, n => by
    show cutF l o n = cut l o n
    exact cutF_eq l o n
def oneOf {α : Type} : Option (List α) → Option α
  | some [v] => some v
  | _ => none
theorem nthF_eq {α : Type} : ∀ (l : List α) (o : Nat), oneOf (cut l o 1) = nthF l o
  | [], 0 => rfl
  | [], o + 1 => rfl
  | x :: [], 0 => rfl
  | x :: y :: l, 0 => rfl
  | x :: l, o + 1 => by
    show oneOf (cut l o 1) = nthF l o
    exact nthF_eq l o
theorem over0_eq {α : Type} : ∀ (l r : List α), over0 l r = Bool.rec none (some (appF r (dropF l r))) (fitsF l r)
  | [], [] => rfl
  | [], y :: r => rfl
  | x :: l, [] => rfl
  | x :: l, y :: r => by
    show (match over0 l r with | some q => some (y :: q) | none => none) = Bool.rec none (some (y :: appF r (dropF l r))) (fitsF l r)
    rw [over0_eq l r]
    cases fitsF l r <;> rfl
theorem overF_eq {α : Type} : ∀ (l : List α) (o : Nat) (r : List α), overF l o r = over l o r
  | [], 0, [] => rfl
  | [], 0, y :: r => rfl
  | [], o + 1, r => rfl
  | x :: l, 0, r => by
    show (Bool.rec none (some (appF r (dropF (x :: l) r))) (fitsF (x :: l) r) : Option (List α)) = over0 (x :: l) r
    rw [over0_eq]
  | x :: l, o + 1, r => by
    show (Option.rec none (fun q => some (x :: q)) (overF l o r) : Option (List α)) = (match over l o r with | some q => some (x :: q) | none => none)
    rw [overF_eq l o r]
    cases over l o r <;> rfl
theorem oneF_eq (v : Value) : oneF v = one v := by cases v <;> rfl
theorem allOne_eq (l : List Value) : allOne l = l.all one := by
  induction l with
  | nil => rfl
  | cons x l ih =>
    show (Bool.rec false (allOne l) (oneF x) : Bool) = (one x && l.all one)
    rw [oneF_eq, ih]; cases one x <;> rfl
theorem cellsF_eq (v : Value) : cellsF v = v.cells.toList := by cases v <;> rfl
theorem cellsF_len (v : Value) : lenN (cellsF v) = v.cells.size := by rw [lenN_eq, cellsF_eq]; simp
theorem rdF_eq (h : Hp) (k o n : Nat) : rdF h k o n = h.rd k o n := by
  unfold rdF Hp.rd
  cases h.t.get k with
  | none => rfl
  | some q => cases q <;> first | rfl | exact cutF_eq _ _ _
theorem rd1F_eq (h : Hp) (k o : Nat) : rd1F h k o = oneOf (h.rd k o 1) := by
  unfold rd1F Hp.rd
  cases h.t.get k with
  | none => rfl
  | some q => cases q <;> first | rfl | exact (nthF_eq _ _).symm
theorem fl_eq (h : Hp) : fl h = h := by
  obtain ⟨n, t, low⟩ := h
  cases low <;> rfl
theorem wrF_eq (h : Hp) (k o : Nat) (vs : List Value) : wrF h k o vs = h.wr k o vs := by
  unfold wrF Hp.wr
  cases h.t.get k with
  | none => rfl
  | some q =>
    cases q with
    | cells us =>
      show (Bool.rec none (Option.rec none (fun q => some (fl (h.set k (.cells q)))) (overF us o vs)) (allOne vs) : Option Hp) = cond (vs.all one) (match over us o vs with | some q => some (h.set k (.cells q)) | none => none) none
      rw [allOne_eq, overF_eq]
      cases vs.all one
      · rfl
      · cases over us o vs with
        | none => rfl
        | some q => show some (fl (h.set k (.cells q))) = _; rw [fl_eq]; rfl
    | _ => rfl
theorem dropNt_eq {α : Type} : ∀ (l : List α) (n : Nat), dropNt l n = l.drop n
  | [], n => by cases n <;> rfl
  | x :: l, 0 => rfl
  | x :: l, n + 1 => dropNt_eq l n
theorem takeN_eq {α : Type} : ∀ (l : List α) (n : Nat), takeN l n = l.take n
  | [], n => by cases n <;> rfl
  | x :: l, 0 => rfl
  | x :: l, n + 1 => by rw [takeN_cons, takeN_eq l n]; rfl
theorem cutS_eq (s : ByteArray) (a b : Nat) : cutS s.data.toList a b = .string (s.extract a b) := by
  unfold cutS
  rw [dropNt_eq, takeN_eq]
  congr 1
  apply ByteArray.ext
  rw [ByteArray.data_extract]
  apply Array.ext'
  rw [Array.toList_extract, List.extract_eq_take_drop]
  rfl
theorem eqBy_eq : ∀ (l r : List UInt8), eqBy l r = (l == r)
  | [], [] => rfl
  | [], y :: r => rfl
  | x :: l, [] => rfl
  | x :: l, y :: r => by
    show (Bool.rec false (eqBy l r) (Nat.beq x.toNat y.toNat) : Bool) = ((x == y) && (l == r))
    rw [eqBy_eq l r]
    have h : Nat.beq x.toNat y.toNat = (x == y) := by
      rw [Bool.eq_iff_iff]
      simp [Nat.beq_eq, UInt8.toNat_inj]
    rw [h]
    cases x == y <;> rfl
theorem nthF_get {α : Type} : ∀ (l : List α) (o : Nat), nthF l o = l[o]?
  | [], o => by cases o <;> rfl
  | x :: l, 0 => rfl
  | x :: l, o + 1 => by
    rw [List.getElem?_cons_succ, ← nthF_get l o]
    rfl
theorem strK_eq {a b : Value} {f : Bool → Bool} {g : Option Value} (hg : ∀ s r, a = .string s → b = .string r → some (.bool (f (s.data.toList == r.data.toList))) = g) : strK a b f g = g := by
  unfold strK
  cases a with
  | string s =>
    cases b with
    | string r =>
      show some (.bool (f (eqBy s.data.toList r.data.toList))) = g
      rw [eqBy_eq]
      exact hg s r rfl rfl
    | _ => rfl
  | _ => rfl
theorem ptrOf_ld {P : Program} {h : Hp} {t : TypeId} (a : Value) : ld P h t a = (match ptrOf a with | some q => ldAt P h t q.1 q.2 | none => none) := by
  cases a with
  | pointer a =>
    cases a with
    | none => rfl
    | some x => obtain ⟨k, o, s⟩ := x; cases s <;> rfl
  | _ => rfl
section
variable {P : Program} {G : GS}
theorem ldAF_eq {h : Hp} {t : TypeId} {n : Nat} (ha : agg P t = some true) (hn : size P t = some n) (a : Value) : ldAF n h a = ld P h t a := by
  rw [ptrOf_ld]
  unfold ldAF
  cases ptrOf a with
  | none => rfl
  | some q =>
    show (Option.rec none (fun l => some (Value.agg ⟨l⟩)) (rdF h q.1 q.2 n) : Option Value) = ldAt P h t q.1 q.2
    unfold ldAt
    rw [ha, hn, rdF_eq]
    simp only
    cases h.rd q.1 q.2 n <;> rfl
theorem ld1F_eq {h : Hp} {t : TypeId} (ha : agg P t = some false) (a : Value) : ld1F h a = ld P h t a := by
  rw [ptrOf_ld]
  unfold ld1F
  cases ptrOf a with
  | none => rfl
  | some q =>
    show rd1F h q.1 q.2 = ldAt P h t q.1 q.2
    unfold ldAt
    rw [ha, rd1F_eq]
    show oneOf (h.rd q.1 q.2 1) = (match h.rd q.1 q.2 1 with | some [v] => some v | _ => none)
    rcases h.rd q.1 q.2 1 with _ | _ | ⟨v, _ | _⟩ <;> rfl
theorem ldF_eq (h : Hp) (t : TypeId) (a : Value) : ldF P h t a = ld P h t a := by
  cases ha : agg P t with
  | none =>
    rw [ptrOf_ld]
    unfold ldF ldAt
    rw [ha]
    cases ptrOf a <;> rfl
  | some b =>
    cases b with
    | false => rw [← ld1F_eq ha]; unfold ldF; rw [ha]
    | true =>
      cases hs : size P t with
      | none =>
        rw [ptrOf_ld]
        unfold ldF ldAt
        rw [ha, hs]
        cases ptrOf a <;> rfl
      | some n => rw [← ldAF_eq ha hs]; unfold ldF; rw [ha, hs]
theorem getF (t : T Value) (i : Nat) : (GF.rec (fun g => g t) (gfn Value i) : Option Value) = t.get i := rfl
theorem resF_eq (sz : Nat) (t : T Value) (mks : List DI) (h : Hp) : ∀ (l : List ResultVar), resF P t h l = resOf P ⟨sz, t, mks⟩ h l
  | [] => rfl
  | r :: l => by
    have ih := resF_eq sz t mks h l
    show (Option.rec none (fun v => Option.rec none (fun l => some (v :: l)) (resF P t h l)) (ResultVar.rec (fun i => t.get i) (fun a ty => Option.rec none (fun p => ldF P h ty p) (t.get a)) r) : Option (List Value)) =
      (match (match r with | .tmp i => t.get i | .cell a ty => (match t.get a with | some p => ld P h ty p | none => none) : Option Value) with
        | some v => (match resOf P ⟨sz, t, mks⟩ h l with | some l => some (v :: l) | none => none)
        | none => none)
    rw [ih]
    cases r with
    | tmp i =>
      show (Option.rec none (fun v => Option.rec none (fun l => some (v :: l)) (resOf P ⟨sz, t, mks⟩ h l)) (t.get i) : Option (List Value)) = (match t.get i with
        | some v => (match resOf P ⟨sz, t, mks⟩ h l with | some l => some (v :: l) | none => none)
        | none => none)
      cases t.get i with
      | none => rfl
      | some v => cases resOf P ⟨sz, t, mks⟩ h l <;> rfl
    | cell a ty =>
      show (Option.rec none (fun v => Option.rec none (fun l => some (v :: l)) (resOf P ⟨sz, t, mks⟩ h l)) (Option.rec none (fun p => ldF P h ty p) (t.get a)) : Option (List Value)) = (match (match t.get a with | some p => ld P h ty p | none => none) with
        | some v => (match resOf P ⟨sz, t, mks⟩ h l with | some l => some (v :: l) | none => none)
        | none => none)
      cases t.get a with
      | none => rfl
      | some p =>
        show (Option.rec none (fun v => Option.rec none (fun l => some (v :: l)) (resOf P ⟨sz, t, mks⟩ h l)) (ldF P h ty p) : Option (List Value)) = (match ld P h ty p with
        | some v => (match resOf P ⟨sz, t, mks⟩ h l with | some l => some (v :: l) | none => none)
        | none => none)
        rw [ldF_eq]
        cases ld P h ty p with
        | none => rfl
        | some v => cases resOf P ⟨sz, t, mks⟩ h l <;> rfl
theorem retE_eq (dc : FuncId → List Value → UM → Hp → Option (UM × Hp)) (rs : List ResultVar) (e : En) (h : Hp) : retE P dc rs e h = endL P rs e (leave dc e.mks .rt h) := by
  obtain ⟨sz, t, mks⟩ := e
  cases mks with
  | cons d ds => rfl
  | nil =>
    show (Option.rec .fail (fun l => .ok (tupOf l) h) (resF P t h rs) : CRes) = (match resOf P ⟨sz, t, []⟩ h rs with
      | some l => .ok (tupOf l) h
      | none => .fail)
    rw [resF_eq sz t []]
    cases resOf P ⟨sz, t, []⟩ h rs <;> rfl
theorem retF_eq (ih : Option Nat → Code → En → Hp → Res) (rs : List ResultVar) (r : Res) : retF P (deferC P G ih) rs r = endC P G ih rs r := by
  cases r with
  | fail => rfl
  | ok x e h => cases x <;> first | exact retE_eq _ rs e h | rfl
theorem dropK_eq {α : Type} (l : List α) : ∀ k, dropK l k = l.drop (16 * k)
  | 0 => rfl
  | k + 1 => by
    show dropNt (dropK l k) 16 = _
    rw [dropNt_eq, dropK_eq l k, List.drop_drop, Nat.mul_succ]
theorem nthK_eq {α : Type} (l : List α) (n : Nat) : nthK l n = l[n]? := by
  unfold nthK
  rw [nthF_get, dropK_eq, List.getElem?_drop]
  congr 1
  exact Nat.div_add_mod n 16
theorem callF0_eq (ih : Option Nat → Code → En → Hp → Res) (f : FuncId) (args : List Value) (h : Hp) : callF0 P G ih f args h = callC0 P G ih f args h := by
  unfold callF0 callC0 finfo
  rw [nthK_eq, Array.getElem?_toList]
  cases P.funcs[f]? with
  | none => rfl
  | some fn =>
    simp only
    cases fn.body with
    | none => rfl
    | some c =>
      show (Bool.rec .fail (retF P (deferC P G ih) fn.results.toList (ih none c ⟨fn.ntmps, envOf args 0 .nil, []⟩ h)) (Nat.ble args.length fn.ntmps) : CRes) = _
      cases Nat.ble args.length fn.ntmps with
      | false => rfl
      | true => exact retF_eq ih _ _
theorem callF_eq (ih : Option Nat → Code → En → Hp → Res) (f : FuncId) (args : List Value) (h : Hp) : callF P G ih f args h = callC P G ih f args h := by
  unfold callF callC
  cases G.stub f with
  | none => exact callF0_eq ih f args h
  | some g =>
    show (Option.rec (callF0 P G ih f args h) (fun r => r) (g args h) : CRes) = (match g args h with | some r => r | none => callC0 P G ih f args h)
    cases g args h with
    | none => exact callF0_eq ih f args h
    | some r => rfl
theorem pK_eq (d : Nat) (ih : Kk) (v : Value) (t : T Value) (h : Hp) : pK (pfn Value d) ih v t h = ih (T.put v t d) h := by
  unfold pK T.put; cases pfn Value d; rfl
theorem evK_eq (sz : Nat) (t : T Value) (mks : List DI) (x : Operand) (k : Value → Res) : evK (compA G x) t k = (match ev G ⟨sz, t, mks⟩ x with | some v => k v | none => .fail) := by
  cases x with
  | tmp i =>
    show (Option.rec .fail k (t.get i) : Res) = (match t.get i with | some v => k v | none => .fail)
    cases t.get i <;> rfl
  | const v =>
    show evK (Bool.rec .bad (.val v) (constOk v)) t k = (match cond (constOk v) (some v) none with | some v => k v | none => .fail)
    cases constOk v <;> rfl
  | global g =>
    show evK (Bool.rec .bad (.val (.pointer (some ⟨g, 0, none⟩))) (Nat.blt g G.n)) t k = (match cond (Nat.blt g G.n) (some (.pointer (some ⟨g, 0, none⟩))) none with | some v => k v | none => .fail)
    cases Nat.blt g G.n <;> rfl
  | func f => rfl
theorem isBool_spec (v : Value) : (∃ b, v = .bool b ∧ isBool v = some b) ∨ ((∀ b, v ≠ .bool b) ∧ isBool v = none) := by
  cases v <;> first | exact .inl ⟨_, rfl, rfl⟩ | exact .inr ⟨fun b h => (by cases h), rfl⟩

variable (call : FuncId → List Value → Hp → CRes) (round : Nat → List Value → Hp → CRes) (all : Array Oper) (sz : Nat) (mks : List DI)
/-- what comes behind an operation with a place -/
noncomputable def doneR (ih : Kk) (t : T Value) (d : Nat) : CRes → Res
  | .ok v h => ih (T.put v t d) h
  | .fail => .fail
  | .panic v h => .ok (.pan v) ⟨sz, t, mks⟩ h
/-- what comes behind one without -/
noncomputable def doneN (ih : Kk) (t : T Value) : CRes → Res
  | .ok _ h => ih t h
  | .fail => .fail
  | .panic v h => .ok (.pan v) ⟨sz, t, mks⟩ h
theorem spec_none {o : Oper} (hs : isSpec o.op = false) (ro : Option Nat) (all : Array Oper) (e : En) (h : Hp) (ih : En → Hp → Res) : specC G ro all o e h ih = .fail := by
  unfold specC
  split
  · unfold spec0
    split
    · rename_i x ho; rw [ho] at hs; cases hs
    · rename_i c ho; rw [ho] at hs; cases hs
    · rfl
  · rfl
theorem spec_same {o : Oper} (hs : isDefer o.op = false) (ro ro' : Option Nat) (all : Array Oper) (e : En) (h : Hp) (ih ih' : En → Hp → Res) : specC G ro all o e h ih = specC G ro' all o e h ih' := by
  unfold specC
  split
  · unfold spec0
    split
    · rfl
    · rename_i c ho; rw [ho] at hs; cases hs
    · rfl
  · rfl
theorem gen_dst {o : Oper} (hg : o.guard = none) {d : Nat} (hd : o.dst = some d) (hb : Nat.blt d sz = true) (ih : Kk) (t : T Value) (h : Hp) (hs : isSpec o.op = false) :
    aGen P G call round all sz mks o ih t h = doneR sz mks ih t d (opDone call round h (opC P G ⟨sz, t, mks⟩ h o)) := by
  unfold aGen oneOp
  rw [spec_none hs]
  unfold wantedC
  rw [hg, hd]
  simp only
  cases opDone call round h (opC P G ⟨sz, t, mks⟩ h o) with
  | fail => rfl
  | panic v h2 => rfl
  | ok v h2 =>
    show (match cond (Nat.blt d sz) (some (⟨sz, T.put v t d, mks⟩ : En)) none with | some e => ih e.t h2 | none => .fail) = ih (T.put v t d) h2
    rw [hb]; rfl
theorem gen_no {o : Oper} (hg : o.guard = none) (hd : o.dst = none) (ih : Kk) (t : T Value) (h : Hp) (hs : isSpec o.op = false) :
    aGen P G call round all sz mks o ih t h = doneN sz mks ih t (opDone call round h (opC P G ⟨sz, t, mks⟩ h o)) := by
  unfold aGen oneOp
  rw [spec_none hs]
  unfold wantedC
  rw [hg, hd]
  simp only
  cases opDone call round h (opC P G ⟨sz, t, mks⟩ h o) <;> rfl
theorem done_ofV (ih : Kk) (t : T Value) (d : Nat) (h : Hp) (x : Option Value) : doneR sz mks ih t d (opDone call round h (Out.ofV h x)) = (match x with | some v => ih (T.put v t d) h | none => .fail) := by
  cases x <;> rfl
end
end Cx
end Go.Proofs.YtkljlbilhcdjhaaGreatDoor
