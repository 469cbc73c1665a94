/- Closed runs: the executor whose next steps are handed on, over tables that are written out: what is done is forgotten. -/
import Derived.Test.YtkljlbilhcdjhaaGreatDoorFym
import Derived.KernelRfl
import Derived.Test.YtkljlbilhcdjhaaGreatDoorFz
namespace Go.Proofs.YtkljlbilhcdjhaaGreatDoor
set_option linter.unusedVariables false
namespace Cx
open Go
/-! Tables, a step at a time. -/
noncomputable def kg0 {α : Type} (r : N16 α) (k : α → Bool) : Bool := N16.rec (motive := fun _ => Bool) (fun c0 c1 c2 c3 c4 c5 c6 c7 c8 c9 c10 c11 c12 c13 c14 c15 => k c0) r
noncomputable def kg1 {α : Type} (r : N16 α) (k : α → Bool) : Bool := N16.rec (motive := fun _ => Bool) (fun c0 c1 c2 c3 c4 c5 c6 c7 c8 c9 c10 c11 c12 c13 c14 c15 => k c1) r
noncomputable def kg2 {α : Type} (r : N16 α) (k : α → Bool) : Bool := N16.rec (motive := fun _ => Bool) (fun c0 c1 c2 c3 c4 c5 c6 c7 c8 c9 c10 c11 c12 c13 c14 c15 => k c2) r
noncomputable def kg3 {α : Type} (r : N16 α) (k : α → Bool) : Bool := N16.rec (motive := fun _ => Bool) (fun c0 c1 c2 c3 c4 c5 c6 c7 c8 c9 c10 c11 c12 c13 c14 c15 => k c3) r
noncomputable def kg4 {α : Type} (r : N16 α) (k : α → Bool) : Bool := N16.rec (motive := fun _ => Bool) (fun c0 c1 c2 c3 c4 c5 c6 c7 c8 c9 c10 c11 c12 c13 c14 c15 => k c4) r
noncomputable def kg5 {α : Type} (r : N16 α) (k : α → Bool) : Bool := N16.rec (motive := fun _ => Bool) (fun c0 c1 c2 c3 c4 c5 c6 c7 c8 c9 c10 c11 c12 c13 c14 c15 => k c5) r
noncomputable def kg6 {α : Type} (r : N16 α) (k : α → Bool) : Bool := N16.rec (motive := fun _ => Bool) (fun c0 c1 c2 c3 c4 c5 c6 c7 c8 c9 c10 c11 c12 c13 c14 c15 => k c6) r
noncomputable def kg7 {α : Type} (r : N16 α) (k : α → Bool) : Bool := N16.rec (motive := fun _ => Bool) (fun c0 c1 c2 c3 c4 c5 c6 c7 c8 c9 c10 c11 c12 c13 c14 c15 => k c7) r
noncomputable def kg8 {α : Type} (r : N16 α) (k : α → Bool) : Bool := N16.rec (motive := fun _ => Bool) (fun c0 c1 c2 c3 c4 c5 c6 c7 c8 c9 c10 c11 c12 c13 c14 c15 => k c8) r
noncomputable def kg9 {α : Type} (r : N16 α) (k : α → Bool) : Bool := N16.rec (motive := fun _ => Bool) (fun c0 c1 c2 c3 c4 c5 c6 c7 c8 c9 c10 c11 c12 c13 c14 c15 => k c9) r
noncomputable def kg10 {α : Type} (r : N16 α) (k : α → Bool) : Bool := N16.rec (motive := fun _ => Bool) (fun c0 c1 c2 c3 c4 c5 c6 c7 c8 c9 c10 c11 c12 c13 c14 c15 => k c10) r
noncomputable def kg11 {α : Type} (r : N16 α) (k : α → Bool) : Bool := N16.rec (motive := fun _ => Bool) (fun c0 c1 c2 c3 c4 c5 c6 c7 c8 c9 c10 c11 c12 c13 c14 c15 => k c11) r
noncomputable def kg12 {α : Type} (r : N16 α) (k : α → Bool) : Bool := N16.rec (motive := fun _ => Bool) (fun c0 c1 c2 c3 c4 c5 c6 c7 c8 c9 c10 c11 c12 c13 c14 c15 => k c12) r
noncomputable def kg13 {α : Type} (r : N16 α) (k : α → Bool) : Bool := N16.rec (motive := fun _ => Bool) (fun c0 c1 c2 c3 c4 c5 c6 c7 c8 c9 c10 c11 c12 c13 c14 c15 => k c13) r
noncomputable def kg14 {α : Type} (r : N16 α) (k : α → Bool) : Bool := N16.rec (motive := fun _ => Bool) (fun c0 c1 c2 c3 c4 c5 c6 c7 c8 c9 c10 c11 c12 c13 c14 c15 => k c14) r
noncomputable def kg15 {α : Type} (r : N16 α) (k : α → Bool) : Bool := N16.rec (motive := fun _ => Bool) (fun c0 c1 c2 c3 c4 c5 c6 c7 c8 c9 c10 c11 c12 c13 c14 c15 => k c15) r
noncomputable def ku0 {α : Type} (r : N16 α) (u : α → (α → Bool) → Bool) (k : N16 α → Bool) : Bool := N16.rec (motive := fun _ => Bool) (fun c0 c1 c2 c3 c4 c5 c6 c7 c8 c9 c10 c11 c12 c13 c14 c15 => u c0 fun x => k ⟨x, c1, c2, c3, c4, c5, c6, c7, c8, c9, c10, c11, c12, c13, c14, c15⟩) r
noncomputable def ku1 {α : Type} (r : N16 α) (u : α → (α → Bool) → Bool) (k : N16 α → Bool) : Bool := N16.rec (motive := fun _ => Bool) (fun c0 c1 c2 c3 c4 c5 c6 c7 c8 c9 c10 c11 c12 c13 c14 c15 => u c1 fun x => k ⟨c0, x, c2, c3, c4, c5, c6, c7, c8, c9, c10, c11, c12, c13, c14, c15⟩) r
noncomputable def ku2 {α : Type} (r : N16 α) (u : α → (α → Bool) → Bool) (k : N16 α → Bool) : Bool := N16.rec (motive := fun _ => Bool) (fun c0 c1 c2 c3 c4 c5 c6 c7 c8 c9 c10 c11 c12 c13 c14 c15 => u c2 fun x => k ⟨c0, c1, x, c3, c4, c5, c6, c7, c8, c9, c10, c11, c12, c13, c14, c15⟩) r
noncomputable def ku3 {α : Type} (r : N16 α) (u : α → (α → Bool) → Bool) (k : N16 α → Bool) : Bool := N16.rec (motive := fun _ => Bool) (fun c0 c1 c2 c3 c4 c5 c6 c7 c8 c9 c10 c11 c12 c13 c14 c15 => u c3 fun x => k ⟨c0, c1, c2, x, c4, c5, c6, c7, c8, c9, c10, c11, c12, c13, c14, c15⟩) r
noncomputable def ku4 {α : Type} (r : N16 α) (u : α → (α → Bool) → Bool) (k : N16 α → Bool) : Bool := N16.rec (motive := fun _ => Bool) (fun c0 c1 c2 c3 c4 c5 c6 c7 c8 c9 c10 c11 c12 c13 c14 c15 => u c4 fun x => k ⟨c0, c1, c2, c3, x, c5, c6, c7, c8, c9, c10, c11, c12, c13, c14, c15⟩) r
noncomputable def ku5 {α : Type} (r : N16 α) (u : α → (α → Bool) → Bool) (k : N16 α → Bool) : Bool := N16.rec (motive := fun _ => Bool) (fun c0 c1 c2 c3 c4 c5 c6 c7 c8 c9 c10 c11 c12 c13 c14 c15 => u c5 fun x => k ⟨c0, c1, c2, c3, c4, x, c6, c7, c8, c9, c10, c11, c12, c13, c14, c15⟩) r
noncomputable def ku6 {α : Type} (r : N16 α) (u : α → (α → Bool) → Bool) (k : N16 α → Bool) : Bool := N16.rec (motive := fun _ => Bool) (fun c0 c1 c2 c3 c4 c5 c6 c7 c8 c9 c10 c11 c12 c13 c14 c15 => u c6 fun x => k ⟨c0, c1, c2, c3, c4, c5, x, c7, c8, c9, c10, c11, c12, c13, c14, c15⟩) r
noncomputable def ku7 {α : Type} (r : N16 α) (u : α → (α → Bool) → Bool) (k : N16 α → Bool) : Bool := N16.rec (motive := fun _ => Bool) (fun c0 c1 c2 c3 c4 c5 c6 c7 c8 c9 c10 c11 c12 c13 c14 c15 => u c7 fun x => k ⟨c0, c1, c2, c3, c4, c5, c6, x, c8, c9, c10, c11, c12, c13, c14, c15⟩) r
noncomputable def ku8 {α : Type} (r : N16 α) (u : α → (α → Bool) → Bool) (k : N16 α → Bool) : Bool := N16.rec (motive := fun _ => Bool) (fun c0 c1 c2 c3 c4 c5 c6 c7 c8 c9 c10 c11 c12 c13 c14 c15 => u c8 fun x => k ⟨c0, c1, c2, c3, c4, c5, c6, c7, x, c9, c10, c11, c12, c13, c14, c15⟩) r
noncomputable def ku9 {α : Type} (r : N16 α) (u : α → (α → Bool) → Bool) (k : N16 α → Bool) : Bool := N16.rec (motive := fun _ => Bool) (fun c0 c1 c2 c3 c4 c5 c6 c7 c8 c9 c10 c11 c12 c13 c14 c15 => u c9 fun x => k ⟨c0, c1, c2, c3, c4, c5, c6, c7, c8, x, c10, c11, c12, c13, c14, c15⟩) r
noncomputable def ku10 {α : Type} (r : N16 α) (u : α → (α → Bool) → Bool) (k : N16 α → Bool) : Bool := N16.rec (motive := fun _ => Bool) (fun c0 c1 c2 c3 c4 c5 c6 c7 c8 c9 c10 c11 c12 c13 c14 c15 => u c10 fun x => k ⟨c0, c1, c2, c3, c4, c5, c6, c7, c8, c9, x, c11, c12, c13, c14, c15⟩) r
noncomputable def ku11 {α : Type} (r : N16 α) (u : α → (α → Bool) → Bool) (k : N16 α → Bool) : Bool := N16.rec (motive := fun _ => Bool) (fun c0 c1 c2 c3 c4 c5 c6 c7 c8 c9 c10 c11 c12 c13 c14 c15 => u c11 fun x => k ⟨c0, c1, c2, c3, c4, c5, c6, c7, c8, c9, c10, x, c12, c13, c14, c15⟩) r
noncomputable def ku12 {α : Type} (r : N16 α) (u : α → (α → Bool) → Bool) (k : N16 α → Bool) : Bool := N16.rec (motive := fun _ => Bool) (fun c0 c1 c2 c3 c4 c5 c6 c7 c8 c9 c10 c11 c12 c13 c14 c15 => u c12 fun x => k ⟨c0, c1, c2, c3, c4, c5, c6, c7, c8, c9, c10, c11, x, c13, c14, c15⟩) r
noncomputable def ku13 {α : Type} (r : N16 α) (u : α → (α → Bool) → Bool) (k : N16 α → Bool) : Bool := N16.rec (motive := fun _ => Bool) (fun c0 c1 c2 c3 c4 c5 c6 c7 c8 c9 c10 c11 c12 c13 c14 c15 => u c13 fun x => k ⟨c0, c1, c2, c3, c4, c5, c6, c7, c8, c9, c10, c11, c12, x, c14, c15⟩) r
noncomputable def ku14 {α : Type} (r : N16 α) (u : α → (α → Bool) → Bool) (k : N16 α → Bool) : Bool := N16.rec (motive := fun _ => Bool) (fun c0 c1 c2 c3 c4 c5 c6 c7 c8 c9 c10 c11 c12 c13 c14 c15 => u c14 fun x => k ⟨c0, c1, c2, c3, c4, c5, c6, c7, c8, c9, c10, c11, c12, c13, x, c15⟩) r
noncomputable def ku15 {α : Type} (r : N16 α) (u : α → (α → Bool) → Bool) (k : N16 α → Bool) : Bool := N16.rec (motive := fun _ => Bool) (fun c0 c1 c2 c3 c4 c5 c6 c7 c8 c9 c10 c11 c12 c13 c14 c15 => u c15 fun x => k ⟨c0, c1, c2, c3, c4, c5, c6, c7, c8, c9, c10, c11, c12, c13, c14, x⟩) r
inductive KG (α : Type) where
  | mk (g : N16 α → (α → Bool) → Bool)
inductive KU (α : Type) where
  | mk (u : N16 α → (α → (α → Bool) → Bool) → (N16 α → Bool) → Bool)
inductive KGet (α : Type) where
  | mk (g : T α → (Option α → Bool) → Bool)
inductive KPut (α : Type) where
  | mk (p : α → T α → (T α → Bool) → Bool)
section
variable (α : Type)
noncomputable def selKG (n : Nat) : KG α := Nat.rec (motive := fun _ => KG α) (.mk kg0) (fun n _ => Nat.rec (motive := fun _ => KG α) (.mk kg1) (fun n _ => Nat.rec (motive := fun _ => KG α) (.mk kg2) (fun n _ => Nat.rec (motive := fun _ => KG α) (.mk kg3) (fun n _ => Nat.rec (motive := fun _ => KG α) (.mk kg4) (fun n _ => Nat.rec (motive := fun _ => KG α) (.mk kg5) (fun n _ => Nat.rec (motive := fun _ => KG α) (.mk kg6) (fun n _ => Nat.rec (motive := fun _ => KG α) (.mk kg7) (fun n _ => Nat.rec (motive := fun _ => KG α) (.mk kg8) (fun n _ => Nat.rec (motive := fun _ => KG α) (.mk kg9) (fun n _ => Nat.rec (motive := fun _ => KG α) (.mk kg10) (fun n _ => Nat.rec (motive := fun _ => KG α) (.mk kg11) (fun n _ => Nat.rec (motive := fun _ => KG α) (.mk kg12) (fun n _ => Nat.rec (motive := fun _ => KG α) (.mk kg13) (fun n _ => Nat.rec (motive := fun _ => KG α) (.mk kg14) (fun n _ => .mk kg15) n) n) n) n) n) n) n) n) n) n) n) n) n) n) n
noncomputable def selKU (n : Nat) : KU α := Nat.rec (motive := fun _ => KU α) (.mk ku0) (fun n _ => Nat.rec (motive := fun _ => KU α) (.mk ku1) (fun n _ => Nat.rec (motive := fun _ => KU α) (.mk ku2) (fun n _ => Nat.rec (motive := fun _ => KU α) (.mk ku3) (fun n _ => Nat.rec (motive := fun _ => KU α) (.mk ku4) (fun n _ => Nat.rec (motive := fun _ => KU α) (.mk ku5) (fun n _ => Nat.rec (motive := fun _ => KU α) (.mk ku6) (fun n _ => Nat.rec (motive := fun _ => KU α) (.mk ku7) (fun n _ => Nat.rec (motive := fun _ => KU α) (.mk ku8) (fun n _ => Nat.rec (motive := fun _ => KU α) (.mk ku9) (fun n _ => Nat.rec (motive := fun _ => KU α) (.mk ku10) (fun n _ => Nat.rec (motive := fun _ => KU α) (.mk ku11) (fun n _ => Nat.rec (motive := fun _ => KU α) (.mk ku12) (fun n _ => Nat.rec (motive := fun _ => KU α) (.mk ku13) (fun n _ => Nat.rec (motive := fun _ => KU α) (.mk ku14) (fun n _ => .mk ku15) n) n) n) n) n) n) n) n) n) n) n) n) n) n) n
noncomputable def kget1 (n : Nat) : KGet α := KG.rec (motive := fun _ => KGet α) (fun g => .mk fun t k => T.rec (motive := fun _ => Bool) (fun a _ _ _ _ => g a k) t) (selKG (Option α) n)
noncomputable def kget2 (n : Nat) : KGet α := KG.rec (motive := fun _ => KGet α) (fun g => KG.rec (motive := fun _ => KGet α) (fun g' => .mk fun t k => T.rec (motive := fun _ => Bool) (fun _ b _ _ _ => g b fun r => g' r k) t) (selKG (Option α) (Nat.mod n 16))) (selKG (N16 (Option α)) (Nat.div n 16))
noncomputable def kget3 (n : Nat) : KGet α := KG.rec (motive := fun _ => KGet α) (fun g => KG.rec (motive := fun _ => KGet α) (fun g' => KG.rec (motive := fun _ => KGet α) (fun g'' => .mk fun t k => T.rec (motive := fun _ => Bool) (fun _ _ c _ _ => g c fun r => g' r fun r => g'' r k) t) (selKG (Option α) (Nat.mod n 16))) (selKG (N16 (Option α)) (Nat.mod (Nat.div n 16) 16))) (selKG (N16 (N16 (Option α))) (Nat.div n 256))
noncomputable def kget4 (n : Nat) : KGet α := KG.rec (motive := fun _ => KGet α) (fun g => KG.rec (motive := fun _ => KGet α) (fun g' => KG.rec (motive := fun _ => KGet α) (fun g'' => KG.rec (motive := fun _ => KGet α) (fun g3 => .mk fun t k => T.rec (motive := fun _ => Bool) (fun _ _ _ d _ => g d fun r => g' r fun r => g'' r fun r => g3 r k) t) (selKG (Option α) (Nat.mod n 16))) (selKG (N16 (Option α)) (Nat.mod (Nat.div n 16) 16))) (selKG (N16 (N16 (Option α))) (Nat.mod (Nat.div n 256) 16))) (selKG (N16 (N16 (N16 (Option α)))) (Nat.div n 4096))
noncomputable def kget (n : Nat) : KGet α :=
  Bool.rec (Bool.rec (Bool.rec (Bool.rec (.mk fun t k => k (t.f n)) (kget4 α (Nat.sub n 4368)) (Nat.blt n 69904)) (kget3 α (Nat.sub n 272)) (Nat.blt n 4368)) (kget2 α (Nat.sub n 16)) (Nat.blt n 272)) (kget1 α n) (Nat.blt n 16)
noncomputable def kput1 (n : Nat) : KPut α := KU.rec (motive := fun _ => KPut α) (fun u => .mk fun v t k => T.rec (motive := fun _ => Bool) (fun a b c d f => u a (fun _ k => k (some v)) fun a => k ⟨a, b, c, d, f⟩) t) (selKU (Option α) n)
noncomputable def kput2 (n : Nat) : KPut α := KU.rec (motive := fun _ => KPut α) (fun u => KU.rec (motive := fun _ => KPut α) (fun u' => .mk fun v t k => T.rec (motive := fun _ => Bool) (fun a b c d f => u b (fun r k => u' r (fun _ k => k (some v)) k) fun b => k ⟨a, b, c, d, f⟩) t) (selKU (Option α) (Nat.mod n 16))) (selKU (N16 (Option α)) (Nat.div n 16))
noncomputable def kput3 (n : Nat) : KPut α := KU.rec (motive := fun _ => KPut α) (fun u => KU.rec (motive := fun _ => KPut α) (fun u' => KU.rec (motive := fun _ => KPut α) (fun u'' => .mk fun v t k => T.rec (motive := fun _ => Bool) (fun a b c d f => u c (fun r k => u' r (fun r k => u'' r (fun _ k => k (some v)) k) k) fun c => k ⟨a, b, c, d, f⟩) t) (selKU (Option α) (Nat.mod n 16))) (selKU (N16 (Option α)) (Nat.mod (Nat.div n 16) 16))) (selKU (N16 (N16 (Option α))) (Nat.div n 256))
noncomputable def kput4 (n : Nat) : KPut α := KU.rec (motive := fun _ => KPut α) (fun u => KU.rec (motive := fun _ => KPut α) (fun u' => KU.rec (motive := fun _ => KPut α) (fun u'' => KU.rec (motive := fun _ => KPut α) (fun u3 => .mk fun v t k => T.rec (motive := fun _ => Bool) (fun a b c d f => u d (fun r k => u' r (fun r k => u'' r (fun r k => u3 r (fun _ k => k (some v)) k) k) k) fun d => k ⟨a, b, c, d, f⟩) t) (selKU (Option α) (Nat.mod n 16))) (selKU (N16 (Option α)) (Nat.mod (Nat.div n 16) 16))) (selKU (N16 (N16 (Option α))) (Nat.mod (Nat.div n 256) 16))) (selKU (N16 (N16 (N16 (Option α)))) (Nat.div n 4096))
noncomputable def kput (n : Nat) : KPut α :=
  Bool.rec (Bool.rec (Bool.rec (Bool.rec (.mk fun v t k => k (T.uf n (setTo v) t)) (kput4 α (Nat.sub n 4368)) (Nat.blt n 69904)) (kput3 α (Nat.sub n 272)) (Nat.blt n 4368)) (kput2 α (Nat.sub n 16)) (Nat.blt n 272)) (kput1 α n) (Nat.blt n 16)
end
noncomputable def tget {α : Type} (t : T α) (n : Nat) (c : Option α → Bool) : Bool := KGet.rec (motive := fun _ => Bool) (fun g => g t c) (kget α n)
noncomputable def tput {α : Type} (n : Nat) (v : α) (t : T α) (c : T α → Bool) : Bool := KPut.rec (motive := fun _ => Bool) (fun p => p v t c) (kput α n)
/-! Memory. -/
section
variable (z : Bool)
noncomputable def getB (h : Hp) (b : Nat) (c : LObj → Bool) : Bool := Hp.rec (motive := fun _ => Bool) (fun _ ht _ => tget ht b fun o => Option.rec (motive := fun _ => Bool) z c o) h
noncomputable def setB (h : Hp) (b : Nat) (o : LObj) (c : Hp → Bool) : Bool := Hp.rec (motive := fun _ => Bool) (fun n ht low => tput b o ht fun ht => Bool.rec (motive := fun _ => Bool) (c ⟨n, ht, b⟩) (c ⟨n, ht, low⟩) (Nat.ble low b)) h
noncomputable def newB (h : Hp) (o : LObj) (c : Nat → Hp → Bool) : Bool := Hp.rec (motive := fun _ => Bool) (fun n ht low => Nat.rec (motive := fun _ => Bool) (tput 0 o ht fun ht => c 0 ⟨Nat.succ 0, ht, low⟩) (fun m _ => tput (Nat.succ m) o ht fun ht => c (Nat.succ m) ⟨Nat.succ (Nat.succ m), ht, low⟩) n) h
noncomputable def rowK (o : LObj) (c : List Value → Bool) : Bool := LObj.casesOn (motive := fun _ => Bool) o c c (fun _ => z) z z z (fun _ => z) (fun _ _ _ _ _ _ => z)
noncomputable def rowW (o : LObj) (c : List Value → Bool) : Bool := LObj.casesOn (motive := fun _ => Bool) o c (fun _ => z) (fun _ => z) z z z (fun _ => z) (fun _ _ _ _ _ _ => z)
noncomputable def rowAt (l : List Value) (n : Nat) (c : Value → Bool) : Bool := List.rec (motive := fun _ => Nat → Bool) (fun _ => z) (fun x _ ih o => Nat.rec (motive := fun _ => Bool) (c x) (fun m _ => ih m) o) l n
noncomputable def takeK (l : List Value) : Nat → (List Value → Bool) → Bool :=
  List.rec (motive := fun _ => Nat → (List Value → Bool) → Bool) (fun n c => Nat.rec (motive := fun _ => Bool) (c []) (fun _ _ => z) n) (fun x _ ih n c => Nat.rec (motive := fun _ => Bool) (c []) (fun m _ => ih m fun r => c (x :: r)) n) l
noncomputable def cutK (l : List Value) (o n : Nat) (c : List Value → Bool) : Bool :=
  List.rec (motive := fun _ => Nat → Bool) (fun o => Nat.rec (motive := fun _ => Bool) (takeK z [] n c) (fun _ _ => z) o) (fun x l ih o => Nat.rec (motive := fun _ => Bool) (takeK z (x :: l) n c) (fun m _ => ih m) o) l o
noncomputable def overK (l : List Value) : Nat → List Value → (List Value → Bool) → Bool :=
  List.rec (motive := fun _ => Nat → List Value → (List Value → Bool) → Bool) (fun o r c => Nat.rec (motive := fun _ => Bool) (List.rec (motive := fun _ => Bool) (c []) (fun _ _ _ => z) r) (fun _ _ => z) o)
    (fun x l ih o r c => Nat.rec (motive := fun _ => Bool) (List.rec (motive := fun _ => Bool) (c (x :: l)) (fun y r _ => ih 0 r fun q => c (y :: q)) r) (fun m _ => ih m r fun q => c (x :: q)) o) l
noncomputable def okRow (l : List Value) (n : Nat) (c : Bool) : Bool := List.rec (motive := fun _ => Nat → Bool) (fun n => Nat.rec (motive := fun _ => Bool) c (fun _ _ => z) n) (fun x _ ih n => Bool.rec (motive := fun _ => Bool) z (Nat.rec (motive := fun _ => Bool) z (fun m _ => ih m) n) (oneF x)) l n
noncomputable def lenC (l : List Value) (n : Nat) (c : Bool) : Bool := List.rec (motive := fun _ => Nat → Bool) (fun n => Nat.rec (motive := fun _ => Bool) c (fun _ _ => z) n) (fun x _ ih n => Nat.rec (motive := fun _ => Bool) z (fun m _ => ih m) n) l n
noncomputable def ptrK (v : Value) (c : Nat → Nat → Bool) : Bool := @Value.casesOn (fun _ => Bool) v (fun _ => z) (fun _ _ => z) (fun _ _ => z) (fun _ _ _ => z) (fun _ => z) (fun p => Option.rec (motive := fun _ => Bool) z (fun ad => Addr.rec (motive := fun _ => Bool) (fun b o s => Option.rec (motive := fun _ => Bool) (c b o) (fun _ => z) s) ad) p) (fun _ _ _ => z) (fun _ => z) (fun _ => z) (fun _ _ _ => z) z (fun _ _ => z) z (fun _ => z) (fun _ => z)
noncomputable def ld1K (h : Hp) (a : Value) (c : Value → Bool) : Bool := ptrK z a fun b o => getB z h b fun ob => rowK z ob fun vs => rowAt z vs o c
noncomputable def ldAK (n : Nat) (h : Hp) (a : Value) (c : Value → Bool) : Bool := ptrK z a fun b o => getB z h b fun ob => rowK z ob fun vs => cutK z vs o n fun l => c (.agg ⟨l⟩)
noncomputable def ldTK (P : Program) (h : Hp) (ty : TypeId) (a : Value) (c : Value → Bool) : Bool := Option.rec (motive := fun _ => Bool) z (fun b => Bool.rec (motive := fun _ => Bool) (ld1K z h a c) (Option.rec (motive := fun _ => Bool) z (fun n => ldAK z n h a c) (size P ty)) b) (agg P ty)
noncomputable def intC (v : Value) (c : IntKind → Nat → Bool) : Bool := @Value.casesOn (fun _ => Bool) v (fun _ => z) (fun k i => Int.rec (motive := fun _ => Bool) (fun n => c k n) (fun _ => z) i) (fun _ _ => z) (fun _ _ _ => z) (fun _ => z) (fun _ => z) (fun _ _ _ => z) (fun _ => z) (fun _ => z) (fun _ _ _ => z) z (fun _ _ => z) z (fun _ => z) (fun _ => z)
noncomputable def numN (n : Nat) (c : Nat → Bool) : Bool := Nat.rec (motive := fun _ => Bool) (c 0) (fun m _ => c (Nat.succ m)) n
/-- an operation on two whole numbers, told ahead; behind it what serves other values -/
inductive K2 where
  | cmp (c : Nat → Nat → Bool) (g : Value → Value → Option Value)
  | add (g : Value → Value → Option Value)
  | sub (g : Value → Value → Option Value)
noncomputable def optC (g : Option Value) (c : Value → Bool) : Bool := Option.rec (motive := fun _ => Bool) z c g
noncomputable def cmpC (f : Nat → Nat → Bool) (g : Value → Value → Option Value) (a b : Value) (c : Value → Bool) : Bool :=
  intC (optC z (g a b) c) a fun k m => intC (optC z (g a b) c) b fun k' n => Bool.rec (motive := fun _ => Bool) (optC z (g a b) c) (Bool.rec (motive := fun _ => Bool) (c (.bool false)) (c (.bool true)) (f m n)) (Nat.beq (kidx k) (kidx k'))
noncomputable def i64C (k r : Nat) (ok : Bool) (G : Bool) (c : Value → Bool) : Bool := Bool.rec (motive := fun _ => Bool) G (Bool.rec (motive := fun _ => Bool) G (numN r fun r => c (.int .i64 (.ofNat r))) ok) (Nat.beq k 3)
noncomputable def addC (g : Value → Value → Option Value) (a b : Value) (c : Value → Bool) : Bool :=
  intC (optC z (g a b) c) a fun k m => intC (optC z (g a b) c) b fun k' n => Bool.rec (motive := fun _ => Bool) (optC z (g a b) c) (i64C (kidx k) (Nat.add m n) (Nat.ble (Nat.add m n) 9223372036854775807) (optC z (g a b) c) c) (Nat.beq (kidx k) (kidx k'))
noncomputable def subC (g : Value → Value → Option Value) (a b : Value) (c : Value → Bool) : Bool :=
  intC (optC z (g a b) c) a fun k m => intC (optC z (g a b) c) b fun k' n => Bool.rec (motive := fun _ => Bool) (optC z (g a b) c) (i64C (kidx k) (Nat.sub m n) (and (Nat.ble n m) (Nat.ble m 9223372036854775807)) (optC z (g a b) c) c) (Nat.beq (kidx k) (kidx k'))
noncomputable def k2C (f : K2) (a b : Value) (c : Value → Bool) : Bool := K2.rec (motive := fun _ => Bool) (fun f g => cmpC z f g a b c) (fun g => addC z g a b c) (fun g => subC z g a b c) f
noncomputable def faC (off : Nat) (a : Value) (c : Value → Bool) : Bool := ptrK z a fun b o => numN (Nat.add o off) fun n => c (.pointer (some ⟨b, n, none⟩))
noncomputable def nlC (a : Value) (c : Value → Bool) : Bool := @Value.casesOn (fun _ => Bool) a (fun _ => z) (fun _ _ => z) (fun _ _ => z) (fun _ _ _ => z) (fun _ => z) (fun p => Option.rec (motive := fun _ => Bool) z (fun _ => c a) p) (fun _ _ _ => z) (fun _ => z) (fun _ => z) (fun _ _ _ => optC z (nilF ⟨0, .nil, 0⟩ a) c) z (fun _ _ => z) z (fun _ => z) (fun _ => z)
noncomputable def lnC (a : Value) (c : Value → Bool) : Bool := @Value.casesOn (fun _ => Bool) a (fun _ => z) (fun _ _ => z) (fun _ _ => z) (fun _ _ _ => z) (fun _ => z) (fun _ => z) (fun _ n _ => c (.int .i64 (.ofNat n))) (fun _ => z) (fun _ => z) (fun _ _ _ => z) z (fun _ _ => z) z (fun _ => z) (fun _ => z)
end
/-! Operations. -/
inductive KA where
  | tmp (n : Nat)
  | val (v : Value)
  | bad
inductive KM where
  | mv (x : KA) (p : Nat)
  | v1 (x : KA) (F : Hp → Value → Option Value) (p : Nat)
  | l1 (x : KA) (p : Nat)
  | la (n : Nat) (x : KA) (p : Nat)
  | v2 (x y : KA) (F : Hp → Value → Value → Option Value) (p : Nat)
  | k2 (f : K2) (x y : KA) (p : Nat)
  | fa (off : Nat) (x : KA) (p : Nat)
  | nl (x : KA) (p : Nat)
  | ln (x : KA) (p : Nat)
  | pk (c x y : KA) (p : Nat)
  | nw (z : List Value) (p : Nat)
  | bx (x : KA) (p : Nat)
  | st (n : Nat) (x y : KA)
  | cl (f : FuncId) (l : List KA) (p : Option Nat)
  | bd (l : List (KA × Nat × Nat)) (z : List Value) (p : Nat)
  | mo (l : List KA) (F : List Value → Hp → Out) (p : Nat)
  | cv (x : KA) (l : List KA) (p : Option Nat)
  | gen (o : Oper)
  | gd (g : Nat) (want : Bool) (m : KM) (p : Option Nat)
abbrev Kb := T Value → Hp → Bool
section
variable (k : Res → Bool)
noncomputable def evN (x : KA) (t : T Value) (c : Value → Bool) : Bool := KA.rec (motive := fun _ => Bool) (fun n => tget t n fun o => Option.rec (motive := fun _ => Bool) (k .fail) c o) (fun v => c v) (k .fail) x
noncomputable def evNL (t : T Value) (l : List KA) (c : List Value → Bool) : Bool := List.rec (motive := fun _ => (List Value → Bool) → Bool) (fun c => c []) (fun x _ ih c => evN k x t fun v => ih fun l => c (v :: l)) l c
noncomputable def nMv (x : KA) (p : Nat) (ih : Kb) (t : T Value) (h : Hp) : Bool := evN k x t fun v => tput p v t fun t => ih t h
noncomputable def nV1 (x : KA) (F : Hp → Value → Option Value) (p : Nat) (ih : Kb) (t : T Value) (h : Hp) : Bool := evN k x t fun a => Option.rec (motive := fun _ => Bool) (k .fail) (fun v => tput p v t fun t => ih t h) (F h a)
noncomputable def nL1 (x : KA) (p : Nat) (ih : Kb) (t : T Value) (h : Hp) : Bool := evN k x t fun a => ld1K (k .fail) h a fun v => tput p v t fun t => ih t h
noncomputable def nLa (n : Nat) (x : KA) (p : Nat) (ih : Kb) (t : T Value) (h : Hp) : Bool := evN k x t fun a => ldAK (k .fail) n h a fun v => tput p v t fun t => ih t h
noncomputable def nV2 (x y : KA) (F : Hp → Value → Value → Option Value) (p : Nat) (ih : Kb) (t : T Value) (h : Hp) : Bool := evN k x t fun a => evN k y t fun b => Option.rec (motive := fun _ => Bool) (k .fail) (fun v => tput p v t fun t => ih t h) (F h a b)
noncomputable def nK2 (f : K2) (x y : KA) (p : Nat) (ih : Kb) (t : T Value) (h : Hp) : Bool := evN k x t fun a => evN k y t fun b => k2C (k .fail) f a b fun v => tput p v t fun t => ih t h
noncomputable def nFa (off : Nat) (x : KA) (p : Nat) (ih : Kb) (t : T Value) (h : Hp) : Bool := evN k x t fun a => faC (k .fail) off a fun v => tput p v t fun t => ih t h
noncomputable def nNl (x : KA) (p : Nat) (ih : Kb) (t : T Value) (h : Hp) : Bool := evN k x t fun a => nlC (k .fail) a fun v => tput p v t fun t => ih t h
noncomputable def nLn (x : KA) (p : Nat) (ih : Kb) (t : T Value) (h : Hp) : Bool := evN k x t fun a => lnC (k .fail) a fun v => tput p v t fun t => ih t h
noncomputable def nPk (c x y : KA) (p : Nat) (ih : Kb) (t : T Value) (h : Hp) : Bool := evN k c t fun c => Option.rec (motive := fun _ => Bool) (k .fail) (fun b => Bool.rec (motive := fun _ => Bool) (evN k y t fun v => tput p v t fun t => ih t h) (evN k x t fun v => tput p v t fun t => ih t h) b) (isBool c)
noncomputable def putNew (p : Nat) (vs : List Value) (ih : Kb) (t : T Value) (h : Hp) : Bool := newB h (.cells vs) fun b h => tput p (.pointer (some ⟨b, 0, none⟩)) t fun t => ih t h
noncomputable def nNw (vs : List Value) (p : Nat) (ih : Kb) (t : T Value) (h : Hp) : Bool := putNew p vs ih t h
noncomputable def nBx (x : KA) (p : Nat) (ih : Kb) (t : T Value) (h : Hp) : Bool := evN k x t fun v => putNew p (cellsF v) ih t h
noncomputable def nSt (n : Nat) (x y : KA) (ih : Kb) (t : T Value) (h : Hp) : Bool := evN k x t fun a => evN k y t fun v => ptrK (k .fail) a fun b o => okRow (k .fail) (cellsF v) n (getB (k .fail) h b fun ob => rowW (k .fail) ob fun us => overK (k .fail) us o (cellsF v) fun q => setB h b (.cells q) fun h => ih t h)
noncomputable def nAfter (sz : Nat) (mks : List DI) (p : Option Nat) (ih : Kb) (t : T Value) (r : CRes) : Bool :=
  CRes.rec (motive := fun _ => Bool) (fun v h => Option.rec (motive := fun _ => Bool) (ih t h) (fun p => tput p v t fun t => ih t h) p) (k .fail) (fun v h => k (.ok (.pan v) ⟨sz, t, mks⟩ h)) r
abbrev CK := FuncId → List Value → Hp → (CRes → Bool) → Bool
noncomputable def nCl (sz : Nat) (mks : List DI) (callK : CK) (f : FuncId) (l : List KA) (p : Option Nat) (ih : Kb) (t : T Value) (h : Hp) : Bool := evNL k t l fun vs => callK f vs h (nAfter k sz mks p ih t)
noncomputable def nBd (l : List (KA × Nat × Nat)) (z : List Value) (p : Nat) (ih : Kb) (t : T Value) (h : Hp) : Bool :=
  List.rec (motive := fun _ => List Value → Bool) (fun cells => tput p (.agg ⟨cells⟩) t fun t => ih t h) (fun x _ ihl cells => evN k x.1 t fun v => lenC (k .fail) (cellsF v) x.2.2 (overK (k .fail) cells x.2.1 (cellsF v) ihl)) l z
noncomputable def nMo (l : List KA) (F : List Value → Hp → Out) (p : Nat) (ih : Kb) (t : T Value) (h : Hp) : Bool :=
  evNL k t l fun vs => Out.rec (motive := fun _ => Bool) (fun v h => Hp.rec (motive := fun _ => Bool) (fun n ht low => Nat.rec (motive := fun _ => Bool) (tput p v t fun t => ih t ⟨n, ht, 0⟩) (fun m _ => tput p v t fun t => ih t ⟨n, ht, Nat.succ m⟩) low) h) (fun _ _ => k .fail) (fun _ _ => k .fail) (k .fail) (F vs h)
abbrev RK := Nat → List Value → Hp → (CRes → Bool) → Bool
noncomputable def nDone (callK : CK) (roundK : RK) (h : Hp) (c : CRes → Bool) (o : Out) : Bool :=
  Out.rec (motive := fun _ => Bool) (fun v h => c (.ok v h)) (fun f args => callK f args h c) (fun l args => roundK l args h c) (c .fail) o
noncomputable def nCv (sz : Nat) (mks : List DI) (callK : CK) (roundK : RK) (x : KA) (l : List KA) (p : Option Nat) (ih : Kb) (t : T Value) (h : Hp) : Bool :=
  evNL k t l fun vs => evN k x t fun f => nDone callK roundK h (nAfter k sz mks p ih t) (callV vs (some f))
noncomputable def nGd (g : Nat) (want : Bool) (_ : KM) (p : Option Nat) (ihm : Kb → Kb) (ih : Kb) (t : T Value) (h : Hp) : Bool :=
  tget t g fun o => Option.rec (motive := fun _ => Bool) (k .fail) (fun v => Option.rec (motive := fun _ => Bool) (k .fail) (fun c => Bool.rec (motive := fun _ => Bool) (Option.rec (motive := fun _ => Bool) (ih t h) (fun p => tput p undef t fun t => ih t h) p) (ihm ih t h) c) (wantB v want)) o
section
variable (P : Program) (G : GS) (call : FuncId → List Value → Hp → CRes) (callK : CK) (round : Nat → List Value → Hp → CRes) (roundK : RK) (all : Array Oper) (sz : Nat) (mks : List DI)
noncomputable def nGen (o : Oper) (ih : Kb) (t : T Value) (h : Hp) : Bool :=
  match oneOp P G call round all o ⟨sz, t, mks⟩ h with
  | .ok v h => Option.rec (motive := fun _ => Bool) (ih t h) (fun d => Bool.rec (motive := fun _ => Bool) (k .fail) (tput d v t fun t => ih t h) (Nat.blt d sz)) o.dst
  | .fail => k (specC G (some 0) all o ⟨sz, t, mks⟩ h (fun _ _ => .fail))
  | .panic v h => k (.ok (.pan v) ⟨sz, t, mks⟩ h)
noncomputable def oneN (m : KM) (ih : Kb) : Kb := KM.rec (motive := fun _ => Kb → Kb) (nMv k) (nV1 k) (nL1 k) (nLa k) (nV2 k) (nK2 k) (nFa k) (nNl k) (nLn k) (nPk k) nNw (nBx k) (nSt k) (nCl k sz mks callK) (nBd k) (nMo k) (nCv k sz mks callK roundK) (nGen k P G call round all sz mks) (nGd k) m ih
noncomputable def runN (l : List KM) : Kb :=
  List.rec (motive := fun _ => Kb) (fun t h => k (.ok .normal ⟨sz, t, mks⟩ h)) (fun m _ ih => KM.rec (motive := fun _ => Kb → Kb) (nMv k) (nV1 k) (nL1 k) (nLa k) (nV2 k) (nK2 k) (nFa k) (nNl k) (nLn k) (nPk k) nNw (nBx k) (nSt k) (nCl k sz mks callK) (nBd k) (nMo k) (nCv k sz mks callK roundK) (nGen k P G call round all sz mks) (nGd k) m ih) l
end
end
section
variable (P : Program) (G : GS)
noncomputable def kA (x : Operand) : KA :=
  Operand.rec (fun t => .tmp t) (fun v => Bool.rec .bad (.val v) (constOk v)) (fun g => Bool.rec .bad (.val (.pointer (some ⟨g, 0, none⟩))) (Nat.blt g G.n)) (fun f => .val (.func (.func f) #[] #[])) x
/-- the parts of a struct, told ahead: place and cells -/
noncomputable def partsK (fs : Array Field) (l : List (Nat × Operand)) : Option (List (KA × Nat × Nat)) :=
  List.rec (some []) (fun p _ ih => match placeS P fs p.1, ih with | some q, some r => some ((kA G p.2, q) :: r) | _, _ => none) l
noncomputable def kcSlice (t : TypeId) (x : Operand) (lo hi mx : Option Operand) : Oper → Nat → KM := fun o p => match mx with
  | some _ => .gen o
  | none => .mo ((x :: (opL lo ++ opL hi)).map (kA G)) (sliceF P t (isSm lo) (isSm hi)) p
abbrev Kp := Oper → Nat → KM
noncomputable def kcMove (x : Operand) : Kp := fun _ p => .mv (kA G x) p
noncomputable def kBin (op : BinOp) (g : Value → Value → Option Value) (x y : KA) (p : Nat) : KM :=
  match op with
  | .eql => .k2 (.cmp (fun m n => Nat.beq m n) (fun a b => strK a b (fun c => c) (g a b))) x y p
  | .neq => .k2 (.cmp (fun m n => not (Nat.beq m n)) (fun a b => strK a b (fun c => not c) (g a b))) x y p
  | .lss => .k2 (.cmp (fun m n => Nat.blt m n) g) x y p
  | .leq => .k2 (.cmp (fun m n => Nat.ble m n) g) x y p
  | .gtr => .k2 (.cmp (fun m n => Nat.blt n m) g) x y p
  | .geq => .k2 (.cmp (fun m n => Nat.ble n m) g) x y p
  | .add => .k2 (.add g) x y p
  | .sub => .k2 (.sub g) x y p
  | op => .v2 x y (fastF op g) p
noncomputable def kcBin (op : BinOp) (t : TypeId) (x y : Operand) (_ : TypeId) : Kp := fun _ p => kBin op (binV P (isConst x || isConst y) op t) (kA G x) (kA G y) p
noncomputable def kcLoad (t : TypeId) (x : Operand) : Kp := fun o p => match agg P t, size P t with
  | some true, some n => .la n (kA G x) p
  | some false, _ => .l1 (kA G x) p
  | _, _ => .gen o
noncomputable def kcFld (s : TypeId) (x : Operand) (f : Nat) : Kp := fun o p => match fieldOff P s f with | some off => .fa off (kA G x) p | none => .gen o
noncomputable def kcNil (x : Operand) : Kp := fun _ p => .nl (kA G x) p
noncomputable def kcUn (op : UnOp) (_ : TypeId) (x : Operand) : Kp := fun _ p => .v1 (kA G x) (unF P op) p
noncomputable def kcIdx (t : TypeId) (x ix : Operand) : Kp := fun _ p => .v2 (kA G x) (kA G ix) (idxF P t) p
noncomputable def kcPick (c x y : Operand) : Kp := fun _ p => .pk (kA G c) (kA G x) (kA G y) p
noncomputable def kcAlloc (t : TypeId) : Kp := fun o p => match zero P t with | some z => .nw z.cells.toList p | none => .gen o
noncomputable def kcBuild (t : TypeId) (parts : Array (Nat × Operand)) : Kp := fun o p => match zero P t, P.underlying t with
  | some z, some (.struct fs) => cond (sizesOk P fs) (match partsK P G fs parts.toList with | some l => .bd l z.cells.toList p | none => .gen o) (.gen o)
  | _, _ => .gen o
noncomputable def kcBox (_ : TypeId) (x : Operand) : Kp := fun _ p => .bx (kA G x) p
/-- the length of a row: known to be one ahead -/
def isRow (ts : Array TypeId) : Bool := match ts[0]? with
  | some t => (match P.underlying t with | some (.slice _) => true | _ => false)
  | none => false
noncomputable def kcCall (c : Call) : Kp := fun o p => match callee c with | some f => .cl f (c.args.toList.map (kA G)) (some p) | none => (match isLen c with | some x => Bool.rec (.v1 (kA G x) (lenF P c.argTypes) p) (.ln (kA G x) p) (isRow P c.argTypes) | none => (match bltF P c with | some F => .mo (c.args.toList.map (kA G)) F p | none => (match calleeV c with | some f => .cv (kA G f) (c.args.toList.map (kA G)) (some p) | none => .gen o)))
noncomputable def kcConv (src dst : TypeId) (x : Operand) : Kp := fun _ p => .mo [kA G x] (convF P src dst) p
noncomputable def kcIface (t : TypeId) (x : Operand) : Kp := fun o p => match P.underlying t with | some (.interface _) => .gen o | some _ => .v1 (kA G x) (ifaceF t) p | none => .gen o
noncomputable def kcAssert (x : Operand) (_ t : TypeId) (ok : Bool) : Kp := fun _ p => .mo [kA G x] (assertF P t ok) p
noncomputable def kcIndex (t : TypeId) (x ix : Operand) : Kp := fun _ p => .v2 (kA G x) (kA G ix) (indexF P t) p
noncomputable def kcMkSl (t : TypeId) (l c : Operand) : Kp := fun _ p => .mo [kA G l, kA G c] (mkSlF P t) p
noncomputable def kcFunc (fn : Fn) (first cap : Array Operand) : Kp := fun o p => match fn with | .func f => .mo ((first.toList ++ cap.toList).map (kA G)) (funcF f first.toList.length) p | _ => .gen o
noncomputable def kcBs (t : TypeId) (len : Nat) (parts : Array (Nat × Operand)) : Kp := fun _ p => .mo (parts.toList.map fun q => kA G q.2) (bsF P t len (parts.toList.map (·.1))) p
noncomputable def kcExt (x : Operand) (ix : Nat) : Kp := fun _ p => .v1 (kA G x) (extF ix) p
noncomputable def kcField (s : TypeId) (x : Operand) (f : Nat) : Kp := fun _ p => .v1 (kA G x) (fun _ a => fieldV P s f a) p
noncomputable def opTabK : GF Op Kp := .mk fun op => Op.rec (motive := fun _ => Kp) (move := kcMove G) (assign := kcMove G) (pick := kcPick G) (alloc := kcAlloc P) (box := kcBox G) (build := kcBuild P G) (buildSlice := kcBs P G) (insert := fun _ _ _ _ => (fun o _ => .gen o)) (load := kcLoad P G) (store := fun _ _ _ => (fun o _ => .gen o)) (ready := fun _ => (fun o _ => .gen o)) (waits := fun _ => (fun o _ => .gen o)) (nilCheck := kcNil G) (binOp := kcBin P G) (unOp := kcUn P G) (convert := kcConv P G) (sliceToArrayPointer := fun _ _ => (fun o _ => .gen o)) (makeInterface := kcIface P G) (makeFunc := kcFunc G) (makeMap := fun _ _ => (fun o _ => .gen o)) (makeChan := fun _ _ => (fun o _ => .gen o)) (makeSlice := kcMkSl P G) (slice := kcSlice P G) (fieldAddr := kcFld P G) (field := kcField P G) (indexAddr := kcIdx P G) (index := kcIndex P G) (lookup := fun _ _ _ _ => (fun o _ => .gen o)) (mapUpdate := fun _ _ _ _ => (fun o _ => .gen o)) (mapEntry := fun _ _ _ => (fun o _ => .gen o)) (entryStore := fun _ _ _ _ => (fun o _ => .gen o)) (range := fun _ _ => (fun o _ => .gen o)) (next := fun _ _ => (fun o _ => .gen o)) (entry := fun _ => (fun o _ => .gen o)) (typeAssert := kcAssert P G) (extract := kcExt G) (call := kcCall P G) (go := fun _ => (fun o _ => .gen o)) (defer := fun _ => (fun o _ => .gen o)) (panic := fun _ => (fun o _ => .gen o)) (send := fun _ _ => (fun o _ => .gen o)) (recv := fun _ _ _ => (fun o _ => .gen o)) (select := fun _ _ => (fun o _ => .gen o)) op
noncomputable def kOp (o : Oper) (p : Nat) : KM := GF.rec (fun g => g o.op o p) (opTabK P G)
noncomputable def knStore (t : TypeId) (x y : Operand) : Oper → KM := fun o => match size P t with | some n => .st n (kA G x) (kA G y) | none => .gen o
noncomputable def knCall (c : Call) : Oper → KM := fun o => match callee c with | some f => .cl f (c.args.toList.map (kA G)) none | none => (match calleeV c with | some f => .cv (kA G f) (c.args.toList.map (kA G)) none | none => .gen o)
noncomputable def opTabKN : GF Op (Oper → KM) := .mk fun op => Op.rec (motive := fun _ => Oper → KM) (move := fun _ => (fun o => .gen o)) (assign := fun _ => (fun o => .gen o)) (pick := fun _ _ _ => (fun o => .gen o)) (alloc := fun _ => (fun o => .gen o)) (box := fun _ _ => (fun o => .gen o)) (build := fun _ _ => (fun o => .gen o)) (buildSlice := fun _ _ _ => (fun o => .gen o)) (insert := fun _ _ _ _ => (fun o => .gen o)) (load := fun _ _ => (fun o => .gen o)) (store := knStore P G) (ready := fun _ => (fun o => .gen o)) (waits := fun _ => (fun o => .gen o)) (nilCheck := fun _ => (fun o => .gen o)) (binOp := fun _ _ _ _ _ => (fun o => .gen o)) (unOp := fun _ _ _ => (fun o => .gen o)) (convert := fun _ _ _ => (fun o => .gen o)) (sliceToArrayPointer := fun _ _ => (fun o => .gen o)) (makeInterface := fun _ _ => (fun o => .gen o)) (makeFunc := fun _ _ _ => (fun o => .gen o)) (makeMap := fun _ _ => (fun o => .gen o)) (makeChan := fun _ _ => (fun o => .gen o)) (makeSlice := fun _ _ _ => (fun o => .gen o)) (slice := fun _ _ _ _ _ => (fun o => .gen o)) (fieldAddr := fun _ _ _ => (fun o => .gen o)) (field := fun _ _ _ => (fun o => .gen o)) (indexAddr := fun _ _ _ => (fun o => .gen o)) (index := fun _ _ _ => (fun o => .gen o)) (lookup := fun _ _ _ _ => (fun o => .gen o)) (mapUpdate := fun _ _ _ _ => (fun o => .gen o)) (mapEntry := fun _ _ _ => (fun o => .gen o)) (entryStore := fun _ _ _ _ => (fun o => .gen o)) (range := fun _ _ => (fun o => .gen o)) (next := fun _ _ => (fun o => .gen o)) (entry := fun _ => (fun o => .gen o)) (typeAssert := fun _ _ _ _ => (fun o => .gen o)) (extract := fun _ _ => (fun o => .gen o)) (call := knCall G) (go := fun _ => (fun o => .gen o)) (defer := fun _ => (fun o => .gen o)) (panic := fun _ => (fun o => .gen o)) (send := fun _ _ => (fun o => .gen o)) (recv := fun _ _ _ => (fun o => .gen o)) (select := fun _ _ => (fun o => .gen o)) op
noncomputable def kNo (o : Oper) : KM := GF.rec (fun g => g o.op o) (opTabKN P G)

noncomputable def kDst (sz : Nat) (d : Option Nat) (c : Option Nat → KM) (no : KM) : KM := Option.rec (c none) (fun d => Bool.rec no (c (some d)) (Nat.blt d sz)) d
noncomputable def kOne (o : Oper) (p : Option Nat) : KM := Option.rec (kNo P G o) (fun p => kOp P G o p) p
noncomputable def kComp (all : Array Oper) (sz : Nat) (o : Oper) : KM :=
  Option.rec (kDst sz o.dst (fun p => kOne P G o p) (.gen o)) (fun g => Option.rec (.gen o) (fun d => Bool.rec (kDst sz o.dst (fun p => .gd d g.2 (kOne P G { o with guard := none } p) p) (.gen o)) (.gen o) (isSpecR o.op)) (guardAt all g.1)) o.guard
noncomputable def kComps (all : Array Oper) (sz : Nat) (l : List Oper) : List KM := List.rec [] (fun o _ ih => kComp P G all sz o :: ih) l
/-! Regions that draw. -/
inductive KD where
  | sl (m : KM)
  | ld (x : KA) (m : KM)
  | nw (m : KM)
  | st (ok : Bool) (x : KA) (m : KM)
  | cl (f : FuncId) (l : List KA) (p : Option Nat)
  | cv (x : KA) (l : List KA) (p : Option Nat)
  | ge (o : Oper)
  | gd (g : Nat) (want : Bool) (m : KD) (p : Option Nat) (o : Oper)
abbrev Kdp := Nat → Array Oper → KM → Oper → Option Nat → KD
noncomputable def kdLoad (_ : TypeId) (x : Operand) : Kdp := fun _ _ m _ _ => .ld (kA G x) m
noncomputable def kdStore (_ : TypeId) (x _ : Operand) : Kdp := fun i all m _ _ => .st (barrierS all i) (kA G x) m
noncomputable def kdSlot : Kdp := fun _ _ m _ _ => .sl m
noncomputable def kdNew : Kdp := fun _ _ m _ _ => .nw m
noncomputable def kdOther : Kdp := fun _ _ _ o _ => .ge o
noncomputable def kdCall (c : Call) : Kdp := fun _ _ m o p => Bool.rec (match callee c with | some f => .cl f (c.args.toList.map (kA G)) p | none => (match calleeV c with | some f => .cv (kA G f) (c.args.toList.map (kA G)) p | none => .ge o)) (.sl m) (slotOp (.call c))
noncomputable def opTabKD : GF Op Kdp := .mk fun op => Op.rec (motive := fun _ => Kdp) (move := fun _ => kdSlot) (assign := fun _ => kdSlot) (pick := fun _ _ _ => kdSlot) (alloc := fun _ => kdNew) (box := fun _ _ => kdNew) (build := fun _ _ => kdSlot) (buildSlice := fun _ _ _ => kdNew) (insert := fun _ _ _ _ => kdOther) (load := kdLoad G) (store := kdStore G) (ready := fun _ => kdOther) (waits := fun _ => kdOther) (nilCheck := fun _ => kdSlot) (binOp := fun _ _ _ _ _ => kdSlot) (unOp := fun _ _ _ => kdSlot) (convert := fun _ _ _ => kdOther) (sliceToArrayPointer := fun _ _ => kdOther) (makeInterface := fun _ _ => kdSlot) (makeFunc := fun _ _ _ => kdSlot) (makeMap := fun _ _ => kdNew) (makeChan := fun _ _ => kdOther) (makeSlice := fun _ _ _ => kdNew) (slice := fun _ _ _ _ _ => kdOther) (fieldAddr := fun _ _ _ => kdSlot) (field := fun _ _ _ => kdSlot) (indexAddr := fun _ _ _ => kdSlot) (index := fun _ _ _ => kdSlot) (lookup := fun _ _ _ _ => kdOther) (mapUpdate := fun _ _ _ _ => kdOther) (mapEntry := fun _ _ _ => kdOther) (entryStore := fun _ _ _ _ => kdOther) (range := fun _ _ => kdOther) (next := fun _ _ => kdOther) (entry := fun _ => kdOther) (typeAssert := fun _ _ _ _ => kdSlot) (extract := fun _ _ => kdSlot) (call := kdCall G) (go := fun _ => kdOther) (defer := fun _ => kdOther) (panic := fun _ => kdOther) (send := fun _ _ => kdOther) (recv := fun _ _ _ => kdOther) (select := fun _ _ => kdOther) op
noncomputable def kCompD (all : Array Oper) (sz : Nat) (i : Nat) (o : Oper) : KD :=
  Option.rec (GF.rec (fun g => g o.op i all (kComp P G all sz o) o o.dst) (opTabKD G)) (fun g => Option.rec (.ge o) (fun d => Bool.rec (Option.rec (.gd d g.2 (GF.rec (fun g => g o.op i all (kComp P G all sz { o with guard := none }) { o with guard := none } o.dst) (opTabKD G)) none o) (fun q => Bool.rec (.ge o) (.gd d g.2 (GF.rec (fun g => g o.op i all (kComp P G all sz { o with guard := none }) { o with guard := none } o.dst) (opTabKD G)) (some q) o) (Nat.blt q sz)) o.dst) (.ge o) (isSpecR o.op)) (guardAt all g.1)) o.guard
noncomputable def kCompsD (all : Array Oper) (sz : Nat) (l : List Oper) : Nat → List (KD × List Oper) := List.rec (fun _ => []) (fun o l ih i => (kCompD P G all sz i o, l) :: ih (Nat.succ i)) l
section
variable (k : Res → Bool) (call : FuncId → List Value → Hp → CRes) (callK : CK) (round : Nat → List Value → Hp → CRes) (roundK : RK) (all : Array Oper) (sz : Nat) (mks : List DI)
abbrev KdN := Nat → List (Nat × AE) → Kb
noncomputable def goN (rest : List Oper) (ih : KdN) (i : Nat) (acc : List (Nat × AE)) : Kb := fun t h =>
  Hp.rec (motive := fun _ => Bool) (fun n ht low => Nat.rec (motive := fun _ => Bool) (Bool.rec (motive := fun _ => Bool) (k (runDrawn P G call round all rest i acc ⟨sz, t, mks⟩ ⟨n, ht, 0⟩)) (ih i acc t ⟨n, ht, 0⟩) (Nat.ble 0 n)) (fun m _ => Bool.rec (motive := fun _ => Bool) (k (runDrawn P G call round all rest i acc ⟨sz, t, mks⟩ ⟨n, ht, Nat.succ m⟩)) (ih i acc t ⟨n, ht, Nat.succ m⟩) (Nat.ble (Nat.succ m) n)) low) h
noncomputable def hN (h : Hp) (c : Nat → Bool) : Bool := Hp.rec (motive := fun _ => Bool) (fun n _ _ => c n) h
noncomputable def fSl (m : KM) (rest : List Oper) (ih : KdN) (i : Nat) (acc : List (Nat × AE)) : Kb := oneN k P G call callK round roundK all sz mks m (ih (Nat.succ i) acc)
noncomputable def fLd (x : KA) (m : KM) (rest : List Oper) (ih : KdN) (i : Nat) (acc : List (Nat × AE)) : Kb := fun t h =>
  evN k x t fun p => ptrK (k .fail) p fun b _ => Bool.rec (motive := fun _ => Bool) (k .fail) (oneN k P G call callK round roundK all sz mks m (goN P G k call round all sz mks rest ih (Nat.succ i) ((i, .ld b) :: acc)) t h) (accOk all i false b acc)
noncomputable def fNw (m : KM) (rest : List Oper) (ih : KdN) (i : Nat) (acc : List (Nat × AE)) : Kb := fun t h =>
  hN h fun n => oneN k P G call callK round roundK all sz mks m (goN P G k call round all sz mks rest ih (Nat.succ i) ((i, .nw n) :: acc)) t h
noncomputable def fSt (ok : Bool) (x : KA) (m : KM) (rest : List Oper) (ih : KdN) (i : Nat) (acc : List (Nat × AE)) : Kb := fun t h =>
  evN k x t fun p => ptrK (k .fail) p fun b _ => Bool.rec (motive := fun _ => Bool) (k .fail) (Bool.rec (motive := fun _ => Bool) (k .fail) (oneN k P G call callK round roundK all sz mks m (goN P G k call round all sz mks rest ih (Nat.succ i) ((i, .st b) :: acc)) t h) ok) (accOk all i true b acc)
noncomputable def fRest (p : Option Nat) (rest : List Oper) (ih : KdN) (i : Nat) (acc : List (Nat × AE)) (n : Nat) (ht : T LObj) (low : Nat) (t : T Value) (r : CRes) : Bool :=
  CRes.rec (motive := fun _ => Bool) (fun v h' => Hp.rec (motive := fun _ => Bool) (fun n' ht' low' => Bool.rec (motive := fun _ => Bool) (k .fail)
      (Option.rec (motive := fun _ => Bool) (goN P G k call round all sz mks rest ih (Nat.succ i) ((i, .ch ⟨n, ht, low⟩ ⟨n', ht', cond (Nat.ble low low') low low'⟩) :: acc) t ⟨n', ht', cond (Nat.ble low low') low low'⟩) (fun d => Bool.rec (motive := fun _ => Bool) (k .fail) (tput d v t fun t => goN P G k call round all sz mks rest ih (Nat.succ i) ((i, .ch ⟨n, ht, low⟩ ⟨n', ht', cond (Nat.ble low low') low low'⟩) :: acc) t ⟨n', ht', cond (Nat.ble low low') low low'⟩) (Nat.blt d sz)) p)
      (Nat.ble n low' || (barrier all i && accB all i ⟨n, ht, low⟩ ⟨n', ht', low'⟩ acc))) h') (k .fail) (fun _ _ => k .fail) r
noncomputable def fCl (f : FuncId) (l : List KA) (p : Option Nat) (rest : List Oper) (ih : KdN) (i : Nat) (acc : List (Nat × AE)) : Kb := fun t h =>
  evNL k t l fun vs => Hp.rec (motive := fun _ => Bool) (fun n ht low => callK f vs ⟨n, ht, n⟩ (fRest P G k call round all sz mks p rest ih i acc n ht low t)) h
noncomputable def fCv (x : KA) (l : List KA) (p : Option Nat) (rest : List Oper) (ih : KdN) (i : Nat) (acc : List (Nat × AE)) : Kb := fun t h =>
  evNL k t l fun vs => evN k x t fun f => Hp.rec (motive := fun _ => Bool) (fun n ht low => nDone callK roundK ⟨n, ht, n⟩ (fRest P G k call round all sz mks p rest ih i acc n ht low t) (callV vs (some f))) h
noncomputable def fGe (o : Oper) (rest : List Oper) (ih : KdN) (i : Nat) (acc : List (Nat × AE)) : Kb := fun t h =>
  match wantedC all ⟨sz, t, mks⟩ o.guard with
    | some true => (match drawOne P G call round all i o ⟨sz, t, mks⟩ h acc (touch G ⟨sz, t, mks⟩ o.op) with
      | .ok v h' => Option.rec (motive := fun _ => Bool) (goN P G k call round all sz mks rest ih (Nat.succ i) (accPut i acc h h' (slotOp o.op) (isNew o.op) (touch G ⟨sz, t, mks⟩ o.op)) t h') (fun d => Bool.rec (motive := fun _ => Bool) (k .fail) (tput d v t fun t' => goN P G k call round all sz mks rest ih (Nat.succ i) (accPut i acc h h' (slotOp o.op) (isNew o.op) (touch G ⟨sz, t, mks⟩ o.op)) t' h') (Nat.blt d sz)) o.dst
      | _ => k .fail)
    | some false => Option.rec (motive := fun _ => Bool) (ih (Nat.succ i) acc t h) (fun d => Bool.rec (motive := fun _ => Bool) (k .fail) (tput d undef t fun t => ih (Nat.succ i) acc t h) (Nat.blt d sz)) o.dst
    | none => k .fail
noncomputable def fGd (g : Nat) (want : Bool) (_ : KD) (p : Option Nat) (o : Oper) (ihm : List Oper → KdN → KdN) (rest : List Oper) (ih : KdN) (i : Nat) (acc : List (Nat × AE)) : Kb := fun t h =>
  tget t g fun gv => Option.rec (motive := fun _ => Bool) (k .fail) (fun v => Option.rec (motive := fun _ => Bool) (k .fail) (fun c => Bool.rec (motive := fun _ => Bool) (Option.rec (motive := fun _ => Bool) (ih (Nat.succ i) acc t h) (fun p => tput p undef t fun t => ih (Nat.succ i) acc t h) p) (Hp.rec (motive := fun _ => Bool) (fun n ht low => Bool.rec (motive := fun _ => Bool) (fGe P G k call round all sz mks o rest ih i acc t ⟨n, ht, low⟩) (ihm rest ih i acc t ⟨n, ht, low⟩) (Nat.ble low n)) h) c) (wantB v want)) gv
noncomputable def runND (l : List (KD × List Oper)) : KdN :=
  List.rec (motive := fun _ => KdN) (fun _ _ t h => k (.ok .normal ⟨sz, t, mks⟩ h)) (fun m _ ih => KD.rec (motive := fun _ => List Oper → KdN → KdN) (fSl P G k call callK round roundK all sz mks) (fLd P G k call callK round roundK all sz mks) (fNw P G k call callK round roundK all sz mks) (fSt P G k call callK round roundK all sz mks) (fCl P G k call callK round all sz mks) (fCv P G k call callK round roundK all sz mks) (fGe P G k call round all sz mks) (fGd P G k call round all sz mks) m.1 m.2 ih) l
end
/-! Calls and codes. -/
abbrev IhN := Option Nat → Code → En → Hp → (Res → Bool) → Bool
noncomputable def envN (l : List Value) (i : Nat) (t : T Value) (c : T Value → Bool) : Bool := List.rec (motive := fun _ => Nat → T Value → Bool) (fun _ t => c t) (fun v _ ih i t => tput i v t fun t => ih (Nat.succ i) t) l i t
noncomputable def resN (z : Bool) (t : T Value) (h : Hp) (l : List ResultVar) (c : List Value → Bool) : Bool :=
  List.rec (motive := fun _ => (List Value → Bool) → Bool) (fun c => c []) (fun r _ ih c => ResultVar.rec (motive := fun _ => Bool) (fun i => tget t i fun o => Option.rec (motive := fun _ => Bool) z (fun v => ih fun l => c (v :: l)) o) (fun a ty => tget t a fun o => Option.rec (motive := fun _ => Bool) z (fun p => ldTK z P h ty p fun v => ih fun l => c (v :: l)) o) r) l c
noncomputable def retN (dc : FuncId → List Value → UM → Hp → Option (UM × Hp)) (rs : List ResultVar) (e : En) (h : Hp) (k : CRes → Bool) : Bool :=
  En.rec (motive := fun _ => Bool) (fun sz t mks => List.rec (motive := fun _ => Bool) (resN P (k .fail) t h rs fun l => k (.ok (tupOf l) h)) (fun d ds _ => k (endL P rs ⟨sz, t, d :: ds⟩ (leave dc (d :: ds) .rt h))) mks) e
noncomputable def endN (dc : FuncId → List Value → UM → Hp → Option (UM × Hp)) (rs : List ResultVar) (k : CRes → Bool) (r : Res) : Bool :=
  Res.rec (motive := fun _ => Bool) (fun x e h => Ex.rec (motive := fun _ => Bool) (retN P dc rs e h k) (fun _ => k .fail) (retN P dc rs e h k) (fun v => k (panE P dc rs e h v)) x) (k .fail) r
noncomputable def callN0 (ihD : Ih) (ih : IhN) : CK := fun f args h k =>
  FI.rec (motive := fun _ => Bool) (k .fail) (k (externC P f args h)) (fun n c rs => Bool.rec (motive := fun _ => Bool) (k .fail) (envN args 0 .nil fun t => ih none c ⟨n, t, []⟩ h (endN P (deferC P G ihD) rs k)) (Nat.ble args.length n)) (finfo P f)
noncomputable def callN' (ihD : Ih) (ih : IhN) : CK := fun f args h k =>
  Option.rec (motive := fun _ => Bool) (callN0 P G ihD ih f args h k) (fun g => Option.rec (motive := fun _ => Bool) (callN0 P G ihD ih f args h k) (fun r => k r) (g args h)) (G.stub f)
noncomputable def roundMidN (ih : IhN) (l : Nat) (bd : Code) (k : CRes → Bool) : Res → Bool
  | .ok .normal e2 h => (match h.t.get l with
    | some (.loop false _ e ps as bd') => ih (some l) bd e2 (h.set l (.loop true none e ps as bd')) fun r => k (roundEnd l r)
    | _ => k .fail)
  | _ => k .fail
noncomputable def roundN (ih : IhN) : RK := fun l args h k =>
  match h.t.get l with
  | some (.loop false _ e ps as bd) => (match putPs ps args ⟨e.sz, e.t, []⟩ with
    | none => k .fail
    | some e1 => ih (some l) as e1 h (roundMidN ih l bd k))
  | _ => k .fail
noncomputable def rangeEndN (ih : IhN) (ro : Option Nat) (l : Nat) (e : En) (k : Res → Bool) : CRes → Bool
  | .ok _ h => (match h.t.get l with
    | some (.loop false none _ _ _ _) => k (.ok .normal e (h.set l .other))
    | some (.loop true (some c) _ _ _ _) => ih ro c e (h.set l .other) k
    | _ => k .fail)
  | _ => k .fail
noncomputable def rangeN (ihD : Ih) (ih : IhN) (ro : Option Nat) (f : Operand) (ps : List Tmp) (as bd : Code) (e : En) (h : Hp) (k : Res → Bool) : Bool :=
  match ev G e f with
  | some (.func (.func f) first captured) => (match ro with
    | none => callN' P G ihD ih f (first.toList ++ (.func (.yield (Nat.succ h.n)) #[] #[] :: captured.toList)) ((h.new .defs).new (.loop false none ⟨e.sz, e.t, []⟩ ps as bd)) (rangeEndN ih ro (Nat.succ h.n) ⟨e.sz, e.t, .mark h.n :: e.mks⟩ k)
    | some l => (match h.t.get l with
      | some (.loop _ _ _ _ _ _) => callN' P G ihD ih f (first.toList ++ (.func (.yield h.n) #[] #[] :: captured.toList)) (h.new (.loop false none ⟨e.sz, e.t, []⟩ ps as bd)) (rangeEndN ih ro h.n e k)
      | _ => k .fail))
  | _ => k .fail
noncomputable def regN (ihD : Ih) (ih : IhN) (ro : Option Nat) (ops : Array Oper) (e : En) (h : Hp) (k : Res → Bool) : Bool :=
  Bool.rec (motive := fun _ => Bool) (En.rec (motive := fun _ => Bool) (fun sz t mks => runN k P G (callF P G ihD) (callN' P G ihD ih) (roundC ihD) (roundN ih) ops sz mks (kComps P G ops sz ops.toList) t h) e) (k (runOps P G ro (callF P G ihD) (roundC ihD) ops ops.toList e h)) (anyDefR ops.toList)
noncomputable def regND (ihD : Ih) (ih : IhN) (ops : Array Oper) (e : En) (h : Hp) (k : Res → Bool) : Bool :=
  En.rec (motive := fun _ => Bool) (fun sz t mks => goN P G k (callF P G ihD) (roundC ihD) ops sz mks ops.toList (runND P G k (callF P G ihD) (callN' P G ihD ih) (roundC ihD) (roundN ih) ops sz mks (kCompsD P G ops sz ops.toList 0)) 0 [] t h) e
abbrev CdN := Ih → IhN → Option Nat → En → Hp → (Res → Bool) → Bool
noncomputable def thenN (ih : En → Hp → (Res → Bool) → Bool) (k : Res → Bool) (r : Res) : Bool :=
  Res.rec (motive := fun _ => Bool) (fun x e h => Ex.rec (motive := fun _ => Bool) (ih e h k) (fun i => k (.ok (.exit i) e h)) (k (.ok .ret e h)) (fun v => k (.ok (.pan v) e h)) x) (k .fail) r
noncomputable def blockN (id : Nat) (k : Res → Bool) (r : Res) : Bool :=
  Res.rec (motive := fun _ => Bool) (fun x e h => Ex.rec (motive := fun _ => Bool) (k (.ok .normal e h)) (fun i => Bool.rec (motive := fun _ => Bool) (k (.ok (.exit i) e h)) (k (.ok .normal e h)) (Nat.beq i id)) (k (.ok .ret e h)) (fun v => k (.ok (.pan v) e h)) x) (k .fail) r
/-! A range over a map. -/
section
variable (P : Program) (G : GS) (ihD : Ih) (ih : IhN) (ro : Option Nat) (m : MF) (ki : Nat)
noncomputable def putMN (sz d : Nat) (v : Value) (t : T Value) (z : Bool) (c : T Value → Bool) : Bool := Bool.rec (motive := fun _ => Bool) z (tput d v t c) (Nat.blt d sz)
noncomputable def itN (t : T Value) (z : Bool) (c : Bool) : Bool := tget t m.it fun o => Bool.rec (motive := fun _ => Bool) z c (itOk ki o)
noncomputable def tailN (l : List Oper) (e : En) (h : Hp) (k : Res → Bool) : Bool :=
  Bool.rec (motive := fun _ => Bool) (En.rec (motive := fun _ => Bool) (fun sz t mks => runN k P G (callF P G ihD) (callN' P G ihD ih) (roundC ihD) (roundN ih) m.asg sz mks (kComps P G m.asg sz l) t h) e) (k (runOps P G ro (callF P G ihD) (roundC ihD) m.asg l e h)) (anyDef l)
noncomputable def rOutN (e : En) (h : Hp) (k : Res → Bool) : Bool :=
  En.rec (motive := fun _ => Bool) (fun sz t mks => itN m ki t (k .fail) (putMN sz m.tn (.tuple #[.bool false]) t (k .fail) fun t => putMN sz m.tm (.bool false) t (k .fail) fun t => k (.ok (.exit m.out) ⟨sz, t, mks⟩ h))) e
noncomputable def rInN (x v : Value) (e : En) (h : Hp) (k : Res → Bool) : Bool :=
  En.rec (motive := fun _ => Bool) (fun sz t mks => itN m ki t (k .fail) (putMN sz m.tn (.tuple #[.bool true, x, v]) t (k .fail) fun t => putMN sz m.tm (.bool true) t (k .fail) fun t =>
    itN m ki t (k .fail) (putMN sz m.te (.tuple #[x, v]) t (k .fail) fun t => tailN P G ihD ih ro m m.asg.toList.tail ⟨sz, t, mks⟩ h (thenN (ih ro m.code) (blockN m.nx k))))) e
noncomputable def explN (n : Nat) : List (Value × Value) → En → Hp → (List Res → Bool) → Bool :=
  Nat.rec (motive := fun _ => List (Value × Value) → En → Hp → (List Res → Bool) → Bool) (fun _ e h c => rOutN m ki e h fun r => c [r])
    (fun _ ihn l e h c => List.rec (motive := fun _ => (List Res → Bool) → Bool) (fun c => c []) (fun p _ ihl c => rInN P G ihD ih ro m ki p.1.1 p.1.2 e h fun r =>
      Res.rec (motive := fun _ => Bool) (fun x e h => Ex.rec (motive := fun _ => Bool) (ihn p.2 e h fun l1 => ihl fun l2 => c (l1 ++ l2)) (fun i => ihl fun l2 => c (.ok (.exit i) e h :: l2)) (ihl fun l2 => c (.ok .ret e h :: l2)) (fun v => ihl fun l2 => c (.ok (.pan v) e h :: l2)) x) (ihl fun l2 => c (.fail :: l2)) r) (picks l) c) n
noncomputable def endMN (h0 : Hp) (r : Nat) (es : List (Value × Value)) (k : Res → Bool) (l : List Res) : Bool :=
  List.rec (motive := fun _ => Bool) (k .fail) (fun r0 rs _ => List.rec (motive := fun _ => Bool)
    (Res.rec (motive := fun _ => Bool) (fun x e h => Hp.rec (motive := fun _ => Bool) (fun n ht low => tput r (.map es) ht fun ht => blockN m.out k (.ok x e ⟨n, ht, low⟩)) h) (k .fail) r0)
    (fun _ _ _ => k (mapEnd m.out r es (mergeL h0 l))) rs) l
noncomputable def mapGoN (r : Nat) (es : List (Value × Value)) (e : En) (h : Hp) (k : Res → Bool) : Bool :=
  newB h .other fun ki h1 => explN P G ihD ih ro m ki es.length es e h1 (endMN m h r es k)
end
noncomputable def mapN (P : Program) (G : GS) (ihD : Ih) (ih : IhN) (ro : Option Nat) (m : MF) (e : En) (h : Hp) (k : Res → Bool) : Bool :=
  match preOps P G (callF P G ihD) (roundC ihD) m.all m.pre e h with
  | some (e, h) => (match ev G e m.x, P.underlying m.t with
    | some (.map (some r)), some (.map _ _) => (match h.t.get r with
      | some (.map es) => En.rec (motive := fun _ => Bool) (fun sz t mks => putMN sz m.it (.pointer (some ⟨h.n, 0, none⟩)) t (k .fail) fun t => Hp.rec (motive := fun _ => Bool) (fun n ht low => tput r .other ht fun ht => mapGoN P G ihD ih ro m r es ⟨sz, t, mks⟩ ⟨n, ht, low⟩ k) h) e
      | _ => k .fail)
    | _, _ => k .fail)
  | none => k .fail
noncomputable def hSkip : CdN := fun _ _ _ e h k => k (.ok .normal e h)
noncomputable def hRegion (_ : Nat) (ops : Array Oper) (draw : Bool) : CdN := fun ihD ih ro e h k =>
  Bool.rec (motive := fun _ => Bool) (regN P G ihD ih ro ops e h k) (Bool.rec (motive := fun _ => Bool) (k .fail) (regND P G ihD ih ops e h k) (drawOk ops)) draw
noncomputable def hSeq (a b : Code) (_ _ : CdN) : CdN := fun ihD ih ro e h k => Option.rec (motive := fun _ => Bool) (ih ro a e h (thenN (ih ro b) k)) (fun m => mapN P G ihD ih ro m e h k) (mapOf a b)
noncomputable def hCond (x : Operand) (a b : Code) (_ _ : CdN) : CdN := fun _ ih ro e h k =>
  En.rec (motive := fun _ => Bool) (fun sz t mks => evN k (kA G x) t fun v => Option.rec (motive := fun _ => Bool) (k .fail) (fun c => Bool.rec (motive := fun _ => Bool) (ih ro b ⟨sz, t, mks⟩ h k) (ih ro a ⟨sz, t, mks⟩ h k) c) (isBool v)) e
noncomputable def hBlock (id : Nat) (b : Code) (_ : CdN) : CdN := fun _ ih ro e h k => ih ro b e h (blockN id k)
noncomputable def hLoop (b : Code) (_ : CdN) : CdN := fun _ ih ro e h k => ih ro b e h (thenN (ih ro (.loop b)) k)
noncomputable def hRange (f : Operand) (ps : Array Tmp) (as bd : Code) (_ _ : CdN) : CdN := fun ihD ih ro e h k => rangeN P G ihD ih ro f ps.toList as bd e h k
noncomputable def hExit (id : Nat) : CdN := fun _ _ _ e h k => k (.ok (.exit id) e h)
noncomputable def hNo1 (_ : Nat) : CdN := fun _ _ _ _ _ k => k .fail
noncomputable def hScope (_ : Code) (_ : CdN) : CdN := fun _ _ _ _ _ k => k .fail
noncomputable def hRet : CdN := fun _ _ _ e h k => k (.ok .ret e h)
noncomputable def hLabel (_ : Nat) : CdN := hSkip
noncomputable def hNoS (_ : String) : CdN := fun _ _ _ _ _ k => k .fail
noncomputable def stepN (ihD : Ih) (ih : IhN) (ro : Option Nat) (c : Code) (e : En) (h : Hp) (k : Res → Bool) : Bool :=
  Code.rec (motive := fun _ => CdN) hSkip (hRegion P G) (hSeq P G) (hCond G) hBlock hLoop (hRange P G) hExit hScope hLabel hNo1 hRet hNoS c ihD ih ro e h k
noncomputable def exN (n : Nat) : IhN :=
  Nat.rec (motive := fun _ => IhN) (fun _ _ _ _ k => k .fail) (fun n ih => stepN P G (exF P G n) ih) n
noncomputable def callNN (n : Nat) (f : FuncId) (args : List Value) (h : Hp) (k : CRes → Bool) : Bool := callN' P G (exF P G n) (exN P G n) f args h k
end
end Cx
end Go.Proofs.YtkljlbilhcdjhaaGreatDoor
namespace Go.Proofs.YtkljlbilhcdjhaaGreatDoor
set_option linter.unusedVariables false
namespace Cx
open Go
section
variable {α : Type}
theorem selKG_eq (n : Nat) (r : N16 α) (k : α → Bool) : (KG.rec (motive := fun _ => Bool) (fun g => g r k) (selKG α n) : Bool) = k (GF.rec (fun g => g r) (selG α n)) := by
  obtain ⟨c0, c1, c2, c3, c4, c5, c6, c7, c8, c9, c10, c11, c12, c13, c14, c15⟩ := r
  rcases n with _|_|_|_|_|_|_|_|_|_|_|_|_|_|_|n <;> rfl
theorem selKU_eq (n : Nat) (r : N16 α) (u : α → (α → Bool) → Bool) (F : α → α) (hu : ∀ x k, u x k = k (F x)) (k : N16 α → Bool) : (KU.rec (motive := fun _ => Bool) (fun g => g r u k) (selKU α n) : Bool) = k (PF.rec (fun p => p F r) (selU α n)) := by
  obtain ⟨c0, c1, c2, c3, c4, c5, c6, c7, c8, c9, c10, c11, c12, c13, c14, c15⟩ := r
  rcases n with _|_|_|_|_|_|_|_|_|_|_|_|_|_|_|n <;> exact hu _ _
/-- a place of a row, handed on -/
theorem kg_of {n : Nat} {g : N16 α → (α → Bool) → Bool} {g' : N16 α → α} (h1 : selKG α n = .mk g) (h2 : selG α n = .mk g') (r : N16 α) (k : α → Bool) : g r k = k (g' r) := by
  have := selKG_eq n r k
  rw [h1, h2] at this
  exact this
theorem ku_of {n : Nat} {g : N16 α → (α → (α → Bool) → Bool) → (N16 α → Bool) → Bool} {p : (α → α) → N16 α → N16 α} (h1 : selKU α n = .mk g) (h2 : selU α n = .mk p) (r : N16 α) (u : α → (α → Bool) → Bool) (F : α → α) (hu : ∀ x k, u x k = k (F x)) (k : N16 α → Bool) : g r u k = k (p F r) := by
  have := selKU_eq n r u F hu k
  rw [h1, h2] at this
  exact this
theorem kget1_eq (n : Nat) (t : T α) (c : Option α → Bool) : (KGet.rec (motive := fun _ => Bool) (fun g => g t c) (kget1 α n) : Bool) = c (GF.rec (fun g => g t) (gfn1 α n)) := by
  unfold kget1 gfn1
  cases h1 : selKG (Option α) n with
  | mk g =>
    cases h2 : selG (Option α) n with
    | mk g' =>
      obtain ⟨a, b, cc, d, f⟩ := t
      exact kg_of h1 h2 a c
theorem kget2_eq (n : Nat) (t : T α) (c : Option α → Bool) : (KGet.rec (motive := fun _ => Bool) (fun g => g t c) (kget2 α n) : Bool) = c (GF.rec (fun g => g t) (gfn2 α n)) := by
  unfold kget2 gfn2
  cases h1 : selKG (N16 (Option α)) (Nat.div n 16) with
  | mk g =>
    cases h2 : selG (N16 (Option α)) (Nat.div n 16) with
    | mk g' =>
      cases h3 : selKG (Option α) (Nat.mod n 16) with
      | mk e =>
        cases h4 : selG (Option α) (Nat.mod n 16) with
        | mk e' =>
          obtain ⟨a, b, cc, d, f⟩ := t
          show g b (fun r => e r c) = c (e' (g' b))
          rw [kg_of h1 h2, kg_of h3 h4]
theorem kget3_eq (n : Nat) (t : T α) (c : Option α → Bool) : (KGet.rec (motive := fun _ => Bool) (fun g => g t c) (kget3 α n) : Bool) = c (GF.rec (fun g => g t) (gfn3 α n)) := by
  unfold kget3 gfn3
  cases h1 : selKG (N16 (N16 (Option α))) (Nat.div n 256) with
  | mk g =>
    cases h2 : selG (N16 (N16 (Option α))) (Nat.div n 256) with
    | mk g' =>
      cases h3 : selKG (N16 (Option α)) (Nat.mod (Nat.div n 16) 16) with
      | mk e =>
        cases h4 : selG (N16 (Option α)) (Nat.mod (Nat.div n 16) 16) with
        | mk e' =>
          cases h5 : selKG (Option α) (Nat.mod n 16) with
          | mk q =>
            cases h6 : selG (Option α) (Nat.mod n 16) with
            | mk q' =>
              obtain ⟨a, b, cc, d, f⟩ := t
              show g cc (fun r => e r fun r => q r c) = c (q' (e' (g' cc)))
              rw [kg_of h1 h2, kg_of h3 h4, kg_of h5 h6]
theorem kget4_eq (n : Nat) (t : T α) (c : Option α → Bool) : (KGet.rec (motive := fun _ => Bool) (fun g => g t c) (kget4 α n) : Bool) = c (GF.rec (fun g => g t) (gfn4 α n)) := by
  unfold kget4 gfn4
  cases h1 : selKG (N16 (N16 (N16 (Option α)))) (Nat.div n 4096) with
  | mk g =>
    cases h2 : selG (N16 (N16 (N16 (Option α)))) (Nat.div n 4096) with
    | mk g' =>
      cases h3 : selKG (N16 (N16 (Option α))) (Nat.mod (Nat.div n 256) 16) with
      | mk e =>
        cases h4 : selG (N16 (N16 (Option α))) (Nat.mod (Nat.div n 256) 16) with
        | mk e' =>
          cases h5 : selKG (N16 (Option α)) (Nat.mod (Nat.div n 16) 16) with
          | mk q =>
            cases h6 : selG (N16 (Option α)) (Nat.mod (Nat.div n 16) 16) with
            | mk q' =>
              cases h7 : selKG (Option α) (Nat.mod n 16) with
              | mk s =>
                cases h8 : selG (Option α) (Nat.mod n 16) with
                | mk s' =>
                  obtain ⟨a, b, cc, d, f⟩ := t
                  show g d (fun r => e r fun r => q r fun r => s r c) = c (s' (q' (e' (g' d))))
                  rw [kg_of h1 h2, kg_of h3 h4, kg_of h5 h6, kg_of h7 h8]
theorem pick_get (b1 b2 b3 b4 : Bool) (n n1 n2 n3 : Nat) (t : T α) (c : Option α → Bool) :
    (KGet.rec (motive := fun _ => Bool) (fun g => g t c) (Bool.rec (Bool.rec (Bool.rec (Bool.rec (.mk fun t k => k (t.f n)) (kget4 α n3) b4) (kget3 α n2) b3) (kget2 α n1) b2) (kget1 α n) b1 : KGet α) : Bool) =
    c (GF.rec (fun g => g t) (Bool.rec (Bool.rec (Bool.rec (Bool.rec (GF.mk (fun t => t.f n)) (gfn4 α n3) b4) (gfn3 α n2) b3) (gfn2 α n1) b2) (gfn1 α n) b1 : GF (T α) (Option α))) := by
  cases b1 with
  | true => exact kget1_eq n t c
  | false =>
    cases b2 with
    | true => exact kget2_eq n1 t c
    | false =>
      cases b3 with
      | true => exact kget3_eq n2 t c
      | false =>
        cases b4 with
        | true => exact kget4_eq n3 t c
        | false => rfl
theorem tget_eq (t : T α) (n : Nat) (c : Option α → Bool) : tget t n c = c (t.get n) := by
  unfold tget T.get kget gfn
  exact pick_get (Nat.blt n 16) (Nat.blt n 272) (Nat.blt n 4368) (Nat.blt n 69904) n (Nat.sub n 16) (Nat.sub n 272) (Nat.sub n 4368) t c
theorem leaf_eq (v : α) : ∀ (x : Option α) (k : Option α → Bool), (fun (_ : Option α) (k : Option α → Bool) => k (some v)) x k = k (setTo v x) := fun _ _ => rfl
theorem kput1_eq (n : Nat) (v : α) (t : T α) (c : T α → Bool) : (KPut.rec (motive := fun _ => Bool) (fun p => p v t c) (kput1 α n) : Bool) = c (PF.rec (fun p => p (setTo v) t) (pfn1 α n)) := by
  unfold kput1 pfn1
  cases h1 : selKU (Option α) n with
  | mk g =>
    cases h2 : selU (Option α) n with
    | mk p =>
      obtain ⟨a, b, cc, d, f⟩ := t
      show g a (fun _ k => k (some v)) (fun a => c ⟨a, b, cc, d, f⟩) = c (T.ua (p (setTo v)) ⟨a, b, cc, d, f⟩)
      rw [ku_of h1 h2 a _ (setTo v) (leaf_eq v)]
      rfl
theorem kput2_eq (n : Nat) (v : α) (t : T α) (c : T α → Bool) : (KPut.rec (motive := fun _ => Bool) (fun p => p v t c) (kput2 α n) : Bool) = c (PF.rec (fun p => p (setTo v) t) (pfn2 α n)) := by
  unfold kput2 pfn2
  cases h1 : selKU (N16 (Option α)) (Nat.div n 16) with
  | mk g =>
    cases h2 : selU (N16 (Option α)) (Nat.div n 16) with
    | mk p =>
      cases h3 : selKU (Option α) (Nat.mod n 16) with
      | mk e =>
        cases h4 : selU (Option α) (Nat.mod n 16) with
        | mk q =>
          obtain ⟨a, b, cc, d, f⟩ := t
          show g b (fun r k => e r (fun _ k => k (some v)) k) (fun b => c ⟨a, b, cc, d, f⟩) = c (T.ub (p (q (setTo v))) ⟨a, b, cc, d, f⟩)
          rw [ku_of h1 h2 b _ (q (setTo v)) (fun x k => ku_of h3 h4 x _ (setTo v) (leaf_eq v) k)]
          rfl
theorem kput3_eq (n : Nat) (v : α) (t : T α) (c : T α → Bool) : (KPut.rec (motive := fun _ => Bool) (fun p => p v t c) (kput3 α n) : Bool) = c (PF.rec (fun p => p (setTo v) t) (pfn3 α n)) := by
  unfold kput3 pfn3
  cases h1 : selKU (N16 (N16 (Option α))) (Nat.div n 256) with
  | mk g =>
    cases h2 : selU (N16 (N16 (Option α))) (Nat.div n 256) with
    | mk p =>
      cases h3 : selKU (N16 (Option α)) (Nat.mod (Nat.div n 16) 16) with
      | mk e =>
        cases h4 : selU (N16 (Option α)) (Nat.mod (Nat.div n 16) 16) with
        | mk q =>
          cases h5 : selKU (Option α) (Nat.mod n 16) with
          | mk s =>
            cases h6 : selU (Option α) (Nat.mod n 16) with
            | mk s' =>
              obtain ⟨a, b, cc, d, f⟩ := t
              show g cc (fun r k => e r (fun r k => s r (fun _ k => k (some v)) k) k) (fun cc => c ⟨a, b, cc, d, f⟩) = c (T.uc (p (q (s' (setTo v)))) ⟨a, b, cc, d, f⟩)
              rw [ku_of h1 h2 cc _ (q (s' (setTo v))) (fun x k => ku_of h3 h4 x _ (s' (setTo v)) (fun x k => ku_of h5 h6 x _ (setTo v) (leaf_eq v) k) k)]
              rfl
theorem kput4_eq (n : Nat) (v : α) (t : T α) (c : T α → Bool) : (KPut.rec (motive := fun _ => Bool) (fun p => p v t c) (kput4 α n) : Bool) = c (PF.rec (fun p => p (setTo v) t) (pfn4 α n)) := by
  unfold kput4 pfn4
  cases h1 : selKU (N16 (N16 (N16 (Option α)))) (Nat.div n 4096) with
  | mk g =>
    cases h2 : selU (N16 (N16 (N16 (Option α)))) (Nat.div n 4096) with
    | mk p =>
      cases h3 : selKU (N16 (N16 (Option α))) (Nat.mod (Nat.div n 256) 16) with
      | mk e =>
        cases h4 : selU (N16 (N16 (Option α))) (Nat.mod (Nat.div n 256) 16) with
        | mk q =>
          cases h5 : selKU (N16 (Option α)) (Nat.mod (Nat.div n 16) 16) with
          | mk s =>
            cases h6 : selU (N16 (Option α)) (Nat.mod (Nat.div n 16) 16) with
            | mk s' =>
              cases h7 : selKU (Option α) (Nat.mod n 16) with
              | mk w =>
                cases h8 : selU (Option α) (Nat.mod n 16) with
                | mk w' =>
                  obtain ⟨a, b, cc, d, f⟩ := t
                  show g d (fun r k => e r (fun r k => s r (fun r k => w r (fun _ k => k (some v)) k) k) k) (fun d => c ⟨a, b, cc, d, f⟩) = c (T.ud (p (q (s' (w' (setTo v))))) ⟨a, b, cc, d, f⟩)
                  rw [ku_of h1 h2 d _ (q (s' (w' (setTo v)))) (fun x k => ku_of h3 h4 x _ (s' (w' (setTo v))) (fun x k => ku_of h5 h6 x _ (w' (setTo v)) (fun x k => ku_of h7 h8 x _ (setTo v) (leaf_eq v) k) k) k)]
                  rfl
theorem pick_put (b1 b2 b3 b4 : Bool) (n n1 n2 n3 : Nat) (v : α) (t : T α) (c : T α → Bool) :
    (KPut.rec (motive := fun _ => Bool) (fun p => p v t c) (Bool.rec (Bool.rec (Bool.rec (Bool.rec (.mk fun v t k => k (T.uf n (setTo v) t)) (kput4 α n3) b4) (kput3 α n2) b3) (kput2 α n1) b2) (kput1 α n) b1 : KPut α) : Bool) =
    c (PF.rec (fun p => p (setTo v) t) (Bool.rec (Bool.rec (Bool.rec (Bool.rec (PF.mk (fun F t => T.uf n F t)) (pfn4 α n3) b4) (pfn3 α n2) b3) (pfn2 α n1) b2) (pfn1 α n) b1 : PF (Option α) (T α))) := by
  cases b1 with
  | true => exact kput1_eq n v t c
  | false =>
    cases b2 with
    | true => exact kput2_eq n1 v t c
    | false =>
      cases b3 with
      | true => exact kput3_eq n2 v t c
      | false =>
        cases b4 with
        | true => exact kput4_eq n3 v t c
        | false => rfl
theorem tput_eq (n : Nat) (v : α) (t : T α) (c : T α → Bool) : tput n v t c = c (T.put v t n) := by
  unfold tput T.put kput pfn
  exact pick_put (Nat.blt n 16) (Nat.blt n 272) (Nat.blt n 4368) (Nat.blt n 69904) n (Nat.sub n 16) (Nat.sub n 272) (Nat.sub n 4368) v t c
end
section
variable (z : Bool)
theorem getB_eq (h : Hp) (b : Nat) (c : LObj → Bool) : getB z h b c = Option.rec (motive := fun _ => Bool) z c (h.t.get b) := by
  obtain ⟨n, ht, low⟩ := h
  show tget ht b _ = _
  rw [tget_eq]
theorem setB_eq (h : Hp) (b : Nat) (o : LObj) (c : Hp → Bool) : setB h b o c = c (h.set b o) := by
  obtain ⟨n, ht, low⟩ := h
  show tput b o ht _ = _
  rw [tput_eq]
  unfold Hp.set
  simp only
  cases Nat.ble low b <;> rfl
theorem newB_eq (h : Hp) (o : LObj) (c : Nat → Hp → Bool) : newB h o c = c h.n (h.new o) := by
  obtain ⟨n, ht, low⟩ := h
  cases n with
  | zero =>
    show tput 0 o ht (fun ht => c 0 ⟨Nat.succ 0, ht, low⟩) = c 0 ⟨Nat.succ 0, T.put o ht 0, low⟩
    rw [tput_eq]
  | succ m =>
    show tput (Nat.succ m) o ht (fun ht => c (Nat.succ m) ⟨Nat.succ (Nat.succ m), ht, low⟩) = c (Nat.succ m) ⟨Nat.succ (Nat.succ m), T.put o ht (Nat.succ m), low⟩
    rw [tput_eq]
theorem takeK_eq : ∀ (l : List Value) (n : Nat) (c : List Value → Bool), takeK z l n c = Option.rec (motive := fun _ => Bool) z c (cut0 l n)
  | [], 0, c => rfl
  | [], n + 1, c => rfl
  | x :: l, 0, c => rfl
  | x :: l, n + 1, c => by
    rw [cut0_eq, hasN_cons, takeN_cons]
    show takeK z l n (fun r => c (x :: r)) = _
    rw [takeK_eq l n, cut0_eq]
    cases hasN l n <;> rfl
theorem cutK_eq : ∀ (l : List Value) (o n : Nat) (c : List Value → Bool), cutK z l o n c = Option.rec (motive := fun _ => Bool) z c (cut l o n)
  | [], 0, n, c => by
    show takeK z [] n c = Option.rec (motive := fun _ => Bool) z c (cut0 [] n)
    exact takeK_eq z [] n c
  | [], o + 1, n, c => rfl
  | x :: l, 0, n, c => by
    show takeK z (x :: l) n c = Option.rec (motive := fun _ => Bool) z c (cut0 (x :: l) n)
    exact takeK_eq z (x :: l) n c
  | x :: l, o + 1, n, c => by
    show cutK z l o n c = Option.rec (motive := fun _ => Bool) z c (cut l o n)
    exact cutK_eq l o n c
end
end Cx
end Go.Proofs.YtkljlbilhcdjhaaGreatDoor
