/- Closed runs: what a value and a memory of the executor stand for. -/
import Derived.Test.YtcibkkpljcablaaGreatDoorCx
import Derived.Below
namespace Go.Proofs.YtcibkkpljcablaaGreatDoor
namespace Cx
open Go

theorem T.get_nil {α : Type} (n : Nat) : (T.nil : T α).get n = none := rfl
theorem T.get_node {α : Type} (v : Option α) (l r : T α) (n : Nat) : (T.node v l r).get n = cond (Nat.beq n 0) v (cond (Nat.beq (Nat.mod n 2) 1) (l.get (Nat.div n 2)) (r.get (Nat.pred (Nat.div n 2)))) := rfl
theorem T.make_succ {α : Type} (x : α) (d n : Nat) : T.make x (d + 1) n = cond (Nat.beq n 0) (.node (some x) .nil .nil) (cond (Nat.beq (Nat.mod n 2) 1) (.node none (T.make x d (Nat.div n 2)) .nil) (.node none .nil (T.make x d (Nat.pred (Nat.div n 2))))) := rfl
theorem T.put_nil {α : Type} (x : α) (n : Nat) : T.put x .nil n = T.make x (n + 1) n := rfl
theorem T.put_node {α : Type} (x : α) (v : Option α) (l r : T α) (n : Nat) : T.put x (.node v l r) n = cond (Nat.beq n 0) (.node (some x) l r) (cond (Nat.beq (Nat.mod n 2) 1) (.node v (T.put x l (Nat.div n 2)) r) (.node v l (T.put x r (Nat.pred (Nat.div n 2))))) := rfl

theorem beq0 (n : Nat) : Nat.beq n 0 = decide (n = 0) := by cases n <;> rfl
theorem beqN (n m : Nat) : Nat.beq n m = decide (n = m) := by
  rw [Bool.eq_iff_iff]; simp [Nat.beq_eq]

theorem T.get_node' {α : Type} (v : Option α) (l r : T α) (n : Nat) : (T.node v l r).get n = if n = 0 then v else if n % 2 = 1 then l.get (n / 2) else r.get (n / 2 - 1) := by
  rw [T.get_node, beq0, beqN]
  show cond (decide (n = 0)) v (cond (decide (n % 2 = 1)) (l.get (n / 2)) (r.get (n / 2 - 1))) = _
  by_cases h : n = 0
  · simp [h]
  · by_cases h2 : n % 2 = 1 <;> simp [h, h2]
theorem T.make_succ' {α : Type} (x : α) (d n : Nat) : T.make x (d + 1) n = if n = 0 then .node (some x) .nil .nil else if n % 2 = 1 then .node none (T.make x d (n / 2)) .nil else .node none .nil (T.make x d (n / 2 - 1)) := by
  rw [T.make_succ, beq0, beqN]
  show cond (decide (n = 0)) _ (cond (decide (n % 2 = 1)) (T.node none (T.make x d (n / 2)) .nil) (.node none .nil (T.make x d (n / 2 - 1)))) = _
  by_cases h : n = 0
  · simp [h]
  · by_cases h2 : n % 2 = 1 <;> simp [h, h2]
theorem T.put_node' {α : Type} (x : α) (v : Option α) (l r : T α) (n : Nat) : T.put x (.node v l r) n = if n = 0 then .node (some x) l r else if n % 2 = 1 then .node v (T.put x l (n / 2)) r else .node v l (T.put x r (n / 2 - 1)) := by
  rw [T.put_node, beq0, beqN]
  show cond (decide (n = 0)) _ (cond (decide (n % 2 = 1)) (T.node v (T.put x l (n / 2)) r) (.node v l (T.put x r (n / 2 - 1)))) = _
  by_cases h : n = 0
  · simp [h]
  · by_cases h2 : n % 2 = 1 <;> simp [h, h2]

theorem T.get_make {α : Type} (x : α) : ∀ (d n m : Nat), n < d → (T.make x d n).get m = if m = n then some x else none := by
  intro d
  induction d with
  | zero => intro n m h; omega
  | succ d ih =>
    intro n m h
    rw [T.make_succ']
    by_cases h0 : n = 0
    · subst h0
      simp only [if_true]
      rw [T.get_node']
      by_cases hm : m = 0
      · simp [hm]
      · simp [hm, T.get_nil]
    · simp only [h0, if_false]
      by_cases h2 : n % 2 = 1
      · simp only [h2, if_true]
        rw [T.get_node']
        by_cases hm : m = 0
        · have : ¬ 0 = n := fun e => h0 e.symm
          simp [hm, this]
        · simp only [hm, if_false]
          by_cases hm2 : m % 2 = 1
          · simp only [hm2, if_true]
            rw [ih _ _ (by omega)]
            by_cases e : m = n
            · simp [e]
            · have : ¬ m / 2 = n / 2 := by omega
              simp [e, this]
          · have e : ¬ m = n := fun e => hm2 (e ▸ h2)
            simp [hm2, e, T.get_nil]
      · simp only [h2, if_false]
        rw [T.get_node']
        by_cases hm : m = 0
        · have : ¬ 0 = n := fun e => h0 e.symm
          simp [hm, this]
        · simp only [hm, if_false]
          by_cases hm2 : m % 2 = 1
          · have e : ¬ m = n := fun e => h2 (e ▸ hm2)
            simp [hm2, e, T.get_nil]
          · simp only [hm2, if_false]
            rw [ih _ _ (by omega)]
            by_cases e : m = n
            · simp [e]
            · have : ¬ m / 2 - 1 = n / 2 - 1 := by omega
              simp [e, this]

theorem T.get_put {α : Type} (x : α) (t : T α) : ∀ (n m : Nat), (T.put x t n).get m = if m = n then some x else t.get m := by
  induction t with
  | nil => intro n m; rw [T.put_nil, T.get_make x _ _ _ (Nat.lt_succ_self n)]; rfl
  | node v l r ihl ihr =>
    intro n m
    rw [T.put_node']
    by_cases h0 : n = 0
    · subst h0
      simp only [if_true]
      rw [T.get_node', T.get_node']
      by_cases hm : m = 0 <;> simp [hm]
    · simp only [h0, if_false]
      by_cases h2 : n % 2 = 1
      · simp only [h2, if_true]
        rw [T.get_node', T.get_node']
        by_cases hm : m = 0
        · have : ¬ 0 = n := fun e => h0 e.symm
          simp [hm, this]
        · simp only [hm, if_false]
          by_cases hm2 : m % 2 = 1
          · simp only [hm2, if_true]
            rw [ihl]
            by_cases e : m = n
            · simp [e]
            · have : ¬ m / 2 = n / 2 := by omega
              simp [e, this]
          · have e : ¬ m = n := fun e => hm2 (e ▸ h2)
            simp [hm2, e]
      · simp only [h2, if_false]
        rw [T.get_node', T.get_node']
        by_cases hm : m = 0
        · have : ¬ 0 = n := fun e => h0 e.symm
          simp [hm, this]
        · simp only [hm, if_false]
          by_cases hm2 : m % 2 = 1
          · have e : ¬ m = n := fun e => h2 (e ▸ hm2)
            simp [hm2, e]
          · simp only [hm2, if_false]
            rw [ihr]
            by_cases e : m = n
            · simp [e]
            · have : ¬ m / 2 - 1 = n / 2 - 1 := by omega
              simp [e, this]

/-- Where a block of the executor lies: a block of the model's, the first cell, how many cells there are. -/
abbrev Mu := Nat → Option (Nat × Nat × Nat)

mutual
inductive VR (μ : Mu) : Value → Value → Prop
  | bool (b : Bool) : VR μ (.bool b) (.bool b)
  | int (k : IntKind) (n : Int) : VR μ (.int k n) (.int k n)
  | float (k : FloatKind) (n : Nat) : VR μ (.float k n) (.float k n)
  | string (s : ByteArray) : VR μ (.string s) (.string s)
  | nilPtr : VR μ (.pointer none) (.pointer none)
  | ptr {k o b p s : Nat} (h : μ k = some (b, p, s)) : VR μ (.pointer (some ⟨k, o, none⟩)) (.pointer (some ⟨b, p + o, none⟩))
  | nilSlice (c : Nat) : VR μ (.slice none 0 c) (.slice none 0 0)
  | slice {k o n es b p s cap adr : Nat} (h : μ k = some (b, p, s)) (hn : n ≤ cap) (hc : cap = 0 ∨ adr = p + o ∧ o + cap * es ≤ s) (he : 0 < es) : VR μ (.slice (some ⟨k, o, none⟩) n es) (.slice (some ⟨b, adr, none⟩) n cap)
  | nilMap : VR μ (.map none) (.map none)
  | map {k b p s : Nat} (h : μ k = some (b, p, s)) : VR μ (.map (some k)) (.map (some b))
  | nilFunc : VR μ .nilFunc .nilFunc
  | nilIface : VR μ .nilIface .nilIface
  | iface (t : TypeId) {v v' : Value} (h : VR μ v v') : VR μ (.iface t v) (.iface t v')
  | func (f : FuncId) {a a' b b' : Array Value} (h1 : VRL μ a.toList a'.toList) (h2 : VRL μ b.toList b'.toList) : VR μ (.func (.func f) a b) (.func (.func f) a' b')
  | yield {l b p s : Nat} (h : μ l = some (b, p, s)) : VR μ (.func (.yield l) #[] #[]) (.func (.yield b) #[] #[])
  | agg {a a' : Array Value} (h : VRL μ a.toList a'.toList) : VR μ (.agg a) (.agg a')
  | tuple {a a' : Array Value} (h : VRL μ a.toList a'.toList) : VR μ (.tuple a) (.tuple a')
inductive VRL (μ : Mu) : List Value → List Value → Prop
  | nil : VRL μ [] []
  | cons {v v' : Value} {l l' : List Value} (h : VR μ v v') (t : VRL μ l l') : VRL μ (v :: l) (v' :: l')
end

def Mu.le (μ μ' : Mu) : Prop := ∀ k x, μ k = some x → μ' k = some x
theorem Mu.le_refl (μ : Mu) : Mu.le μ μ := fun _ _ h => h
theorem Mu.le_trans {μ μ' μ'' : Mu} (h : Mu.le μ μ') (h' : Mu.le μ' μ'') : Mu.le μ μ'' := fun k x e => h' k x (h k x e)

mutual
theorem VR.mono {μ μ' : Mu} (hm : Mu.le μ μ') {v v' : Value} (h : VR μ v v') : VR μ' v v' := by
  cases h with
  | bool b => exact .bool b
  | int k n => exact .int k n
  | float k n => exact .float k n
  | string s => exact .string s
  | nilPtr => exact .nilPtr
  | ptr h => exact .ptr (hm _ _ h)
  | nilSlice c => exact .nilSlice c
  | slice h hn hc he => exact .slice (hm _ _ h) hn hc he
  | nilMap => exact .nilMap
  | map h => exact .map (hm _ _ h)
  | nilFunc => exact .nilFunc
  | nilIface => exact .nilIface
  | iface t h => exact .iface t (VR.mono hm h)
  | func f h1 h2 => exact .func f (VRL.mono hm h1) (VRL.mono hm h2)
  | yield h => exact .yield (hm _ _ h)
  | agg h => exact .agg (VRL.mono hm h)
  | tuple h => exact .tuple (VRL.mono hm h)
theorem VRL.mono {μ μ' : Mu} (hm : Mu.le μ μ') {l l' : List Value} (h : VRL μ l l') : VRL μ' l l' := by
  cases h with
  | nil => exact .nil
  | cons h t => exact .cons (VR.mono hm h) (VRL.mono hm t)
end

theorem VR.scalar {μ : Mu} {v v' : Value} (h : VR μ v v') (hs : scalar v = true) : v' = v := by
  cases h <;> first | rfl | (simp [Cx.scalar] at hs)
theorem VRL.length {μ : Mu} {l l' : List Value} : VRL μ l l' → l'.length = l.length := by
  intro h
  induction l generalizing l' with
  | nil => cases h; rfl
  | cons v l ih => cases h with | cons h t => simp [ih t]
theorem VRL.get {μ : Mu} {l l' : List Value} (h : VRL μ l l') : ∀ (i : Nat) (v : Value), l[i]? = some v → ∃ v', l'[i]? = some v' ∧ VR μ v v' := by
  induction l generalizing l' with
  | nil => intro i v e; simp at e
  | cons x l ih =>
    cases h with
    | cons h t =>
      intro i v e
      cases i with
      | zero => simp at e; subst e; exact ⟨_, rfl, h⟩
      | succ i => simp at e ⊢; exact ih t i v e
theorem VRL.of {μ : Mu} : ∀ {l l' : List Value}, l'.length = l.length → (∀ (i : Nat) (v : Value), l[i]? = some v → ∃ v', l'[i]? = some v' ∧ VR μ v v') → VRL μ l l'
  | [], [], _, _ => .nil
  | [], _ :: _, h, _ => by simp at h
  | _ :: _, [], h, _ => by simp at h
  | v :: l, v' :: l', h, hh => by
    obtain ⟨x, hx, hv⟩ := hh 0 v rfl
    simp at hx; subst hx
    exact .cons hv (VRL.of (by simpa using h) fun i u hu => hh (i + 1) u (by simpa using hu))
theorem VRL.append {μ : Mu} {a a' b b' : List Value} (h : VRL μ a a') (k : VRL μ b b') : VRL μ (a ++ b) (a' ++ b') := by
  induction a generalizing a' with
  | nil => cases h; exact k
  | cons v l ih => cases h with | cons h t => exact .cons h (ih t)
theorem VRL.scalars {μ : Mu} {l l' : List Value} (h : VRL μ l l') (hs : l.all scalar = true) : l' = l := by
  induction l generalizing l' with
  | nil => cases h; rfl
  | cons v l ih => cases h with | cons h t => simp at hs; rw [h.scalar hs.1, ih t (by simpa using hs.2)]
theorem VRL.refl {μ : Mu} : ∀ {l : List Value}, (∀ v ∈ l, VR μ v v) → VRL μ l l
  | [], _ => .nil
  | v :: l, h => .cons (h v (by simp)) (VRL.refl fun u hu => h u (by simp [hu]))

theorem simple_refl (μ : Mu) {v : Value} (h : simple v = true) : VR μ v v := by
  unfold simple at h
  split at h <;> first | constructor | (exact absurd h (by simp))
theorem constOk_refl (μ : Mu) {v : Value} (h : constOk v = true) : VR μ v v := by
  unfold constOk at h
  split at h
  · exact .agg (VRL.refl fun v hv => simple_refl μ (List.all_eq_true.1 h v hv))
  · exact .tuple (VRL.refl fun v hv => simple_refl μ (List.all_eq_true.1 h v hv))
  · exact simple_refl μ h
theorem undef_refl (μ : Mu) : VR μ undef undef := .tuple .nil
theorem VR.cells {μ : Mu} {v v' : Value} (h : VR μ v v') : VRL μ v.cells.toList v'.cells.toList := by
  cases h with
  | agg h => exact h
  | _ => exact .cons (by constructor <;> assumption) .nil
end Cx
end Go.Proofs.YtcibkkpljcablaaGreatDoor
