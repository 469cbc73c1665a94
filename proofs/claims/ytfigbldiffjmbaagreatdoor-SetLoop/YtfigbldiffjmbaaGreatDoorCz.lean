/- Closed runs: a memory of the executor and the model's, and how both go on. -/
import Derived.Test.YtfigbldiffjmbaaGreatDoorCy
namespace Go.Proofs.YtfigbldiffjmbaaGreatDoor
set_option linter.unusedVariables false
namespace Cx
open Go

def LObj.live : LObj → Bool
  | .dead => false
  | .other => false
  | _ => true
def LObj.isRo : LObj → Bool
  | .ro _ => true
  | _ => false

/-- the temporaries -/
structure TR (μ : Mu) (e : En) (tmps : Array Value) : Prop where
  size : tmps.size = e.sz
  get : ∀ t v, e.t.get t = some v → ∃ v', tmps[t]? = some v' ∧ VR μ v v'
inductive ER (μ : Mu) : List (Value × Value) → List MapEntry → Prop
  | nil : ER μ [] []
  | cons {k v k' v' : Value} {born : Nat} {l : List (Value × Value)} {l' : List MapEntry} (hk : scalar k = true) (h1 : VR μ k k') (h2 : VR μ v v') (t : ER μ l l') : ER μ ((k, v) :: l) (⟨k', v', born⟩ :: l')
def LoopR : Bool → Option Code → Loop → Prop
  | false, p, l => l.state = .ready ∧ p = none ∧ l.pending = none
  | true, none, l => l.state = .busy
  | true, some c, l => l.state = .done ∧ l.pending = some c

def OR (μ : Mu) (w : World) (b p s : Nat) : LObj → Prop
  | .cells vs => ∃ c ty lo hi, w.heap[b]? = some (.cells c ty (lo, hi)) ∧ p + s ≤ c.size ∧ vs.length ≤ s ∧ (lo ≤ hi ∧ ∀ i, i < c.size → ¬ (lo ≤ i ∧ i < hi)) ∧ ∀ (i : Nat) (v : Value), vs[i]? = some v → ∃ v', c[p + i]? = some v' ∧ VR μ v v'
  | .ro vs => ∃ c ty fr, w.heap[b]? = some (.cells c ty fr) ∧ ∀ (i : Nat) (v : Value), vs[i]? = some v → ∃ v', c[p + i]? = some v' ∧ VR μ v v'
  | .map es => ∃ ents clock, w.heap[b]? = some (.map ents clock) ∧ ER μ es ents.toList
  | .defs => w.heap[b]? = some (.deferred (some []))
  | .loop busy pend e ps as bd => ∃ l : Loop, w.heap[b]? = some (.loop l) ∧ LoopR busy pend l ∧ l.params.toList = ps ∧ l.assign = as ∧ l.body = bd ∧ TR μ e l.tmps
  | .dead => True
  | .other => True

theorem TR.mono {μ μ' : Mu} (hm : Mu.le μ μ') {e : En} {a : Array Value} (h : TR μ e a) : TR μ' e a :=
  ⟨h.size, fun t v e => let ⟨v', h1, h2⟩ := h.get t v e; ⟨v', h1, h2.mono hm⟩⟩
theorem ER.mono {μ μ' : Mu} (hm : Mu.le μ μ') {l : List (Value × Value)} {l' : List MapEntry} (h : ER μ l l') : ER μ' l l' := by
  induction h with
  | nil => exact .nil
  | cons hk h1 h2 _ ih => exact .cons hk (h1.mono hm) (h2.mono hm) ih
theorem OR.mono {μ μ' : Mu} (hm : Mu.le μ μ') {w : World} {b p s : Nat} {o : LObj} (h : OR μ w b p s o) : OR μ' w b p s o := by
  cases o with
  | cells vs => obtain ⟨c, ty, lo, hi, h1, h2, h3, h4, h5⟩ := h; exact ⟨c, ty, lo, hi, h1, h2, h3, h4, fun i v e => let ⟨v', a, b⟩ := h5 i v e; ⟨v', a, b.mono hm⟩⟩
  | ro vs => obtain ⟨c, ty, fr, h1, h5⟩ := h; exact ⟨c, ty, fr, h1, fun i v e => let ⟨v', a, b⟩ := h5 i v e; ⟨v', a, b.mono hm⟩⟩
  | map es => obtain ⟨x, y, h1, h2⟩ := h; exact ⟨x, y, h1, h2.mono hm⟩
  | loop busy pend e ps as bd => obtain ⟨l, h1, h2, h3, h4, h5, h6⟩ := h; exact ⟨l, h1, h2, h3, h4, h5, h6.mono hm⟩
  | defs => exact h
  | dead => trivial
  | other => trivial
/-- an object reads as it did where its block is as it was -/
theorem OR.same {μ : Mu} {w w' : World} {b p s : Nat} {o : LObj} (h : OR μ w b p s o) (hb : w'.heap[b]? = w.heap[b]?) : OR μ w' b p s o := by
  cases o with
  | cells vs => obtain ⟨c, ty, lo, hi, h1, h2⟩ := h; exact ⟨c, ty, lo, hi, hb.trans h1, h2⟩
  | ro vs => obtain ⟨c, ty, fr, h1, h2⟩ := h; exact ⟨c, ty, fr, hb.trans h1, h2⟩
  | map es => obtain ⟨x, y, h1, h2⟩ := h; exact ⟨x, y, hb.trans h1, h2⟩
  | loop busy pend e ps as bd => obtain ⟨l, h1, h2⟩ := h; exact ⟨l, hb.trans h1, h2⟩
  | defs => exact hb.trans h
  | dead => trivial
  | other => trivial

/-- The memory V of the executor, of n blocks, lies in the model's world; what it may change lies from B on. -/
structure HR (B : Nat) (μ : Mu) (n : Nat) (V : Nat → Option LObj) (w : World) : Prop where
  lt : ∀ k b p s, μ k = some (b, p, s) → k < n ∧ b < w.heap.size
  obj : ∀ k b p s o, μ k = some (b, p, s) → V k = some o → OR μ w b p s o
  inj : ∀ k k' b p s p' s' o o', μ k = some (b, p, s) → μ k' = some (b, p', s') → V k = some o → V k' = some o' → o.live = true → o'.live = true → k = k'
  own : ∀ k b p s o, μ k = some (b, p, s) → V k = some o → o.live = true → o.isRo = true ∨ B ≤ b

theorem HR.heap {B : Nat} {μ : Mu} {n : Nat} {V : Nat → Option LObj} {w w' : World} (h : HR B μ n V w) (he : w'.heap = w.heap) : HR B μ n V w' :=
  ⟨fun k b p s e => he ▸ h.lt k b p s e, fun k b p s o e1 e2 => (h.obj k b p s o e1 e2).same (by rw [he]), h.inj, h.own⟩

/-- How both go on. -/
structure St (μ : Mu) (h : Hp) (w : World) (μ' : Mu) (h' : Hp) (w' : World) : Prop where
  le : Mu.le μ μ'
  dom : ∀ k, k < h.n → μ' k = μ k
  n : h.n ≤ h'.n
  low : h'.low ≤ h.low
  kept : ∀ k, k < h.n → k < h'.low → h'.t.get k = h.t.get k
  alive : ∀ k o, k < h.n → h'.t.get k = some o → o.live = true → ∃ o0, h.t.get k = some o0 ∧ o0.live = true ∧ (o0.isRo = o.isRo)
  os : w'.os = w.os
  tape : w'.tape = w.tape
  output : w'.output = w.output
  size : w.heap.size ≤ w'.heap.size
  frame : ∀ b, b < w.heap.size → (∀ k p s o, μ k = some (b, p, s) → h.t.get k = some o → o.live = true → o.isRo = true ∨ k < h'.low) → w'.heap[b]? = w.heap[b]?
  fresh : ∀ k b p s, h.n ≤ k → μ' k = some (b, p, s) → w.heap.size ≤ b ∨ ∃ k0 p0 s0 o0, μ k0 = some (b, p0, s0) ∧ h.t.get k0 = some o0 ∧ o0.live = true ∧ o0.isRo = false ∧ h'.low ≤ k0

theorem St.refl (μ : Mu) (h : Hp) (w : World) (hb : ∀ k x, μ k = some x → k < h.n) : St μ h w μ h w :=
  ⟨Mu.le_refl _, fun _ _ => rfl, Nat.le_refl _, Nat.le_refl _, fun _ _ _ => rfl, fun k o _ e hl => ⟨o, e, hl, rfl⟩, rfl, rfl, rfl, Nat.le_refl _, fun _ _ _ => rfl, fun k b p s hk e => absurd (hb k _ e) (by omega)⟩
theorem St.trans {μ μ' μ'' : Mu} {h h' h'' : Hp} {w w' w'' : World} (a : St μ h w μ' h' w') (b : St μ' h' w' μ'' h'' w'') (hlt : ∀ k x, μ k = some x → k < h.n) : St μ h w μ'' h'' w'' := by
  refine ⟨Mu.le_trans a.le b.le, fun k hk => (b.dom k (Nat.lt_of_lt_of_le hk a.n)).trans (a.dom k hk), Nat.le_trans a.n b.n, Nat.le_trans b.low a.low, fun k hk hl => (b.kept k (Nat.lt_of_lt_of_le hk a.n) hl).trans (a.kept k hk (Nat.lt_of_lt_of_le hl b.low)), ?_, b.os.trans a.os, b.tape.trans a.tape, b.output.trans a.output, Nat.le_trans a.size b.size, ?_, ?_⟩
  · intro k o hk e hl
    obtain ⟨o1, h1, h2, h3⟩ := b.alive k o (Nat.lt_of_lt_of_le hk a.n) e hl
    obtain ⟨o2, h4, h5, h6⟩ := a.alive k o1 hk h1 h2
    exact ⟨o2, h4, h5, h6.trans h3⟩
  · intro x hx hno
    have hno' : ∀ k p s o, μ k = some (x, p, s) → h.t.get k = some o → o.live = true → o.isRo = true ∨ k < h'.low := fun k p s o e1 e2 e3 => (hno k p s o e1 e2 e3).imp id fun hh => Nat.lt_of_lt_of_le hh b.low
    refine (b.frame x (Nat.lt_of_lt_of_le hx a.size) ?_).trans (a.frame x hx hno')
    intro k p s o e1 e2 hl
    by_cases hk : k < h.n
    · rw [a.dom k hk] at e1
      obtain ⟨o1, h1, h2, h3⟩ := a.alive k o hk e2 hl
      rw [← h3]; exact hno k p s o1 e1 h1 h2
    · rcases a.fresh k x p s (by omega) e1 with h1 | ⟨k0, p0, s0, o0, h1, h2, h3, h4, h5⟩
      · omega
      · rcases hno' k0 p0 s0 o0 h1 h2 h3 with hh | hh
        · rw [hh] at h4; cases h4
        · omega
  · intro k x p s hk e
    by_cases hk' : k < h'.n
    · rw [b.dom k hk'] at e
      rcases a.fresh k x p s hk e with h1 | ⟨k0, p0, s0, o0, h1, h2, h3, h4, h5⟩
      · exact .inl h1
      · exact .inr ⟨k0, p0, s0, o0, h1, h2, h3, h4, Nat.le_trans b.low h5⟩
    · rcases b.fresh k x p s (by omega) e with h1 | ⟨k0, p0, s0, o0, h1, h2, h3, h4, h5⟩
      · exact .inl (Nat.le_trans a.size h1)
      · by_cases hk0 : k0 < h.n
        · rw [a.dom k0 hk0] at h1
          obtain ⟨o1, g1, g2, g3⟩ := a.alive k0 o0 hk0 h2 h3
          exact .inr ⟨k0, p0, s0, o1, h1, g1, g2, g3.trans h4, h5⟩
        · rcases a.fresh k0 x p0 s0 (by omega) h1 with g1 | ⟨k1, p1, s1, o1, g1, g2, g3, g4, g5⟩
          · exact .inl g1
          · exact .inr ⟨k1, p1, s1, o1, g1, g2, g3, g4, Nat.le_trans b.low g5⟩

/-- the draws of a world say nothing of its memory -/
theorem St.heap {μ : Mu} {h : Hp} {w w' : World} (hb : ∀ k x, μ k = some x → k < h.n) (he : w'.heap = w.heap) (ho : w'.os = w.os) (ht : w'.tape = w.tape) (hp : w'.output = w.output) : St μ h w μ h w' :=
  ⟨Mu.le_refl _, fun _ _ => rfl, Nat.le_refl _, Nat.le_refl _, fun _ _ _ => rfl, fun k o _ e hl => ⟨o, e, hl, rfl⟩, ho, ht, hp, by rw [he]; exact Nat.le_refl _, fun _ _ _ => by rw [he], fun k b p s hk e => absurd (hb k _ e) (by omega)⟩

/-- All in one: the memories lie in each other, and have gone on. -/
structure Good (B : Nat) (μ : Mu) (h : Hp) (w : World) (μ' : Mu) (h' : Hp) (w' : World) : Prop where
  hr : HR B μ' h'.n h'.t.get w'
  st : St μ h w μ' h' w'

theorem HR.dom {B : Nat} {μ : Mu} {n : Nat} {V : Nat → Option LObj} {w : World} (h : HR B μ n V w) : ∀ k x, μ k = some x → k < n := fun k x e => (h.lt k x.1 x.2.1 x.2.2 e).1
theorem Good.refl {B : Nat} {μ : Mu} {h : Hp} {w : World} (hr : HR B μ h.n h.t.get w) : Good B μ h w μ h w := ⟨hr, .refl _ _ _ hr.dom⟩
theorem Good.trans {B : Nat} {μ μ' μ'' : Mu} {h h' h'' : Hp} {w w' w'' : World} (hr : HR B μ h.n h.t.get w) (a : Good B μ h w μ' h' w') (b : Good B μ' h' w' μ'' h'' w'') : Good B μ h w μ'' h'' w'' :=
  ⟨b.hr, a.st.trans b.st hr.dom⟩
theorem Good.drew {B : Nat} {μ : Mu} {h : Hp} {w w' : World} (hr : HR B μ h.n h.t.get w) (he : w'.heap = w.heap) (ho : w'.os = w.os) (ht : w'.tape = w.tape) (hp : w'.output = w.output) : Good B μ h w μ h w' :=
  ⟨hr.heap he, .heap hr.dom he ho ht hp⟩

/-- a place more -/
def Mu.add (μ : Mu) (n : Nat) (x : Nat × Nat × Nat) : Mu := fun k => if k = n then some x else μ k
theorem Mu.add_le {μ : Mu} {n : Nat} {x : Nat × Nat × Nat} (h : ∀ y, μ n ≠ some y) : Mu.le μ (μ.add n x) := fun k y e => by
  unfold Mu.add
  by_cases hk : k = n
  · subst hk; exact absurd e (h y)
  · simp [hk, e]

/-- a new block -/
theorem new_ok {B : Nat} {μ : Mu} {h : Hp} {w : World} (hr : HR B μ h.n h.t.get w) (hB : B ≤ w.heap.size) (ob : Obj) (o : LObj) (s : Nat) (hro : o.isRo = false)
    (ho : OR (μ.add h.n (w.heap.size, 0, s)) { w with heap := w.heap.push ob } w.heap.size 0 s o) :
    Good B μ h w (μ.add h.n (w.heap.size, 0, s)) (h.new o) { w with heap := w.heap.push ob } := by
  have hle : Mu.le μ (μ.add h.n (w.heap.size, 0, s)) := Mu.add_le fun y e => by have := hr.dom _ _ e; omega
  have hold : ∀ b, b < w.heap.size → (w.heap.push ob)[b]? = w.heap[b]? := fun b hb => by simp [Array.getElem?_push, Nat.ne_of_lt hb]
  have hget : ∀ k, (h.new o).t.get k = if k = h.n then some o else h.t.get k := fun k => T.get_put _ _ _ _
  refine ⟨⟨?_, ?_, ?_, ?_⟩, ⟨hle, ?_, Nat.le_succ _, Nat.le_refl _, ?_, ?_, rfl, rfl, rfl, by simp, fun b hb _ => hold b hb, ?_⟩⟩
  · intro k b p s' e
    unfold Mu.add at e
    by_cases hk : k = h.n
    · simp [hk] at e; obtain ⟨rfl, rfl, rfl⟩ := e; exact ⟨by subst hk; exact Nat.lt_succ_self _, by simp⟩
    · simp [hk] at e; have := hr.lt k b p s' e; exact ⟨Nat.lt_succ_of_lt this.1, by simp; omega⟩
  · intro k b p s' o' e1 e2
    rw [hget] at e2
    unfold Mu.add at e1
    by_cases hk : k = h.n
    · simp [hk] at e1 e2; obtain ⟨rfl, rfl, rfl⟩ := e1; subst e2; exact ho
    · simp [hk] at e1 e2
      exact ((hr.obj k b p s' o' e1 e2).mono hle).same (hold b (hr.lt k b p s' e1).2)
  · intro k k' b p s' p' s'' o1 o2 e1 e2 e3 e4 l1 l2
    rw [hget] at e3 e4
    unfold Mu.add at e1 e2
    by_cases hk : k = h.n
    · by_cases hk' : k' = h.n
      · rw [hk, hk']
      · simp [hk, hk'] at e1 e2; obtain ⟨rfl, _⟩ := e1; exact absurd (hr.lt k' _ _ _ e2).2 (by omega)
    · by_cases hk' : k' = h.n
      · simp [hk, hk'] at e1 e2; obtain ⟨rfl, _⟩ := e2; exact absurd (hr.lt k _ _ _ e1).2 (by omega)
      · simp [hk, hk'] at e1 e2 e3 e4; exact hr.inj k k' b p s' p' s'' o1 o2 e1 e2 e3 e4 l1 l2
  · intro k b p s' o' e1 e2 l
    rw [hget] at e2
    unfold Mu.add at e1
    by_cases hk : k = h.n
    · simp [hk] at e1; obtain ⟨rfl, _⟩ := e1; exact .inr hB
    · simp [hk] at e1 e2; exact hr.own k b p s' o' e1 e2 l
  · intro k hk
    have : k ≠ h.n := by omega
    simp [Mu.add, this]
  · intro k hk _
    have : k ≠ h.n := by omega
    rw [hget]; simp [this]
  · intro k o' hk e hl
    have : k ≠ h.n := by omega
    rw [hget] at e; simp [this] at e
    exact ⟨o', e, hl, rfl⟩
  · intro k b p s' hk e
    unfold Mu.add at e
    by_cases hk' : k = h.n
    · simp [hk'] at e; obtain ⟨rfl, _⟩ := e; exact .inl (Nat.le_refl _)
    · simp [hk'] at e; exact absurd (hr.lt k b p s' e).1 (by omega)

theorem set_get (h : Hp) (k : Nat) (o : LObj) (j : Nat) : (h.set k o).t.get j = if j = k then some o else h.t.get j := T.get_put _ _ _ _
theorem set_low (h : Hp) (k : Nat) (o : LObj) : (h.set k o).low ≤ h.low ∧ (h.set k o).low ≤ k := by
  show cond (Nat.ble h.low k) h.low k ≤ h.low ∧ cond (Nat.ble h.low k) h.low k ≤ k
  cases e : Nat.ble h.low k
  · have : ¬ h.low ≤ k := fun hh => by rw [Nat.ble_eq_true_of_le hh] at e; cases e
    simp; omega
  · have : h.low ≤ k := Nat.le_of_ble_eq_true e
    simp; omega

/-- a block changed on both sides, all others as they were -/
theorem set_ok {B : Nat} {μ : Mu} {h : Hp} {w w' : World} (hr : HR B μ h.n h.t.get w) {k b p s : Nat} {o0 o : LObj} (hk : μ k = some (b, p, s)) (h0 : h.t.get k = some o0) (l0 : o0.live = true) (r0 : o0.isRo = false) (r1 : o.isRo = false)
    (hos : w'.os = w.os) (ht : w'.tape = w.tape) (hout : w'.output = w.output) (hsz : w'.heap.size = w.heap.size) (hother : ∀ b', b' ≠ b → w'.heap[b']? = w.heap[b']?) (ho : OR μ w' b p s o) :
    Good B μ h w μ (h.set k o) w' := by
  have hlow := set_low h k o
  refine ⟨⟨fun j b' p' s' e => ⟨(hr.lt j b' p' s' e).1, by rw [hsz]; exact (hr.lt j b' p' s' e).2⟩, ?_, ?_, ?_⟩, ⟨Mu.le_refl _, fun _ _ => rfl, Nat.le_refl _, hlow.1, ?_, ?_, hos, ht, hout, by rw [hsz]; exact Nat.le_refl _, ?_, fun j b' p' s' hj e => absurd (hr.lt j b' p' s' e).1 (by omega)⟩⟩
  · intro j b' p' s' o' e1 e2
    rw [set_get] at e2
    by_cases hj : j = k
    · subst hj; simp at e2; subst e2; rw [hk] at e1; simp at e1; obtain ⟨rfl, rfl, rfl⟩ := e1; exact ho
    · simp [hj] at e2
      by_cases hb : b' = b
      · subst hb
        by_cases hl : o'.live = true
        · exact absurd (hr.inj j k b' p' s' p s o' o0 e1 hk e2 h0 hl l0) hj
        · cases o' <;> first | trivial | exact absurd rfl hl
      · exact (hr.obj j b' p' s' o' e1 e2).same (hother b' hb)
  · intro j j' b' p' s' p'' s'' o1 o2 e1 e2 e3 e4 l1 l2
    rw [set_get] at e3 e4
    by_cases hj : j = k
    · by_cases hj' : j' = k
      · rw [hj, hj']
      · simp [hj'] at e4; subst hj; exact hr.inj j j' b' p' s' p'' s'' o0 o2 e1 e2 h0 e4 l0 l2
    · by_cases hj' : j' = k
      · simp [hj] at e3; subst hj'; exact hr.inj j j' b' p' s' p'' s'' o1 o0 e1 e2 e3 h0 l1 l0
      · simp [hj] at e3; simp [hj'] at e4; exact hr.inj j j' b' p' s' p'' s'' o1 o2 e1 e2 e3 e4 l1 l2
  · intro j b' p' s' o' e1 e2 l
    rw [set_get] at e2
    by_cases hj : j = k
    · subst hj
      rcases hr.own j b' p' s' o0 e1 h0 l0 with h1 | h1
      · rw [r0] at h1; cases h1
      · exact .inr h1
    · simp [hj] at e2; exact hr.own j b' p' s' o' e1 e2 l
  · intro j hj hjl
    rw [set_get]
    have : j ≠ k := by omega
    simp [this]
  · intro j o' hj e hl
    rw [set_get] at e
    by_cases hjk : j = k
    · subst hjk; simp at e; subst e; exact ⟨o0, h0, l0, by rw [r0, r1]⟩
    · simp [hjk] at e; exact ⟨o', e, hl, rfl⟩
  · intro b' hb' hno
    refine hother b' fun hbb => ?_
    subst hbb
    rcases hno k p s o0 hk h0 l0 with hh | hh
    · rw [r0] at hh; cases hh
    · omega
end Cx
end Go.Proofs.YtfigbldiffjmbaaGreatDoor
