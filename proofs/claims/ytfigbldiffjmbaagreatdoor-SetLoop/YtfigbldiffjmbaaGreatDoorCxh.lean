/- Closed runs: a region that draws its order: what holds while some of its operations are done. -/
import Derived.Test.YtfigbldiffjmbaaGreatDoorCxg
namespace Go.Proofs.YtfigbldiffjmbaaGreatDoor
namespace Cx
open Go

def cutM (μ : Mu) (n : Nat) : Mu := fun k => if k < n then μ k else none
theorem cutM_some {μ : Mu} {n k : Nat} {x : Nat × Nat × Nat} : cutM μ n k = some x ↔ k < n ∧ μ k = some x := by
  unfold cutM
  by_cases h : k < n <;> simp [h]
theorem cutM_le (μ : Mu) (n : Nat) : Mu.le (cutM μ n) μ := fun _ _ h => (cutM_some.1 h).2
theorem cutM_mono {μ μ' : Mu} {n m : Nat} (h : n ≤ m) (hm : ∀ k x, k < n → μ k = some x → μ' k = some x) : Mu.le (cutM μ n) (cutM μ' m) := fun k x e => by
  obtain ⟨h1, h2⟩ := cutM_some.1 e
  exact cutM_some.2 ⟨by omega, hm k x h1 h2⟩

def AgS (ops : Array Oper) (D : Nat → Prop) (j t : Nat) : Prop := ∀ i, i < ops.size → Ds ops i t → (D i ↔ i < j)
def AgK (G : Nat) (ops : Array Oper) (y : Way) (D : Nat → Prop) (m k : Nat) : Prop := ∀ i, i < ops.size → Wr G ops y i k → (D i ↔ i < m)

structure Inv (B G : Nat) (ops : Array Oper) (y : Way) (μ0 : Mu) (w0 : World) (a0 : Act) (D : Nat → Prop) (μ : Mu) (a : Act) (w : World) : Prop where
  slot : ∀ t v j, j ≤ ops.size → (y.E j).t.get t = some v → AgS ops D j t → ∃ v', a.tmps[t]? = some v' ∧ VR (cutM μ (y.H j).n) v v'
  size : a.tmps.size = (y.E 0).sz
  defers : a.defers = a0.defers
  lt : ∀ k b p s, μ k = some (b, p, s) → b < w.heap.size ∧ (k < (y.H 0).n ∨ ∃ i, i < ops.size ∧ D i ∧ (y.H i).n ≤ k ∧ k < (y.H (i + 1)).n)
  base : ∀ k, k < (y.H 0).n → μ k = μ0 k
  obj : ∀ k b p s m o, m ≤ ops.size → μ k = some (b, p, s) → k < (y.H m).n → AgK G ops y D m k → (y.H m).t.get k = some o → OR (cutM μ (y.H m).n) w b p s o
  inj : ∀ k k' b p s p' s' m m' o o', m ≤ ops.size → m' ≤ ops.size → μ k = some (b, p, s) → μ k' = some (b, p', s') → k < (y.H m).n → k' < (y.H m').n → AgK G ops y D m k → AgK G ops y D m' k' → (y.H m).t.get k = some o → (y.H m').t.get k' = some o' → o.live = true → o'.live = true → k = k'
  own : ∀ k b p s m o, m ≤ ops.size → μ k = some (b, p, s) → k < (y.H m).n → AgK G ops y D m k → (y.H m).t.get k = some o → o.live = true → o.isRo = true ∨ B ≤ b
  touched : ∀ i o k st, ops[i]? = some o → D i → y.W i = true → touch G (y.E i) o.op = some (st, k) → ∃ x, μ k = some x
  os : w.os = w0.os
  tape : w.tape = w0.tape
  output : w.output = w0.output
  wsize : w0.heap.size ≤ w.heap.size
  frame : ∀ b, b < w0.heap.size → (∀ k p s o, μ0 k = some (b, p, s) → (y.H 0).t.get k = some o → o.live = true → o.isRo = true ∨ k < (y.H ops.size).low) → w.heap[b]? = w0.heap[b]?
  fresh : ∀ k b p s, (y.H 0).n ≤ k → μ k = some (b, p, s) → w0.heap.size ≤ b ∨ ∃ k0 p0 s0 o0, μ0 k0 = some (b, p0, s0) ∧ (y.H 0).t.get k0 = some o0 ∧ o0.live = true ∧ o0.isRo = false ∧ (y.H ops.size).low ≤ k0

section
variable {B G : Nat} {ops : Array Oper} {y : Way} {μ0 : Mu} {w0 : World} {a0 : Act} {D : Nat → Prop} {μ : Mu} {a : Act} {w : World}

theorem Loc.mono (l : Loc G ops y) : ∀ {i j : Nat}, i ≤ j → j ≤ ops.size → (y.H i).n ≤ (y.H j).n := by
  intro i j hij
  induction j with
  | zero => intro _; have : i = 0 := by omega
            subst this; exact Nat.le_refl _
  | succ j ih =>
    intro hj
    by_cases h : i = j + 1
    · subst h; exact Nat.le_refl _
    · exact Nat.le_trans (ih (by omega) (by omega)) (l.n j (by omega))
theorem Loc.content (l : Loc G ops y) {k : Nat} : ∀ {m m' : Nat}, m ≤ m' → m' ≤ ops.size → k < (y.H m).n → (∀ i, m ≤ i → i < m' → ¬ Wr G ops y i k) → (y.H m').t.get k = (y.H m).t.get k := by
  intro m m' hmm
  induction m' with
  | zero => intro _ _ _; have : m = 0 := by omega
            subst this; rfl
  | succ j ih =>
    intro hj hk hno
    by_cases h : m = j + 1
    · subst h; rfl
    · have hkj : k < (y.H j).n := Nat.lt_of_lt_of_le hk (l.mono (by omega) (by omega))
      rw [l.same j k (by omega) hkj (hno j (by omega) (by omega))]
      exact ih (by omega) (by omega) hk fun i h1 h2 => hno i h1 (by omega)
theorem Loc.slots (l : Loc G ops y) {t : Nat} : ∀ {m m' : Nat}, m ≤ m' → m' ≤ ops.size → (∀ i, m ≤ i → i < m' → ¬ Ds ops i t) → (y.E m').t.get t = (y.E m).t.get t := by
  intro m m' hmm
  induction m' with
  | zero => intro _ _; have : m = 0 := by omega
            subst this; rfl
  | succ j ih =>
    intro hj hno
    by_cases h : m = j + 1
    · subst h; rfl
    · rw [l.keptE j t (by omega) (hno j (by omega) (by omega))]
      exact ih (by omega) (by omega) fun i h1 h2 => hno i h1 (by omega)
theorem Loc.consts (l : Loc G ops y) : ∀ {i : Nat}, i ≤ ops.size → (y.E i).sz = (y.E 0).sz ∧ (y.E i).mks = (y.E 0).mks := by
  intro i
  induction i with
  | zero => intro _; exact ⟨rfl, rfl⟩
  | succ i ih => intro hi; obtain ⟨h1, h2⟩ := ih (by omega); exact ⟨(l.sz i (by omega)).trans h1, (l.mks i (by omega)).trans h2⟩
/-- two times that agree with what is done show the same -/
theorem Loc.agree (l : Loc G ops y) {m m' k : Nat} (hm : m ≤ ops.size) (hm' : m' ≤ ops.size) (hk : k < (y.H m).n) (hk' : k < (y.H m').n) (h1 : AgK G ops y D m k) (h2 : AgK G ops y D m' k) : (y.H m').t.get k = (y.H m).t.get k := by
  rcases Nat.le_total m m' with h | h
  · refine l.content h hm' hk fun i q1 q2 hw => ?_
    have := (h1 i (by omega) hw).1 ((h2 i (by omega) hw).2 q2)
    omega
  · refine (l.content h hm hk' fun i q1 q2 hw => ?_).symm
    have := (h2 i (by omega) hw).1 ((h1 i (by omega) hw).2 q2)
    omega

/-- done too -/
def Dn (D : Nat → Prop) (i : Nat) : Nat → Prop := fun j => D j ∨ j = i
theorem AgK.back {i m k : Nat} (h : AgK G ops y (Dn D i) m k) (hw : ¬ Wr G ops y i k) : AgK G ops y D m k := fun j hj hwj => by
  have hne : j ≠ i := fun e => hw (e ▸ hwj)
  have := h j hj hwj
  unfold Dn at this
  constructor
  · intro hd; exact this.1 (.inl hd)
  · intro hlt; exact (this.2 hlt).resolve_right hne

theorem slot_next (l : Loc G ops y) (inv : Inv B G ops y μ0 w0 a0 D μ a w) {i : Nat} {o : Oper} (ho : ops[i]? = some o) {μ' : Mu} {v' : Value} (hds : ∀ i2 t, i2 < ops.size → D i2 → Ds ops i2 t → Ds ops i t → i2 < i)
    (hm : ∀ k x, μ k = some x → μ' k = some x) (hv : VR (cutM μ' (y.H (i + 1)).n) (y.V i) v') :
    ∀ t v j, j ≤ ops.size → (y.E j).t.get t = some v → AgS ops (Dn D i) j t → ∃ v'', (a.put o.dst v').tmps[t]? = some v'' ∧ VR (cutM μ' (y.H j).n) v v'' := by
  intro t v j hj hv' hag
  have hi : i < ops.size := (Array.getElem?_eq_some_iff.1 ho).1
  by_cases hd : o.dst = some t
  · have hDs : Ds ops i t := ⟨o, ho, hd⟩
    have hij : i < j := (hag i hi hDs).1 (.inr rfl)
    have heq : (y.E j).t.get t = (y.E (i + 1)).t.get t := l.slots (by omega) hj fun i2 q1 q2 hd2 => by
      have := (hag i2 (by omega) hd2).2 q2
      rcases this with h3 | h3
      · have := hds i2 t (by omega) h3 hd2 hDs; omega
      · omega
    rw [heq, l.putE i t hi hDs] at hv'
    simp only [Option.some.injEq] at hv'
    subst hv'
    have hlt : t < a.tmps.size := by
      rw [inv.size, ← (l.consts (i := i) (by omega)).1]
      exact l.dlt i t hi hDs
    refine ⟨v', by rw [hd]; simp [Act.put, hlt], hv.mono (cutM_mono (l.mono (by omega) hj) fun _ _ _ h => h)⟩
  · have hag' : AgS ops D j t := fun i2 h2 hd2 => by
      have hne : i2 ≠ i := fun e => by
        subst e
        obtain ⟨o2, ho2, hd3⟩ := hd2
        rw [ho] at ho2; simp only [Option.some.injEq] at ho2; subst ho2
        exact hd hd3
      have := hag i2 h2 hd2
      unfold Dn at this
      constructor
      · intro q; exact this.1 (.inl q)
      · intro q; exact (this.2 q).resolve_right hne
    obtain ⟨u, h1, h2⟩ := inv.slot t v j hj hv' hag'
    refine ⟨u, ?_, h2.mono (cutM_mono (Nat.le_refl _) fun k x _ h => hm k x h)⟩
    cases hdst : o.dst with
    | none => exact h1
    | some d =>
      have : d ≠ t := fun e => hd (by rw [hdst, e])
      simp [Act.put, Array.getElem?_setIfInBounds_ne this, h1]

/-- the places behind an operation: new ones of its own -/
def nextM (y : Way) (i : Nat) (μ μ1 : Mu) : Mu := fun k => if (y.H i).n ≤ k ∧ k < (y.H (i + 1)).n then μ1 k else μ k
theorem put_size (a : Act) (d : Option Tmp) (v : Value) : (a.put d v).tmps.size = a.tmps.size ∧ (a.put d v).defers = a.defers := by
  cases d <;> simp [Act.put]

/-- an operation that changes nothing that was there -/
theorem inv_clean (l : Loc G ops y) (inv : Inv B G ops y μ0 w0 a0 D μ a w) {i : Nat} {o : Oper} (ho : ops[i]? = some o) (hnD : ¬ D i) {μ1 : Mu} {v' : Value} {w1 : World}
    (hds : ∀ i2 t, i2 < ops.size → D i2 → Ds ops i2 t → Ds ops i t → i2 < i) (hwr : ∀ k, ¬ Wr G ops y i k) (hnw : ∀ i2 k, i2 < ops.size → i < i2 → D i2 → Wr G ops y i2 k → (y.H i).n ≤ k → k < (y.H (i + 1)).n → False)
    (hdom : ∀ k, k < (y.H i).n → μ1 k = cutM μ (y.H i).n k) (hnew : ∀ k b p s, (y.H i).n ≤ k → μ1 k = some (b, p, s) → k < (y.H (i + 1)).n ∧ w.heap.size ≤ b ∧ b < w1.heap.size)
    (hsame : ∀ b, b < w.heap.size → w1.heap[b]? = w.heap[b]?) (hos : w1.os = w.os) (htp : w1.tape = w.tape) (hout : w1.output = w.output) (hsz : w.heap.size ≤ w1.heap.size)
    (hobj : ∀ k b p s q, (y.H i).n ≤ k → μ1 k = some (b, p, s) → (y.H (i + 1)).t.get k = some q → OR μ1 w1 b p s q ∧ (q.live = true → q.isRo = true ∨ B ≤ b))
    (hinj : ∀ k k' b p s p' s' q q', (y.H i).n ≤ k → (y.H i).n ≤ k' → μ1 k = some (b, p, s) → μ1 k' = some (b, p', s') → (y.H (i + 1)).t.get k = some q → (y.H (i + 1)).t.get k' = some q' → q.live = true → q'.live = true → k = k')
    (htc : ∀ k st, y.W i = true → touch G (y.E i) o.op = some (st, k) → ∃ x, μ k = some x) (hv : VR μ1 (y.V i) v') :
    Inv B G ops y μ0 w0 a0 (Dn D i) (nextM y i μ μ1) (a.put o.dst v') w1 := by
  have hi : i < ops.size := (Array.getElem?_eq_some_iff.1 ho).1
  have hn := l.n i hi
  have hN : ∀ k x, μ k = some x → ¬ ((y.H i).n ≤ k ∧ k < (y.H (i + 1)).n) := by
    rintro k ⟨b, p, s⟩ e ⟨h1, h2⟩
    rcases (inv.lt k b p s e).2 with h3 | ⟨j, hj, hD, h4, h5⟩
    · have := l.mono (Nat.zero_le i) (by omega : i ≤ ops.size); omega
    · have hne : j ≠ i := fun e => hnD (e ▸ hD)
      rcases Nat.lt_or_gt_of_ne hne with h6 | h6
      · have := l.mono (by omega : j + 1 ≤ i) (by omega); omega
      · have := l.mono (by omega : i + 1 ≤ j) (by omega); omega
  have hup : ∀ k x, μ k = some x → nextM y i μ μ1 k = some x := fun k x e => by
    unfold nextM; rw [if_neg (hN k x e)]; exact e
  have hsplit : ∀ k x, nextM y i μ μ1 k = some x → ((y.H i).n ≤ k ∧ k < (y.H (i + 1)).n ∧ μ1 k = some x) ∨ μ k = some x := fun k x e => by
    unfold nextM at e
    by_cases h : (y.H i).n ≤ k ∧ k < (y.H (i + 1)).n
    · rw [if_pos h] at e; exact .inl ⟨h.1, h.2, e⟩
    · rw [if_neg h] at e; exact .inr e
  have hcut1 : Mu.le μ1 (cutM (nextM y i μ μ1) (y.H (i + 1)).n) := fun k x e => by
    by_cases hk : k < (y.H i).n
    · rw [hdom k hk] at e
      exact cutM_some.2 ⟨by omega, hup k x (cutM_some.1 e).2⟩
    · obtain ⟨b, p, s⟩ := x
      have h1 := (hnew k b p s (by omega) e).1
      refine cutM_some.2 ⟨h1, ?_⟩
      unfold nextM; rw [if_pos ⟨by omega, h1⟩]; exact e
  -- a new block as the times see it that agree
  have hnewC : ∀ k m q, (y.H i).n ≤ k → k < (y.H (i + 1)).n → m ≤ ops.size → k < (y.H m).n → AgK G ops y (Dn D i) m k → (y.H m).t.get k = some q → i + 1 ≤ m ∧ (y.H (i + 1)).t.get k = some q := by
    intro k m q h1 h2 hm hkm hag hq
    have him : i + 1 ≤ m := by
      rcases Nat.lt_or_ge i m with h | h
      · exact h
      · have := l.mono h (by omega : i ≤ ops.size); omega
    refine ⟨him, ?_⟩
    rw [← hq]
    refine (l.content him hm h2 fun i2 q1 q2 hw2 => ?_).symm
    rcases (hag i2 (by omega) hw2).2 q2 with h3 | h3
    · exact hnw i2 k (by omega) (by omega) h3 hw2 h1 h2
    · omega
  refine ⟨slot_next l inv ho hds hup (hv.mono hcut1), (put_size a _ _).1.trans inv.size, (put_size a _ _).2.trans inv.defers, ?_, ?_, ?_, ?_, ?_, ?_, hos.trans inv.os, htp.trans inv.tape, hout.trans inv.output, Nat.le_trans inv.wsize hsz, ?_, ?_⟩
  · intro k b p s e
    rcases hsplit k _ e with ⟨h1, h2, h3⟩ | h3
    · exact ⟨(hnew k b p s h1 h3).2.2, .inr ⟨i, hi, .inr rfl, h1, h2⟩⟩
    · obtain ⟨q1, q2⟩ := inv.lt k b p s h3
      exact ⟨by omega, q2.imp id fun ⟨j, r1, r2, r3⟩ => ⟨j, r1, .inl r2, r3⟩⟩
  · intro k hk
    rw [← inv.base k hk]
    unfold nextM
    have := l.mono (Nat.zero_le i) (by omega : i ≤ ops.size)
    rw [if_neg (by omega)]
  · intro k b p s m q hm e hkm hag hq
    rcases hsplit k _ e with ⟨h1, h2, h3⟩ | h3
    · obtain ⟨him, hq'⟩ := hnewC k m q h1 h2 hm hkm hag hq
      exact ((hobj k b p s q h1 h3 hq').1).mono (Mu.le_trans hcut1 (cutM_mono (l.mono him hm) fun _ _ _ h => h))
    · have := inv.obj k b p s m q hm h3 hkm (hag.back (hwr k)) hq
      exact (this.mono (cutM_mono (Nat.le_refl _) fun k x _ h => hup k x h)).same (hsame b (inv.lt k b p s h3).1)
  · intro k k' b p s p' s' m m' q q' hm hm' e e' hkm hkm' hag hag' hq hq' hl hl'
    rcases hsplit k _ e with ⟨h1, h2, h3⟩ | h3
    · obtain ⟨him, hq1⟩ := hnewC k m q h1 h2 hm hkm hag hq
      rcases hsplit k' _ e' with ⟨h1', h2', h3'⟩ | h3'
      · obtain ⟨him', hq1'⟩ := hnewC k' m' q' h1' h2' hm' hkm' hag' hq'
        exact hinj k k' b p s p' s' q q' h1 h1' h3 h3' hq1 hq1' hl hl'
      · have := (hnew k b p s h1 h3).2.1; have := (inv.lt k' b p' s' h3').1; omega
    · rcases hsplit k' _ e' with ⟨h1', h2', h3'⟩ | h3'
      · have := (hnew k' b p' s' h1' h3').2.1; have := (inv.lt k b p s h3).1; omega
      · exact inv.inj k k' b p s p' s' m m' q q' hm hm' h3 h3' hkm hkm' (hag.back (hwr k)) (hag'.back (hwr k')) hq hq' hl hl'
  · intro k b p s m q hm e hkm hag hq hl
    rcases hsplit k _ e with ⟨h1, h2, h3⟩ | h3
    · obtain ⟨him, hq1⟩ := hnewC k m q h1 h2 hm hkm hag hq
      exact (hobj k b p s q h1 h3 hq1).2 hl
    · exact inv.own k b p s m q hm h3 hkm (hag.back (hwr k)) hq hl
  · intro j oj k st hj hd hwj ht
    rcases hd with hd | rfl
    · obtain ⟨x, hx⟩ := inv.touched j oj k st hj hd hwj ht
      exact ⟨x, hup k x hx⟩
    · rw [ho] at hj; simp only [Option.some.injEq] at hj; subst hj
      obtain ⟨x, hx⟩ := htc k st hwj ht
      exact ⟨x, hup k x hx⟩
  · intro b hb hno
    rw [hsame b (by have := inv.wsize; omega)]
    exact inv.frame b hb hno
  · intro k b p s hk e
    rcases hsplit k _ e with ⟨h1, h2, h3⟩ | h3
    · exact .inl (by have := (hnew k b p s h1 h3).2.1; have := inv.wsize; omega)
    · exact inv.fresh k b p s hk h3
end
end Cx
end Go.Proofs.YtfigbldiffjmbaaGreatDoor
