/- Closed runs: a region that draws its order: stores, and what changes much. -/
import Derived.Test.YtfigbldiffjmbaaGreatDoorCxh
namespace Go.Proofs.YtfigbldiffjmbaaGreatDoor
set_option linter.unusedVariables false
namespace Cx
open Go

section
variable {B G : Nat} {ops : Array Oper} {y : Way} {μ0 : Mu} {w0 : World} {a0 : Act} {D : Nat → Prop} {μ : Mu} {a : Act} {w : World}

theorem Loc.lows (l : Loc G ops y) : ∀ {i j : Nat}, i ≤ j → j ≤ ops.size → (y.H j).low ≤ (y.H i).low := by
  intro i j hij
  induction j with
  | zero => intro _; have : i = 0 := by omega
            subst this; exact Nat.le_refl _
  | succ j ih =>
    intro hj
    by_cases h : i = j + 1
    · subst h; exact Nat.le_refl _
    · exact Nat.le_trans (l.low j (by omega)) (ih (by omega) (by omega))
theorem Loc.alives (l : Loc G ops y) {k : Nat} : ∀ {m m' : Nat} {o : LObj}, m ≤ m' → m' ≤ ops.size → k < (y.H m).n → (y.H m').t.get k = some o → o.live = true → ∃ o0, (y.H m).t.get k = some o0 ∧ o0.live = true ∧ o0.isRo = o.isRo := by
  intro m m'
  induction m' with
  | zero => intro o h1 _ _ hq hl; have : m = 0 := by omega
            subst this; exact ⟨o, hq, hl, rfl⟩
  | succ j ih =>
    intro o h1 hj hk hq hl
    by_cases h : m = j + 1
    · subst h; exact ⟨o, hq, hl, rfl⟩
    · have hkj : k < (y.H j).n := Nat.lt_of_lt_of_le hk (l.mono (by omega) (by omega))
      obtain ⟨o1, q1, q2, q3⟩ := l.alive j k o (by omega) hkj hq hl
      obtain ⟨o2, r1, r2, r3⟩ := ih (by omega) (by omega) hk q1 q2
      exact ⟨o2, r1, r2, r3.trans q3⟩
theorem dead_OR {μ : Mu} {w : World} {b p s : Nat} {o : LObj} (h : o.live ≠ true) : OR μ w b p s o := by
  cases o <;> first | trivial | exact absurd rfl h
/-- a block that is changed has an owner that counts -/
theorem not_kept (l : Loc G ops y) (inv : Inv B G ops y μ0 w0 a0 D μ a w) {i k b p s : Nat} {o : LObj} (hi : i ≤ ops.size) (hk : μ k = some (b, p, s)) (hki : k < (y.H i).n) (ho : (y.H i).t.get k = some o) (hl : o.live = true) (hr : o.isRo = false) (hlow : (y.H ops.size).low ≤ k) (hb : b < w0.heap.size)
    (hno : ∀ k p s o, μ0 k = some (b, p, s) → (y.H 0).t.get k = some o → o.live = true → o.isRo = true ∨ k < (y.H ops.size).low) : False := by
  by_cases hk0 : k < (y.H 0).n
  · obtain ⟨o0, h1, h2, h3⟩ := l.alives (Nat.zero_le i) hi hk0 ho hl
    rw [inv.base k hk0] at hk
    rcases hno k p s o0 hk h1 h2 with h4 | h4
    · rw [h3, hr] at h4; cases h4
    · omega
  · rcases inv.fresh k b p s (by omega) hk with h1 | ⟨k0, p0, s0, o0, h1, h2, h3, h4, h5⟩
    · omega
    · rcases hno k0 p0 s0 o0 h1 h2 h3 with h6 | h6
      · rw [h6] at h4; cases h4
      · omega

theorem inv_store (l : Loc G ops y) (inv : Inv B G ops y μ0 w0 a0 D μ a w) {i : Nat} {o : Oper} (ho : ops[i]? = some o) (hnD : ¬ D i) {w1 : World} {k b p s : Nat} {us q : List Value}
    (hds : ∀ i2 t, i2 < ops.size → D i2 → Ds ops i2 t → Ds ops i t → i2 < i) (hW : ∀ k', Wr G ops y i k' ↔ k' = k) (hag : AgK G ops y D i k) (hk : μ k = some (b, p, s)) (hki : k < (y.H i).n)
    (hu : (y.H i).t.get k = some (.cells us)) (hh : y.H (i + 1) = (y.H i).set k (.cells q)) (hor : OR (cutM μ (y.H i).n) w1 b p s (.cells q))
    (hother : ∀ b', b' < w.heap.size → b' ≠ b → w1.heap[b']? = w.heap[b']?) (hos : w1.os = w.os) (htp : w1.tape = w.tape) (hout : w1.output = w.output) (hsz : w.heap.size ≤ w1.heap.size) (hv : y.V i = undef)
    (htc : ∀ k st, y.W i = true → touch G (y.E i) o.op = some (st, k) → ∃ x, μ k = some x) :
    Inv B G ops y μ0 w0 a0 (Dn D i) μ (a.put o.dst undef) w1 := by
  have hi : i < ops.size := (Array.getElem?_eq_some_iff.1 ho).1
  have hn : (y.H (i + 1)).n = (y.H i).n := by rw [hh]; rfl
  have hlow1 : (y.H ops.size).low ≤ k := Nat.le_trans (l.lows (by omega : i + 1 ≤ ops.size) (Nat.le_refl _)) (by rw [hh]; exact (set_low _ _ _).2)
  have hck : ∀ m, m ≤ ops.size → AgK G ops y (Dn D i) m k → i + 1 ≤ m ∧ (y.H m).t.get k = some (.cells q) := by
    intro m hm h
    have him : i < m := (h i hi ((hW k).2 rfl)).1 (.inr rfl)
    refine ⟨him, ?_⟩
    rw [l.content (by omega : i + 1 ≤ m) hm (by rw [hn]; exact hki) fun i2 q1 q2 hw2 => ?_, hh, set_get]
    · simp
    · rcases (h i2 (by omega) hw2).2 q2 with h3 | h3
      · have := (hag i2 (by omega) hw2).1 h3; omega
      · omega
  have hback : ∀ k' m o', m ≤ ops.size → k' < (y.H m).n → AgK G ops y (Dn D i) m k' → (y.H m).t.get k' = some o' → o'.live = true → ∃ m2 o2, m2 ≤ ops.size ∧ k' < (y.H m2).n ∧ AgK G ops y D m2 k' ∧ (y.H m2).t.get k' = some o2 ∧ o2.live = true ∧ o2.isRo = o'.isRo := by
    intro k' m o' hm hkm h hq hl
    by_cases hkk : k' = k
    · subst hkk
      have := (hck m hm h).2
      rw [hq] at this; simp only [Option.some.injEq] at this; subst this
      exact ⟨i, _, by omega, hki, hag, hu, rfl, rfl⟩
    · exact ⟨m, o', hm, hkm, h.back fun hw => hkk ((hW k').1 hw), hq, hl, rfl⟩
  refine ⟨slot_next l inv ho hds (fun _ _ h => h) (by rw [hv]; exact undef_refl _), (put_size a _ _).1.trans inv.size, (put_size a _ _).2.trans inv.defers, ?_, inv.base, ?_, ?_, ?_, ?_, hos.trans inv.os, htp.trans inv.tape, hout.trans inv.output, Nat.le_trans inv.wsize hsz, ?_, inv.fresh⟩
  · intro k' b' p' s' e
    obtain ⟨q1, q2⟩ := inv.lt k' b' p' s' e
    exact ⟨by omega, q2.imp id fun ⟨j, r1, r2, r3⟩ => ⟨j, r1, .inl r2, r3⟩⟩
  · intro k' b' p' s' m o' hm e hkm h hq
    by_cases hkk : k' = k
    · subst hkk
      obtain ⟨him, hq1⟩ := hck m hm h
      rw [hq] at hq1; simp only [Option.some.injEq] at hq1; subst hq1
      rw [hk] at e; simp only [Option.some.injEq, Prod.mk.injEq] at e
      obtain ⟨rfl, rfl, rfl⟩ := e
      exact hor.mono (cutM_mono (l.mono (by omega) hm) fun _ _ _ h => h)
    · have hag' := h.back fun hw => hkk ((hW k').1 hw)
      by_cases hl : o'.live = true
      · have hne : b' ≠ b := fun e2 => hkk (inv.inj k' k b p' s' p s m i o' _ hm (by omega) (e2 ▸ e) hk hkm hki hag' hag hq hu hl rfl)
        exact (inv.obj k' b' p' s' m o' hm e hkm hag' hq).same (hother b' (inv.lt k' b' p' s' e).1 hne)
      · exact dead_OR hl
  · intro k1 k2 b' p1 s1 p2 s2 m m' o1 o2 hm hm' e1 e2 hk1 hk2 h1 h2 hq1 hq2 hl1 hl2
    obtain ⟨n1, r1, a1, a2, a3, a4, a5, _⟩ := hback k1 m o1 hm hk1 h1 hq1 hl1
    obtain ⟨n2, r2, c1, c2, c3, c4, c5, _⟩ := hback k2 m' o2 hm' hk2 h2 hq2 hl2
    exact inv.inj k1 k2 b' p1 s1 p2 s2 n1 n2 r1 r2 a1 c1 e1 e2 a2 c2 a3 c3 a4 c4 a5 c5
  · intro k' b' p' s' m o' hm e hkm h hq hl
    obtain ⟨n1, r1, a1, a2, a3, a4, a5, a6⟩ := hback k' m o' hm hkm h hq hl
    rw [← a6]
    exact inv.own k' b' p' s' n1 r1 a1 e a2 a3 a4 a5
  · intro j oj k' st hj hd hwj ht
    rcases hd with hd | rfl
    · exact inv.touched j oj k' st hj hd hwj ht
    · rw [ho] at hj; simp only [Option.some.injEq] at hj; subst hj
      exact htc k' st hwj ht
  · intro b' hb' hno
    by_cases hbb : b' = b
    · subst hbb
      exact (not_kept l inv (by omega) hk hki hu rfl rfl hlow1 hb' hno).elim
    · rw [hother b' (by have := inv.wsize; omega) hbb]; exact inv.frame b' hb' hno

/-- what both know -/
def bothM (μ ν : Mu) : Mu := fun k => match ν k with | some _ => μ k | none => none
theorem bothM_some {μ ν : Mu} {k : Nat} {x : Nat × Nat × Nat} (h1 : μ k = some x) {z : Nat × Nat × Nat} (h2 : ν k = some z) : bothM μ ν k = some x := by
  unfold bothM; rw [h2]; exact h1
theorem bothM_inv {μ ν : Mu} {k : Nat} {x : Nat × Nat × Nat} (h : bothM μ ν k = some x) : μ k = some x ∧ ∃ z, ν k = some z := by
  unfold bothM at h
  split at h
  · rename_i z hz; exact ⟨h, z, hz⟩
  · cases h
mutual
theorem VR.both {μ ν : Mu} {v v' v'' : Value} (h : VR μ v v') (h2 : VR ν v v'') : VR (bothM μ ν) v v' := by
  cases h with
  | bool b => exact .bool b
  | int k n => exact .int k n
  | float k n => exact .float k n
  | string s => exact .string s
  | nilPtr => exact .nilPtr
  | ptr h => cases h2 with | ptr g => exact .ptr (bothM_some h g)
  | nilSlice c => exact .nilSlice c
  | slice h hn hc he => cases h2 with | slice g _ _ _ => exact .slice (bothM_some h g) hn hc he
  | nilMap => exact .nilMap
  | map h => cases h2 with | map g => exact .map (bothM_some h g)
  | nilFunc => exact .nilFunc
  | nilIface => exact .nilIface
  | iface t h => cases h2 with | iface _ g => exact .iface t (VR.both h g)
  | func f h1 h3 => cases h2 with | func _ g1 g2 => exact .func f (VRL.both h1 g1) (VRL.both h3 g2)
  | yield h => cases h2 with | yield g => exact .yield (bothM_some h g)
  | agg h => cases h2 with | agg g => exact .agg (VRL.both h g)
  | tuple h => cases h2 with | tuple g => exact .tuple (VRL.both h g)
theorem VRL.both {μ ν : Mu} {l l' l'' : List Value} (h : VRL μ l l') (h2 : VRL ν l l'') : VRL (bothM μ ν) l l' := by
  cases h with
  | nil => exact .nil
  | cons h t => cases h2 with | cons g s => exact .cons (VR.both h g) (VRL.both t s)
end
theorem ER.both {μ ν : Mu} {l : List (Value × Value)} {l' l'' : List MapEntry} (h : ER μ l l') (h2 : ER ν l l'') : ER (bothM μ ν) l l' := by
  induction h generalizing l'' with
  | nil => exact .nil
  | cons hk h1 h3 _ ih => cases h2 with | cons _ g1 g2 s => exact .cons hk (h1.both g1) (h3.both g2) (ih s)
/-- an object that two worlds show reads by what both know -/
theorem OR.both {μ ν : Mu} {w w2 : World} {b p s b2 p2 s2 : Nat} {o : LObj} (h : OR μ w b p s o) (h2 : OR ν w2 b2 p2 s2 o) : OR (bothM μ ν) w b p s o := by
  cases o with
  | cells vs =>
    obtain ⟨c, ty, lo, hi, h1, q2, h3, h4, h5⟩ := h
    obtain ⟨_, _, _, _, _, _, _, _, g5⟩ := h2
    exact ⟨c, ty, lo, hi, h1, q2, h3, h4, fun i v e => let ⟨v', a, b⟩ := h5 i v e; let ⟨_, _, g⟩ := g5 i v e; ⟨v', a, b.both g⟩⟩
  | ro vs =>
    obtain ⟨c, ty, fr, h1, h5⟩ := h
    obtain ⟨_, _, _, _, g5⟩ := h2
    exact ⟨c, ty, fr, h1, fun i v e => let ⟨v', a, b⟩ := h5 i v e; let ⟨_, _, g⟩ := g5 i v e; ⟨v', a, b.both g⟩⟩
  | map es =>
    obtain ⟨x, y, h1, h5⟩ := h
    obtain ⟨_, _, _, g5⟩ := h2
    exact ⟨x, y, h1, h5.both g5⟩
  | loop busy pend e ps as bd =>
    obtain ⟨l, h1, q2, h3, h4, h5, h6⟩ := h
    obtain ⟨_, _, _, _, _, _, g6⟩ := h2
    exact ⟨l, h1, q2, h3, h4, h5, ⟨h6.size, fun t v e => let ⟨v', a, b⟩ := h6.get t v e; let ⟨_, _, g⟩ := g6.get t v e; ⟨v', a, b.both g⟩⟩⟩
  | defs => exact h
  | dead => trivial
  | other => trivial

/-- an operation that changes what it changes; blocks that are made behind it may be there already -/
theorem inv_other (l : Loc G ops y) (inv : Inv B G ops y μ0 w0 a0 D μ a w) {i : Nat} {o : Oper} (ho : ops[i]? = some o) (hnD : ¬ D i) {μ1 : Mu} {v' : Value} {w1 : World} {h' : Hp}
    (hds : ∀ i2 t, i2 < ops.size → D i2 → Ds ops i2 t → Ds ops i t → i2 < i) (hag : ∀ k, AgK G ops y D i k) (hlast : ∀ i2 k, i2 < ops.size → D i2 → Wr G ops y i2 k → k < (y.H (i + 1)).n → i2 < i) (hWn : ∀ k, Wr G ops y i k → k < (y.H i).n)
    (g : Good B (cutM μ (y.H i).n) ⟨(y.H i).n, (y.H i).t, (y.H i).n⟩ w μ1 h' w1) (hh : y.H (i + 1) = ⟨h'.n, h'.t, cond (Nat.ble (y.H i).low h'.low) (y.H i).low h'.low⟩)
    (hN : ∀ k x, μ k = some x → (y.H i).n ≤ k → k < (y.H (i + 1)).n → False)
    (htc : ∀ k st, y.W i = true → touch G (y.E i) o.op = some (st, k) → ∃ x, μ k = some x) (hv : VR μ1 (y.V i) v') :
    Inv B G ops y μ0 w0 a0 (Dn D i) (nextM y i μ μ1) (a.put o.dst v') w1 := by
  have hi : i < ops.size := (Array.getElem?_eq_some_iff.1 ho).1
  have hn : (y.H (i + 1)).n = h'.n := by rw [hh]
  have hnn := l.n i hi
  have ht : ∀ k, (y.H (i + 1)).t.get k = h'.t.get k := fun k => by rw [hh]
  have hlow1 : (y.H ops.size).low ≤ h'.low := Nat.le_trans (l.lows (by omega : i + 1 ≤ ops.size) (Nat.le_refl _)) (by
    rw [hh]
    show cond (Nat.ble (y.H i).low h'.low) (y.H i).low h'.low ≤ h'.low
    cases e : Nat.ble (y.H i).low h'.low
    · exact Nat.le_refl _
    · exact Nat.le_of_ble_eq_true e)
  have hup : ∀ k x, μ k = some x → nextM y i μ μ1 k = some x := fun k x e => by
    unfold nextM; rw [if_neg (fun hc => hN k x e hc.1 hc.2)]; exact e
  have hdom : ∀ k, k < (y.H i).n → μ1 k = μ k := fun k hk => by rw [g.st.dom k hk]; simp [cutM, hk]
  -- where a block comes from
  have hsplit : ∀ k x, nextM y i μ μ1 k = some x → (k < (y.H (i + 1)).n ∧ μ1 k = some x) ∨ ((y.H (i + 1)).n ≤ k ∧ μ k = some x) := fun k x e => by
    unfold nextM at e
    by_cases h : (y.H i).n ≤ k ∧ k < (y.H (i + 1)).n
    · rw [if_pos h] at e; exact .inl ⟨h.2, e⟩
    · rw [if_neg h] at e
      rcases Nat.lt_or_ge k (y.H (i + 1)).n with h1 | h1
      · exact .inl ⟨h1, by rw [hdom k (by omega)]; exact e⟩
      · exact .inr ⟨h1, e⟩
  have hback : ∀ k x, μ1 k = some x → nextM y i μ μ1 k = some x ∧ k < (y.H (i + 1)).n := fun k x e => by
    have hk := g.hr.dom k x e
    refine ⟨?_, by omega⟩
    unfold nextM
    by_cases h : (y.H i).n ≤ k ∧ k < (y.H (i + 1)).n
    · rw [if_pos h]; exact e
    · rw [if_neg h, ← hdom k (by omega)]; exact e
  have hcut1 : Mu.le μ1 (cutM (nextM y i μ μ1) (y.H (i + 1)).n) := fun k x e => let ⟨h1, h2⟩ := hback k x e; cutM_some.2 ⟨h2, h1⟩
  -- what its own time shows is what the other times show
  have hcon : ∀ k x m, μ1 k = some x → m ≤ ops.size → k < (y.H m).n → AgK G ops y (Dn D i) m k → (y.H m).t.get k = h'.t.get k := by
    intro k x m e hm hkm h
    have hk1 : k < (y.H (i + 1)).n := (hback k x e).2
    rw [← ht]
    by_cases him : i < m
    · refine l.content (by omega) hm hk1 fun i2 q1 q2 hw2 => ?_
      rcases (h i2 (by omega) hw2).2 q2 with h3 | h3
      · have := hlast i2 k (by omega) h3 hw2 hk1; omega
      · omega
    · have hki : k < (y.H i).n := Nat.lt_of_lt_of_le hkm (l.mono (by omega) (by omega))
      have hnW : ¬ Wr G ops y i k := fun hw => him ((h i hi hw).1 (.inr rfl))
      rw [l.same i k hi hki hnW]
      exact (l.agree hm (by omega) hkm hki (h.back hnW) (hag k)).symm
  have hC : ∀ k m, (y.H (i + 1)).n ≤ k → AgK G ops y (Dn D i) m k → AgK G ops y D m k := fun k m hk h => h.back fun hw => by have := hWn k hw; omega
  refine ⟨slot_next l inv ho hds hup (hv.mono hcut1), (put_size a _ _).1.trans inv.size, (put_size a _ _).2.trans inv.defers, ?_, ?_, ?_, ?_, ?_, ?_, g.st.os.trans inv.os, g.st.tape.trans inv.tape, g.st.output.trans inv.output, Nat.le_trans inv.wsize g.st.size, ?_, ?_⟩
  · intro k b p s e
    rcases hsplit k _ e with ⟨h1, h2⟩ | ⟨h1, h2⟩
    · refine ⟨(g.hr.lt k b p s h2).2, ?_⟩
      by_cases hk : k < (y.H i).n
      · rw [hdom k hk] at h2
        exact ((inv.lt k b p s h2).2).imp id fun ⟨j, r1, r2, r3⟩ => ⟨j, r1, .inl r2, r3⟩
      · exact .inr ⟨i, hi, .inr rfl, by omega, h1⟩
    · obtain ⟨q1, q2⟩ := inv.lt k b p s h2
      exact ⟨Nat.lt_of_lt_of_le q1 g.st.size, q2.imp id fun ⟨j, r1, r2, r3⟩ => ⟨j, r1, .inl r2, r3⟩⟩
  · intro k hk
    have hki : k < (y.H i).n := Nat.lt_of_lt_of_le hk (l.mono (Nat.zero_le i) (by omega))
    rw [← inv.base k hk]
    unfold nextM
    rw [if_neg (by omega)]
  · intro k b p s m q hm e hkm h hq
    rcases hsplit k _ e with ⟨h1, h2⟩ | ⟨h1, h2⟩
    · have hq' := hq
      rw [hcon k _ m h2 hm hkm h] at hq'
      have hor := g.hr.obj k b p s q h2 hq'
      by_cases him : i < m
      · exact hor.mono (Mu.le_trans hcut1 (cutM_mono (l.mono him hm) fun _ _ _ h => h))
      · have hki : k < (y.H i).n := Nat.lt_of_lt_of_le hkm (l.mono (by omega) (by omega))
        have hnW : ¬ Wr G ops y i k := fun hw => him ((h i hi hw).1 (.inr rfl))
        have hold := inv.obj k b p s m q hm (by rw [← hdom k hki]; exact h2) hkm (h.back hnW) hq
        refine (hor.both hold).mono fun k2 x2 e2 => ?_
        obtain ⟨z1, z, z2⟩ := bothM_inv e2
        obtain ⟨z3, _⟩ := cutM_some.1 z2
        exact cutM_some.2 ⟨z3, (hback k2 x2 z1).1⟩
    · have hag2 := hC k m h1 h
      by_cases hl : q.live = true
      · have hlt := (inv.lt k b p s h2).1
        have hsame : w1.heap[b]? = w.heap[b]? := g.st.frame b hlt fun k2 p2 s2 q2 e1 e2 hl2 => by
          obtain ⟨z1, z2⟩ := cutM_some.1 e1
          have := inv.inj k2 k b p2 s2 p s i m q2 q (by omega) hm z2 h2 z1 hkm (hag k2) hag2 e2 hq hl2 hl
          omega
        exact ((inv.obj k b p s m q hm h2 hkm hag2 hq).mono (cutM_mono (Nat.le_refl _) fun k x _ h => hup k x h)).same hsame
      · exact dead_OR hl
  · have one : ∀ k k' b p s p' s' m m' q q', m ≤ ops.size → m' ≤ ops.size → k < (y.H m).n → k' < (y.H m').n → AgK G ops y (Dn D i) m k → AgK G ops y (Dn D i) m' k' → (y.H m).t.get k = some q → (y.H m').t.get k' = some q' → q.live = true → q'.live = true →
        μ1 k = some (b, p, s) → k < (y.H (i + 1)).n → (y.H (i + 1)).n ≤ k' → μ k' = some (b, p', s') → False := by
      intro k k' b p s p' s' m m' q q' hm hm' hkm hkm' ha ha' hq hq' hl hl' e hk1 hk2 e'
      have hag2 := hC k' m' hk2 ha'
      have hq1 := hq
      rw [hcon k _ m e hm hkm ha, ← ht] at hq1
      by_cases hki : k < (y.H i).n
      · obtain ⟨q0, r1, r2, r3⟩ := l.alive i k q hi hki hq1 hl
        have := inv.inj k k' b p s p' s' i m' q0 q' (by omega) hm' (by rw [← hdom k hki]; exact e) e' hki hkm' (hag k) hag2 r1 hq' r2 hl'
        omega
      · rcases g.st.fresh k b p s (by show (y.H i).n ≤ k; omega) e with h1 | ⟨k0, p0, s0, o0, h1, h2, h3, _, _⟩
        · have := (inv.lt k' b p' s' e').1; omega
        · obtain ⟨z1, z2⟩ := cutM_some.1 h1
          have := inv.inj k0 k' b p0 s0 p' s' i m' o0 q' (by omega) hm' z2 e' z1 hkm' (hag k0) hag2 h2 hq' h3 hl'
          omega
    intro k k' b p s p' s' m m' q q' hm hm' e e' hkm hkm' ha ha' hq hq' hl hl'
    rcases hsplit k _ e with ⟨h1, h2⟩ | ⟨h1, h2⟩
    · rcases hsplit k' _ e' with ⟨h1', h2'⟩ | ⟨h1', h2'⟩
      · rw [hcon k _ m h2 hm hkm ha] at hq
        rw [hcon k' _ m' h2' hm' hkm' ha'] at hq'
        exact g.hr.inj k k' b p s p' s' q q' h2 h2' hq hq' hl hl'
      · exact (one k k' b p s p' s' m m' q q' hm hm' hkm hkm' ha ha' hq hq' hl hl' h2 h1 h1' h2').elim
    · rcases hsplit k' _ e' with ⟨h1', h2'⟩ | ⟨h1', h2'⟩
      · exact (one k' k b p' s' p s m' m q' q hm' hm hkm' hkm ha' ha hq' hq hl' hl h2' h1' h1 h2).elim
      · exact inv.inj k k' b p s p' s' m m' q q' hm hm' h2 h2' hkm hkm' (hC k m h1 ha) (hC k' m' h1' ha') hq hq' hl hl'
  · intro k b p s m q hm e hkm h hq hl
    rcases hsplit k _ e with ⟨h1, h2⟩ | ⟨h1, h2⟩
    · rw [hcon k _ m h2 hm hkm h] at hq
      exact g.hr.own k b p s q h2 hq hl
    · exact inv.own k b p s m q hm h2 hkm (hC k m h1 h) hq hl
  · intro j oj k' st hj hd hwj htt
    rcases hd with hd | rfl
    · obtain ⟨x, hx⟩ := inv.touched j oj k' st hj hd hwj htt
      exact ⟨x, hup _ x hx⟩
    · rw [ho] at hj; simp only [Option.some.injEq] at hj; subst hj
      obtain ⟨x, hx⟩ := htc k' st hwj htt
      exact ⟨x, hup _ x hx⟩
  · intro b hb hno
    rw [← inv.frame b hb hno]
    refine g.st.frame b (by have := inv.wsize; omega) fun k p s q e1 e2 hl => ?_
    cases hro : q.isRo with
    | true => exact .inl rfl
    | false =>
      right
      rcases Nat.lt_or_ge k h'.low with h3 | h3
      · exact h3
      · obtain ⟨k1, k2⟩ := cutM_some.1 e1
        exact (not_kept l inv (by omega) k2 k1 e2 hl hro (by omega) hb hno).elim
  · intro k b p s hk e
    rcases hsplit k _ e with ⟨h1, h2⟩ | ⟨h1, h2⟩
    · by_cases hki : k < (y.H i).n
      · rw [hdom k hki] at h2
        exact inv.fresh k b p s hk h2
      · rcases g.st.fresh k b p s (by show (y.H i).n ≤ k; omega) h2 with h1 | ⟨k0, p0, s0, o0, h1, h2, h3, h4, h5⟩
        · exact .inl (by have := inv.wsize; omega)
        · obtain ⟨r1, r2⟩ := cutM_some.1 h1
          by_cases hk0 : k0 < (y.H 0).n
          · obtain ⟨o1, q1, q2, q3⟩ := l.alives (Nat.zero_le i) (by omega) hk0 h2 h3
            rw [inv.base k0 hk0] at r2
            exact .inr ⟨k0, p0, s0, o1, r2, q1, q2, by rw [q3]; exact h4, by omega⟩
          · exact inv.fresh k0 b p0 s0 (by omega) r2
    · exact inv.fresh k b p s hk h2
end
end Cx
end Go.Proofs.YtfigbldiffjmbaaGreatDoor
