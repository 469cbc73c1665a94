/- Closed runs: a region that draws its order: stores, and what changes much. -/
import Derived.Test.YtkljlbilhcdjhaaGreatDoorCxhm
namespace Go.Proofs.YtkljlbilhcdjhaaGreatDoor
set_option linter.unusedVariables false
namespace Cx
open Go

section
variable {B : Nat} {G : GS} {ops : Array Oper} {y : Way} {μ0 : Mu} {w0 : World} {a0 : Act} {D : Nat → Prop} {μ : Mu} {a : Act} {w : World}

theorem Loc.lows (l : Loc G ops y) : ∀ {i j : Nat}, i ≤ j → j ≤ ops.size → (y.H j).low ≤ (y.H i).low := by
  intro i j hij
  induction j with
  | zero => intro _; have : i = 0 := by omega
            subst this; exact Nat.le_refl _
  | succ j ih =>
    intro hj
    by_cases h : i = j + 1
    · subst h; exact Nat.le_refl _
    · exact Nat.le_trans (l.low j (by omega)) (ih (by omega) (by omega))
theorem Loc.alives (l : Loc G ops y) {k : Nat} : ∀ {m m' : Nat} {o : LObj}, m ≤ m' → m' ≤ ops.size → k < (y.H m).n → (y.H m').t.get k = some o → o.live = true → ∃ o0, (y.H m).t.get k = some o0 ∧ o0.live = true ∧ o0.isRo = o.isRo := by
  intro m m'
  induction m' with
  | zero => intro o h1 _ _ hq hl; have : m = 0 := by omega
            subst this; exact ⟨o, hq, hl, rfl⟩
  | succ j ih =>
    intro o h1 hj hk hq hl
    by_cases h : m = j + 1
    · subst h; exact ⟨o, hq, hl, rfl⟩
    · have hkj : k < (y.H j).n := Nat.lt_of_lt_of_le hk (l.mono (by omega) (by omega))
      obtain ⟨o1, q1, q2, q3⟩ := l.alive j k o (by omega) hkj hq hl
      obtain ⟨o2, r1, r2, r3⟩ := ih (by omega) (by omega) hk q1 q2
      exact ⟨o2, r1, r2, r3.trans q3⟩
theorem dead_OR {μ : Mu} {w : World} {b p s : Nat} {o : LObj} (h : o.live ≠ true) : OR μ w b p s o := by
  cases o <;> first | trivial | exact absurd rfl h
/-- a block that is changed has an owner that counts -/
theorem not_kept (l : Loc G ops y) (inv : Inv B G ops y μ0 w0 a0 D μ a w) {i k b p s : Nat} {o : LObj} (hi : i ≤ ops.size) (hk : μ k = some (b, p, s)) (hki : k < (y.H i).n) (ho : (y.H i).t.get k = some o) (hl : o.live = true) (hr : o.isRo = false) (hlow : (y.H ops.size).low ≤ k) (hb : b < w0.heap.size)
    (hno : ∀ k p s o, μ0 k = some (b, p, s) → (y.H 0).t.get k = some o → o.live = true → o.isRo = true ∨ k < (y.H ops.size).low) : False := by
  by_cases hk0 : k < (y.H 0).n
  · obtain ⟨o0, h1, h2, h3⟩ := l.alives (Nat.zero_le i) hi hk0 ho hl
    rw [inv.base k hk0] at hk
    rcases hno k p s o0 hk h1 h2 with h4 | h4
    · rw [h3, hr] at h4; cases h4
    · omega
  · rcases inv.fresh k b p s (by omega) hk with h1 | ⟨k0, p0, s0, o0, h1, h2, h3, h4, h5⟩
    · omega
    · rcases hno k0 p0 s0 o0 h1 h2 h3 with h6 | h6
      · rw [h6] at h4; cases h4
      · omega

theorem inv_store (l : Loc G ops y) (inv : Inv B G ops y μ0 w0 a0 D μ a w) {i : Nat} {o : Oper} (ho : ops[i]? = some o) (hnD : ¬ D i) {w1 : World} {k b p s : Nat} {us q : List Value}
    (hds : ∀ i2 t, i2 < ops.size → D i2 → Ds ops i2 t → Ds ops i t → i2 < i) (hW : ∀ k', Wr G ops y i k' ↔ k' = k) (hag : AgK G ops y D i k) (hk : μ k = some (b, p, s)) (hki : k < (y.H i).n)
    (hu : (y.H i).t.get k = some (.cells us)) (hh : y.H (i + 1) = (y.H i).set k (.cells q)) (hor : OR (cutM μ (y.H i).n) w1 b p s (.cells q))
    (hother : ∀ b', b' < w.heap.size → b' ≠ b → w1.heap[b']? = w.heap[b']?) (hos : w1.os = w.os) (htp : w1.tape = w.tape) (hout : w1.output = w.output) (hsz : w.heap.size ≤ w1.heap.size) (hv : y.V i = undef)
    (htc : ∀ k st, y.W i = true → touch G (y.E i) o.op = some (st, k) → ∃ x, μ k = some x) :
    Inv B G ops y μ0 w0 a0 (Dn D i) μ (a.put o.dst undef) w1 := by
  have hi : i < ops.size := (Array.getElem?_eq_some_iff.1 ho).1
  have hn : (y.H (i + 1)).n = (y.H i).n := by rw [hh]; rfl
  have hlow1 : (y.H ops.size).low ≤ k := Nat.le_trans (l.lows (by omega : i + 1 ≤ ops.size) (Nat.le_refl _)) (by rw [hh]; exact (set_low _ _ _).2)
  have hck : ∀ m, m ≤ ops.size → AgK G ops y (Dn D i) m k → i + 1 ≤ m ∧ (y.H m).t.get k = some (.cells q) := by
    intro m hm h
    have him : i < m := (h i hi ((hW k).2 rfl)).1 (.inr rfl)
    refine ⟨him, ?_⟩
    rw [l.content (by omega : i + 1 ≤ m) hm (by rw [hn]; exact hki) fun i2 q1 q2 hw2 => ?_, hh, set_get]
    · simp
    · rcases (h i2 (by omega) hw2).2 q2 with h3 | h3
      · have := (hag i2 (by omega) hw2).1 h3; omega
      · omega
  have hback : ∀ k' m o', m ≤ ops.size → k' < (y.H m).n → AgK G ops y (Dn D i) m k' → (y.H m).t.get k' = some o' → o'.live = true → ∃ m2 o2, m2 ≤ ops.size ∧ k' < (y.H m2).n ∧ AgK G ops y D m2 k' ∧ (y.H m2).t.get k' = some o2 ∧ o2.live = true ∧ o2.isRo = o'.isRo := by
    intro k' m o' hm hkm h hq hl
    by_cases hkk : k' = k
    · subst hkk
      have := (hck m hm h).2
      rw [hq] at this; simp only [Option.some.injEq] at this; subst this
      exact ⟨i, _, by omega, hki, hag, hu, rfl, rfl⟩
    · exact ⟨m, o', hm, hkm, h.back fun hw => hkk ((hW k').1 hw), hq, hl, rfl⟩
  refine ⟨slot_next l inv ho hds (fun _ _ h => h) (by rw [hv]; exact undef_refl _), (put_size a _ _).1.trans inv.size, (put_size a _ _).2.trans inv.defers, ?_, inv.base, ?_, ?_, ?_, ?_, hos.trans inv.os, htp.trans inv.tape, hout.trans inv.output, Nat.le_trans inv.wsize hsz, ?_, inv.fresh⟩
  · intro k' b' p' s' e
    obtain ⟨q1, q2⟩ := inv.lt k' b' p' s' e
    exact ⟨by omega, q2.imp id fun ⟨j, r1, r2, r3⟩ => ⟨j, r1, .inl r2, r3⟩⟩
  · intro k' b' p' s' m o' hm e hkm h hq
    by_cases hkk : k' = k
    · subst hkk
      obtain ⟨him, hq1⟩ := hck m hm h
      rw [hq] at hq1; simp only [Option.some.injEq] at hq1; subst hq1
      rw [hk] at e; simp only [Option.some.injEq, Prod.mk.injEq] at e
      obtain ⟨rfl, rfl, rfl⟩ := e
      exact hor.mono (cutM_mono (l.mono (by omega) hm) fun _ _ _ h => h)
    · have hag' := h.back fun hw => hkk ((hW k').1 hw)
      by_cases hl : o'.live = true
      · have hne : b' ≠ b := fun e2 => hkk (inv.inj k' k b p' s' p s m i o' _ hm (by omega) (e2 ▸ e) hk hkm hki hag' hag hq hu hl rfl)
        exact (inv.obj k' b' p' s' m o' hm e hkm hag' hq).same (hother b' (inv.lt k' b' p' s' e).1 hne)
      · exact dead_OR hl
  · intro k1 k2 b' p1 s1 p2 s2 m m' o1 o2 hm hm' e1 e2 hk1 hk2 h1 h2 hq1 hq2 hl1 hl2
    obtain ⟨n1, r1, a1, a2, a3, a4, a5, _⟩ := hback k1 m o1 hm hk1 h1 hq1 hl1
    obtain ⟨n2, r2, c1, c2, c3, c4, c5, _⟩ := hback k2 m' o2 hm' hk2 h2 hq2 hl2
    exact inv.inj k1 k2 b' p1 s1 p2 s2 n1 n2 r1 r2 a1 c1 e1 e2 a2 c2 a3 c3 a4 c4 a5 c5
  · intro k' b' p' s' m o' hm e hkm h hq hl
    obtain ⟨n1, r1, a1, a2, a3, a4, a5, a6⟩ := hback k' m o' hm hkm h hq hl
    rw [← a6]
    exact inv.own k' b' p' s' n1 r1 a1 e a2 a3 a4 a5
  · intro j oj k' st hj hd hwj ht
    rcases hd with hd | rfl
    · exact inv.touched j oj k' st hj hd hwj ht
    · rw [ho] at hj; simp only [Option.some.injEq] at hj; subst hj
      exact htc k' st hwj ht
  · intro b' hb' hno
    by_cases hbb : b' = b
    · subst hbb
      exact (not_kept l inv (by omega) hk hki hu rfl rfl hlow1 hb' hno).elim
    · rw [hother b' (by have := inv.wsize; omega) hbb]; exact inv.frame b' hb' hno

/-- what both know -/
def bothM (μ ν : Mu) : Mu := fun k => match ν k with | some _ => μ k | none => none
theorem bothM_some {μ ν : Mu} {k : Nat} {x : Nat × Nat × Nat} (h1 : μ k = some x) {z : Nat × Nat × Nat} (h2 : ν k = some z) : bothM μ ν k = some x := by
  unfold bothM; rw [h2]; exact h1
theorem bothM_inv {μ ν : Mu} {k : Nat} {x : Nat × Nat × Nat} (h : bothM μ ν k = some x) : μ k = some x ∧ ∃ z, ν k = some z := by
  unfold bothM at h
  split at h
  · rename_i z hz; exact ⟨h, z, hz⟩
  · cases h
mutual
theorem VR.both {μ ν : Mu} {v v' v'' : Value} (h : VR μ v v') (h2 : VR ν v v'') : VR (bothM μ ν) v v' := by
  cases h with
  | bool b => exact .bool b
  | int k n => exact .int k n
  | float k n => exact .float k n
  | string s => exact .string s
  | nilPtr => exact .nilPtr
  | ptr h => cases h2 with | ptr g => exact .ptr (bothM_some h g)
  | nilSlice c => exact .nilSlice c
  | slice h hn hc he => cases h2 with | slice g _ _ _ => exact .slice (bothM_some h g) hn hc he
  | nilMap => exact .nilMap
  | map h => cases h2 with | map g => exact .map (bothM_some h g)
  | nilFunc => exact .nilFunc
  | nilIface => exact .nilIface
  | iface t h => cases h2 with | iface _ g => exact .iface t (VR.both h g)
  | func f h1 h3 => cases h2 with | func _ g1 g2 => exact .func f (VRL.both h1 g1) (VRL.both h3 g2)
  | yield h => cases h2 with | yield g => exact .yield (bothM_some h g)
  | agg h => cases h2 with | agg g => exact .agg (VRL.both h g)
  | tuple h => cases h2 with | tuple g => exact .tuple (VRL.both h g)
theorem VRL.both {μ ν : Mu} {l l' l'' : List Value} (h : VRL μ l l') (h2 : VRL ν l l'') : VRL (bothM μ ν) l l' := by
  cases h with
  | nil => exact .nil
  | cons h t => cases h2 with | cons g s => exact .cons (VR.both h g) (VRL.both t s)
end
theorem ER.both {μ ν : Mu} {l : List (Value × Value)} {l' l'' : List MapEntry} (h : ER μ l l') (h2 : ER ν l l'') : ER (bothM μ ν) l l' := by
  induction h generalizing l'' with
  | nil => exact .nil
  | cons hk h1 h3 _ ih => cases h2 with | cons _ g1 g2 s => exact .cons hk (h1.both g1) (h3.both g2) (ih s)
theorem ME.both {μ ν : Mu} {l : List (Value × Value)} {l' l'' : List MapEntry} {c c2 : Nat} (h : ME μ l l' c) (h2 : ME ν l l'' c2) : ME (bothM μ ν) l l' c :=
  ⟨h.nd, h.kd, let ⟨q, g1, g2⟩ := h.rel; let ⟨_, _, k2⟩ := h2.rel; ⟨q, g1, g2.both k2⟩, h.old, h.bn⟩
/-- an object that two worlds show reads by what both know -/
theorem OR.both {μ ν : Mu} {w w2 : World} {b p s b2 p2 s2 : Nat} {o : LObj} (h : OR μ w b p s o) (h2 : OR ν w2 b2 p2 s2 o) : OR (bothM μ ν) w b p s o := by
  cases o with
  | cells vs =>
    obtain ⟨c, ty, lo, hi, h1, q2, h3, h4, h5⟩ := h
    obtain ⟨_, _, _, _, _, _, _, _, g5⟩ := h2
    exact ⟨c, ty, lo, hi, h1, q2, h3, h4, fun i v e => let ⟨v', a, b⟩ := h5 i v e; let ⟨_, _, g⟩ := g5 i v e; ⟨v', a, b.both g⟩⟩
  | ro vs =>
    obtain ⟨c, ty, fr, h1, h5⟩ := h
    obtain ⟨_, _, _, _, g5⟩ := h2
    exact ⟨c, ty, fr, h1, fun i v e => let ⟨v', a, b⟩ := h5 i v e; let ⟨_, _, g⟩ := g5 i v e; ⟨v', a, b.both g⟩⟩
  | map es =>
    obtain ⟨x, y, h1, h5⟩ := h
    obtain ⟨_, _, _, g5⟩ := h2
    exact ⟨x, y, h1, h5.both g5⟩
  | kmap r =>
    obtain ⟨h1, bm, ty, fr, ⟨p', s', h3⟩, h4⟩ := h
    obtain ⟨_, _, _, _, ⟨_, _, g3⟩, _⟩ := h2
    exact ⟨h1, bm, ty, fr, ⟨p', s', bothM_some h3 g3⟩, h4⟩
  | loop busy pend e ps as bd =>
    obtain ⟨l, h1, q2, h3, h4, h5, h6⟩ := h
    obtain ⟨_, _, _, _, _, _, g6⟩ := h2
    exact ⟨l, h1, q2, h3, h4, h5, ⟨h6.size, fun t v e => let ⟨v', a, b⟩ := h6.get t v e; let ⟨_, _, g⟩ := g6.get t v e; ⟨v', a, b.both g⟩⟩⟩
  | defs => exact h
  | dead => trivial
  | other => trivial

/-- an operation that changes what it changes; blocks that are made behind it may be there already -/
theorem inv_other (l : Loc G ops y) (inv : Inv B G ops y μ0 w0 a0 D μ a w) {i : Nat} {o : Oper} (ho : ops[i]? = some o) (hnD : ¬ D i) {μ1 : Mu} {v' : Value} {w1 : World} {h' : Hp}
    (hds : ∀ i2 t, i2 < ops.size → D i2 → Ds ops i2 t → Ds ops i t → i2 < i) (hag : ∀ k, AgK G ops y D i k) (hlast : ∀ i2 k, i2 < ops.size → D i2 → Wr G ops y i2 k → k < (y.H (i + 1)).n → i2 < i) (hWn : ∀ k, Wr G ops y i k → k < (y.H i).n)
    (g : Good B (cutM μ (y.H i).n) ⟨(y.H i).n, (y.H i).t, (y.H i).n⟩ w μ1 h' w1) (hh : y.H (i + 1) = ⟨h'.n, h'.t, cond (Nat.ble (y.H i).low h'.low) (y.H i).low h'.low⟩)
    (hN : ∀ k x, μ k = some x → (y.H i).n ≤ k → k < (y.H (i + 1)).n → False)
    (htc : ∀ k st, y.W i = true → touch G (y.E i) o.op = some (st, k) → ∃ x, μ k = some x) (hv : VR μ1 (y.V i) v') :
    Inv B G ops y μ0 w0 a0 (Dn D i) (nextM y i μ μ1) (a.put o.dst v') w1 := by
  have hi : i < ops.size := (Array.getElem?_eq_some_iff.1 ho).1
  have hn : (y.H (i + 1)).n = h'.n := by rw [hh]
  have hnn := l.n i hi
  have ht : ∀ k, (y.H (i + 1)).t.get k = h'.t.get k := fun k => by rw [hh]
  have hlow1 : (y.H ops.size).low ≤ h'.low := Nat.le_trans (l.lows (by omega : i + 1 ≤ ops.size) (Nat.le_refl _)) (by
    rw [hh]
    show cond (Nat.ble (y.H i).low h'.low) (y.H i).low h'.low ≤ h'.low
    cases e : Nat.ble (y.H i).low h'.low
    · exact Nat.le_refl _
    · exact Nat.le_of_ble_eq_true e)
  have hup : ∀ k x, μ k = some x → nextM y i μ μ1 k = some x := fun k x e => by
    unfold nextM; rw [if_neg (fun hc => hN k x e hc.1 hc.2)]; exact e
  have hdom : ∀ k, k < (y.H i).n → μ1 k = μ k := fun k hk => by rw [g.st.dom k hk]; simp [cutM, hk]
  -- where a block comes from
  have hsplit : ∀ k x, nextM y i μ μ1 k = some x → (k < (y.H (i + 1)).n ∧ μ1 k = some x) ∨ ((y.H (i + 1)).n ≤ k ∧ μ k = some x) := fun k x e => by
    unfold nextM at e
    by_cases h : (y.H i).n ≤ k ∧ k < (y.H (i + 1)).n
    · rw [if_pos h] at e; exact .inl ⟨h.2, e⟩
    · rw [if_neg h] at e
      rcases Nat.lt_or_ge k (y.H (i + 1)).n with h1 | h1
      · exact .inl ⟨h1, by rw [hdom k (by omega)]; exact e⟩
      · exact .inr ⟨h1, e⟩
  have hback : ∀ k x, μ1 k = some x → nextM y i μ μ1 k = some x ∧ k < (y.H (i + 1)).n := fun k x e => by
    have hk := g.hr.dom k x e
    refine ⟨?_, by omega⟩
    unfold nextM
    by_cases h : (y.H i).n ≤ k ∧ k < (y.H (i + 1)).n
    · rw [if_pos h]; exact e
    · rw [if_neg h, ← hdom k (by omega)]; exact e
  have hcut1 : Mu.le μ1 (cutM (nextM y i μ μ1) (y.H (i + 1)).n) := fun k x e => let ⟨h1, h2⟩ := hback k x e; cutM_some.2 ⟨h2, h1⟩
  -- what its own time shows is what the other times show
  have hcon : ∀ k x m, μ1 k = some x → m ≤ ops.size → k < (y.H m).n → AgK G ops y (Dn D i) m k → (y.H m).t.get k = h'.t.get k := by
    intro k x m e hm hkm h
    have hk1 : k < (y.H (i + 1)).n := (hback k x e).2
    rw [← ht]
    by_cases him : i < m
    · refine l.content (by omega) hm hk1 fun i2 q1 q2 hw2 => ?_
      rcases (h i2 (by omega) hw2).2 q2 with h3 | h3
      · have := hlast i2 k (by omega) h3 hw2 hk1; omega
      · omega
    · have hki : k < (y.H i).n := Nat.lt_of_lt_of_le hkm (l.mono (by omega) (by omega))
      have hnW : ¬ Wr G ops y i k := fun hw => him ((h i hi hw).1 (.inr rfl))
      rw [l.same i k hi hki hnW]
      exact (l.agree hm (by omega) hkm hki (h.back hnW) (hag k)).symm
  have hC : ∀ k m, (y.H (i + 1)).n ≤ k → AgK G ops y (Dn D i) m k → AgK G ops y D m k := fun k m hk h => h.back fun hw => by have := hWn k hw; omega
  refine ⟨slot_next l inv ho hds hup (hv.mono hcut1), (put_size a _ _).1.trans inv.size, (put_size a _ _).2.trans inv.defers, ?_, ?_, ?_, ?_, ?_, ?_, g.st.os.trans inv.os, g.st.tape.trans inv.tape, g.st.output.trans inv.output, Nat.le_trans inv.wsize g.st.size, ?_, ?_⟩
  · intro k b p s e
    rcases hsplit k _ e with ⟨h1, h2⟩ | ⟨h1, h2⟩
    · refine ⟨(g.hr.lt k b p s h2).2, ?_⟩
      by_cases hk : k < (y.H i).n
      · rw [hdom k hk] at h2
        exact ((inv.lt k b p s h2).2).imp id fun ⟨j, r1, r2, r3⟩ => ⟨j, r1, .inl r2, r3⟩
      · exact .inr ⟨i, hi, .inr rfl, by omega, h1⟩
    · obtain ⟨q1, q2⟩ := inv.lt k b p s h2
      exact ⟨Nat.lt_of_lt_of_le q1 g.st.size, q2.imp id fun ⟨j, r1, r2, r3⟩ => ⟨j, r1, .inl r2, r3⟩⟩
  · intro k hk
    have hki : k < (y.H i).n := Nat.lt_of_lt_of_le hk (l.mono (Nat.zero_le i) (by omega))
    rw [← inv.base k hk]
    unfold nextM
    rw [if_neg (by omega)]
  · intro k b p s m q hm e hkm h hq
    rcases hsplit k _ e with ⟨h1, h2⟩ | ⟨h1, h2⟩
    · have hq' := hq
      rw [hcon k _ m h2 hm hkm h] at hq'
      have hor := g.hr.obj k b p s q h2 hq'
      by_cases him : i < m
      · exact hor.mono (Mu.le_trans hcut1 (cutM_mono (l.mono him hm) fun _ _ _ h => h))
      · have hki : k < (y.H i).n := Nat.lt_of_lt_of_le hkm (l.mono (by omega) (by omega))
        have hnW : ¬ Wr G ops y i k := fun hw => him ((h i hi hw).1 (.inr rfl))
        have hold := inv.obj k b p s m q hm (by rw [← hdom k hki]; exact h2) hkm (h.back hnW) hq
        refine (hor.both hold).mono fun k2 x2 e2 => ?_
        obtain ⟨z1, z, z2⟩ := bothM_inv e2
        obtain ⟨z3, _⟩ := cutM_some.1 z2
        exact cutM_some.2 ⟨z3, (hback k2 x2 z1).1⟩
    · have hag2 := hC k m h1 h
      by_cases hl : q.live = true
      · have hlt := (inv.lt k b p s h2).1
        have hsame : w1.heap[b]? = w.heap[b]? := g.st.frame b hlt fun k2 p2 s2 q2 e1 e2 hl2 => by
          obtain ⟨z1, z2⟩ := cutM_some.1 e1
          have := inv.inj k2 k b p2 s2 p s i m q2 q (by omega) hm z2 h2 z1 hkm (hag k2) hag2 e2 hq hl2 hl
          omega
        exact ((inv.obj k b p s m q hm h2 hkm hag2 hq).mono (cutM_mono (Nat.le_refl _) fun k x _ h => hup k x h)).same hsame
      · exact dead_OR hl
  · have one : ∀ k k' b p s p' s' m m' q q', m ≤ ops.size → m' ≤ ops.size → k < (y.H m).n → k' < (y.H m').n → AgK G ops y (Dn D i) m k → AgK G ops y (Dn D i) m' k' → (y.H m).t.get k = some q → (y.H m').t.get k' = some q' → q.live = true → q'.live = true →
        μ1 k = some (b, p, s) → k < (y.H (i + 1)).n → (y.H (i + 1)).n ≤ k' → μ k' = some (b, p', s') → False := by
      intro k k' b p s p' s' m m' q q' hm hm' hkm hkm' ha ha' hq hq' hl hl' e hk1 hk2 e'
      have hag2 := hC k' m' hk2 ha'
      have hq1 := hq
      rw [hcon k _ m e hm hkm ha, ← ht] at hq1
      by_cases hki : k < (y.H i).n
      · obtain ⟨q0, r1, r2, r3⟩ := l.alive i k q hi hki hq1 hl
        have := inv.inj k k' b p s p' s' i m' q0 q' (by omega) hm' (by rw [← hdom k hki]; exact e) e' hki hkm' (hag k) hag2 r1 hq' r2 hl'
        omega
      · rcases g.st.fresh k b p s (by show (y.H i).n ≤ k; omega) e with h1 | ⟨k0, p0, s0, o0, h1, h2, h3, _, _⟩
        · have := (inv.lt k' b p' s' e').1; omega
        · obtain ⟨z1, z2⟩ := cutM_some.1 h1
          have := inv.inj k0 k' b p0 s0 p' s' i m' o0 q' (by omega) hm' z2 e' z1 hkm' (hag k0) hag2 h2 hq' h3 hl'
          omega
    intro k k' b p s p' s' m m' q q' hm hm' e e' hkm hkm' ha ha' hq hq' hl hl'
    rcases hsplit k _ e with ⟨h1, h2⟩ | ⟨h1, h2⟩
    · rcases hsplit k' _ e' with ⟨h1', h2'⟩ | ⟨h1', h2'⟩
      · rw [hcon k _ m h2 hm hkm ha] at hq
        rw [hcon k' _ m' h2' hm' hkm' ha'] at hq'
        exact g.hr.inj k k' b p s p' s' q q' h2 h2' hq hq' hl hl'
      · exact (one k k' b p s p' s' m m' q q' hm hm' hkm hkm' ha ha' hq hq' hl hl' h2 h1 h1' h2').elim
    · rcases hsplit k' _ e' with ⟨h1', h2'⟩ | ⟨h1', h2'⟩
      · exact (one k' k b p' s' p s m' m q' q hm' hm hkm' hkm ha' ha hq' hq hl' hl h2' h1' h1 h2).elim
      · exact inv.inj k k' b p s p' s' m m' q q' hm hm' h2 h2' hkm hkm' (hC k m h1 ha) (hC k' m' h1' ha') hq hq' hl hl'
  · intro k b p s m q hm e hkm h hq hl
    rcases hsplit k _ e with ⟨h1, h2⟩ | ⟨h1, h2⟩
    · rw [hcon k _ m h2 hm hkm h] at hq
      exact g.hr.own k b p s q h2 hq hl
    · exact inv.own k b p s m q hm h2 hkm (hC k m h1 h) hq hl
  · intro j oj k' st hj hd hwj htt
    rcases hd with hd | rfl
    · obtain ⟨x, hx⟩ := inv.touched j oj k' st hj hd hwj htt
      exact ⟨x, hup _ x hx⟩
    · rw [ho] at hj; simp only [Option.some.injEq] at hj; subst hj
      obtain ⟨x, hx⟩ := htc k' st hwj htt
      exact ⟨x, hup _ x hx⟩
  · intro b hb hno
    rw [← inv.frame b hb hno]
    refine g.st.frame b (by have := inv.wsize; omega) fun k p s q e1 e2 hl => ?_
    cases hro : q.isRo with
    | true => exact .inl rfl
    | false =>
      right
      rcases Nat.lt_or_ge k h'.low with h3 | h3
      · exact h3
      · obtain ⟨k1, k2⟩ := cutM_some.1 e1
        exact (not_kept l inv (by omega) k2 k1 e2 hl hro (by omega) hb hno).elim
  · intro k b p s hk e
    rcases hsplit k _ e with ⟨h1, h2⟩ | ⟨h1, h2⟩
    · by_cases hki : k < (y.H i).n
      · rw [hdom k hki] at h2
        exact inv.fresh k b p s hk h2
      · rcases g.st.fresh k b p s (by show (y.H i).n ≤ k; omega) h2 with h1 | ⟨k0, p0, s0, o0, h1, h2, h3, h4, h5⟩
        · exact .inl (by have := inv.wsize; omega)
        · obtain ⟨r1, r2⟩ := cutM_some.1 h1
          by_cases hk0 : k0 < (y.H 0).n
          · obtain ⟨o1, q1, q2, q3⟩ := l.alives (Nat.zero_le i) (by omega) hk0 h2 h3
            rw [inv.base k0 hk0] at r2
            exact .inr ⟨k0, p0, s0, o1, r2, q1, q2, by rw [q3]; exact h4, by omega⟩
          · exact inv.fresh k0 b p0 s0 (by omega) r2
    · exact inv.fresh k b p s hk h2
end
end Cx
end Go.Proofs.YtkljlbilhcdjhaaGreatDoor
namespace Go.Proofs.YtkljlbilhcdjhaaGreatDoor
namespace Cx
open Go

section
variable {P : Program} {G : GS} {B : Nat} {call : FuncId → List Value → Hp → CRes} {round : Nat → List Value → Hp → CRes} {ops : Array Oper} {y : Way} {μ0 : Mu} {w0 : World} {a0 : Act} {D : Nat → Prop} {μ : Mu} {a : Act} {w : World}

theorem acc_mem (hst : ∀ i o, ops[i]? = some o → StepT P G call round ops y i o) {j : Nat} {ae : AE} (hj : y.A (j + 1) = (j, ae) :: y.A j) : ∀ i, j < i → i ≤ ops.size → (j, ae) ∈ y.A i := by
  intro i
  induction i with
  | zero => intro h; omega
  | succ i ih =>
    intro hji hi
    have ho : ops[i]? = some ops[i] := Array.getElem?_eq_getElem (by omega)
    have s := hst i _ ho
    by_cases h : j = i
    · subst h; rw [hj]; simp
    · have hm := ih (by omega) (by omega)
      cases hwi : y.W i with
      | false => rw [(s.no hwi).2.2]; exact hm
      | true =>
        rw [(s.yes hwi).2]
        unfold accPut
        split
        · simp [hm]
        · simp [hm]
        · cases slotOp ops[i].op with
          | true => exact hm
          | false => cases isNew ops[i].op <;> simp [hm]
theorem accOk_at {i : Nat} {st : Bool} {k : Nat} {acc : List (Nat × AE)} (h : accOk ops i st k acc = true) {j : Nat} {ae : AE} (hm : (j, ae) ∈ acc) : aeOk st k ae = true ∨ ahead ops j i = true := by
  have := List.all_eq_true.1 h _ hm
  simpa using this
theorem accB_at {i : Nat} {h0 h1 : Hp} {acc : List (Nat × AE)} (h : accB ops i h0 h1 acc = true) {j : Nat} {ae : AE} (hm : (j, ae) ∈ acc) : aeB h0 h1 ae = true ∨ ahead ops j i = true := by
  have := List.all_eq_true.1 h _ hm
  simpa using this
theorem barrier_spec {i : Nat} (h : barrier ops i = true) {j : Nat} {oj : Oper} (hj : ops[j]? = some oj) (hne : j ≠ i) (hs : slotOp oj.op = false) (hl : isLoad oj.op = false) (hn : isNew oj.op = false) : ahead ops i j = true ∨ ahead ops j i = true := by
  have h1 := List.all_eq_true.1 h j (List.mem_range.2 (Array.getElem?_eq_some_iff.1 hj).1)
  simp only [hj, hs, hl, hn, Bool.or_false, Bool.or_eq_true, beq_iff_eq] at h1
  rcases h1 with (h2 | h2) | h2
  · exact absurd h2 hne
  · exact .inl h2
  · exact .inr h2
theorem barrierS_spec {i : Nat} (h : barrierS ops i = true) {j : Nat} {oj : Oper} (hj : ops[j]? = some oj) (hne : j ≠ i) (hs : slotOp oj.op = false) (hl : loadStore oj.op = false) : ahead ops i j = true ∨ ahead ops j i = true := by
  have h1 := List.all_eq_true.1 h j (List.mem_range.2 (Array.getElem?_eq_some_iff.1 hj).1)
  simp only [hj, hs, hl, Bool.or_false, Bool.or_eq_true, beq_iff_eq] at h1
  rcases h1 with (h2 | h2) | h2
  · exact absurd h2 hne
  · exact .inl h2
  · exact .inr h2
theorem ls_slot {op : Op} (h : loadStore op = true) : slotOp op = false := by
  cases op <;> first | rfl | cases h
theorem ls_load {op : Op} (h : loadStore op = false) : isLoad op = false := by
  cases op <;> first | rfl | cases h
theorem ldAt_congr {h h2 : Hp} {t : TypeId} {k off : Nat} (he : h2.t.get k = h.t.get k) : ldAt P h2 t k off = ldAt P h t k off := by
  unfold ldAt Hp.rd
  rw [he]

/-- a memory of one block -/
noncomputable def solo (n k : Nat) (o : LObj) : Hp := ⟨n, T.put o .nil k, n⟩
theorem solo_get (n k : Nat) (o : LObj) (j : Nat) : (solo n k o).t.get j = if j = k then some o else none := by
  show (T.put o .nil k).get j = _
  rw [T.get_put, T.get_nil]

theorem inv_step (hf : SF P G B call) (hrd : SR P G B round) (d : DrawOk ops) (l : Loc G ops y) (hst : ∀ i o, ops[i]? = some o → StepT P G call round ops y i o) (c0 : Cond G B μ0 (y.H 0) w0) (he0 : AR μ0 (y.E 0) a0)
    (inv : Inv B G ops y μ0 w0 a0 D μ a w) (hD : ∀ (j : Nat) (o : Oper), ops[j]? = some o → D j → ∀ e ∈ o.after, Region.binds .any e = true → D e.on) {i : Nat} {o : Oper} (ho : ops[i]? = some o) (hnD : ¬ D i) (hpre : ∀ e ∈ o.after, Region.binds .any e = true → D e.on)
    {ro' : Option Nat} {K : Act → World → Prop} {Q : Exit → Act → World → Prop} (hK : ∀ μ' a' w', Inv B G ops y μ0 w0 a0 (Dn D i) μ' a' w' → K a' w') : wpOpIn (FW ro') 0 P ops Q i K a w := by
  have hi : i < ops.size := (Array.getElem?_eq_some_iff.1 ho).1
  have ha1 : ∀ i2, ahead ops i2 i = true → D i2 := fun i2 h => ahead_done d hD i i2 o ho hpre h
  have ha2 : ∀ i2, i2 < ops.size → D i2 → ahead ops i i2 = true → False := fun i2 h2 hd h => by
    have ho2 : ops[i2]? = some ops[i2] := Array.getElem?_eq_getElem h2
    exact hnD (ahead_done d hD i2 i _ ho2 (hD i2 _ ho2 hd) h)
  have hcmp : ∀ i2, i2 < ops.size → (ahead ops i i2 = true ∨ ahead ops i2 i = true) → (D i2 ↔ i2 < i) := fun i2 h2 h => by
    constructor
    · intro hd
      rcases h with h | h
      · exact (ha2 i2 h2 hd h).elim
      · exact ahead_lt d i i2 hi h
    · intro hlt
      rcases h with h | h
      · have := ahead_lt d i2 i h2 h; omega
      · exact ha1 i2 h
  have hself : (D i ↔ i < i) := ⟨fun h => (hnD h).elim, fun h => by omega⟩
  have hds : ∀ i2 t, i2 < ops.size → D i2 → Ds ops i2 t → Ds ops i t → i2 < i := by
    rintro i2 t h2 hd ⟨o2, ho2, hd2⟩ ⟨o1, ho1, hd1⟩
    rw [ho] at ho1; simp only [Option.some.injEq] at ho1; subst ho1
    rcases Nat.lt_trichotomy i2 i with h | h | h
    · exact h
    · exact (hnD (h ▸ hd)).elim
    · rcases d.pair i i2 o o2 h ho ho2 with h3 | h3
      · exact (ha2 i2 h2 hd h3).elim
      · exact absurd hd2 ((Oper.apart_spec h3).2.1 t hd1)
  have hagS : ∀ t, t ∈ o.looksAt ops → AgS ops D i t := by
    rintro t htl i2 h2 ⟨o2, ho2, hd2⟩
    rcases Nat.lt_trichotomy i2 i with h | h | h
    · rcases d.pair i2 i o2 o h ho2 ho with h3 | h3
      · exact hcmp i2 h2 (.inr h3)
      · exact absurd htl ((Oper.apart_spec h3).1 t hd2)
    · subst h; exact hself
    · rcases d.pair i i2 o o2 h ho ho2 with h3 | h3
      · exact hcmp i2 h2 (.inl h3)
      · exact absurd htl ((Oper.apart_spec h3).2.2 t hd2)
  obtain ⟨e, hedef⟩ : ∃ e : En, e = ⟨(y.E i).sz, restrict (o.looksAt ops) (y.E i).t, (y.E i).mks⟩ := ⟨_, rfl⟩
  have heget : ∀ t, t ∈ o.looksAt ops → e.t.get t = (y.E i).t.get t := fun t ht => by rw [hedef]; simp only; rw [restrict_get, if_pos ht]
  have hev : ∀ x ∈ o.op.operands, ev G e x = ev G (y.E i) x := fun x hx => ev_congr fun t ht => heget t (by
    subst ht
    exact List.mem_append_left _ (List.mem_filterMap.2 ⟨.tmp t, by simpa using hx, rfl⟩))
  have hni : (y.H 0).n ≤ (y.H i).n := l.mono (Nat.zero_le i) (by omega)
  have hbase : ∀ k x, μ0 k = some x → cutM μ (y.H i).n k = some x := fun k x h => by
    have hk := c0.hr.dom k x h
    exact cutM_some.2 ⟨by omega, by rw [inv.base k hk]; exact h⟩
  have hA : AR (cutM μ (y.H i).n) e a := by
    refine ⟨⟨by rw [inv.size, hedef]; exact (l.consts (by omega)).1.symm, fun t v hv => ?_⟩, ?_⟩
    · rw [hedef] at hv
      simp only at hv
      rw [restrict_get] at hv
      by_cases ht : t ∈ o.looksAt ops
      · rw [if_pos ht] at hv
        exact inv.slot t v i (by omega) hv (hagS t ht)
      · rw [if_neg ht] at hv; cases hv
    · rw [inv.defers, hedef]
      simp only
      rw [(l.consts (i := i) (by omega)).2]
      exact he0.mr.mono hbase
  have hGR : GR G (cutM μ (y.H i).n) := fun g hg => let ⟨s, hs⟩ := c0.gr g hg; ⟨s, hbase _ _ hs⟩
  have hBw : B ≤ w.heap.size := Nat.le_trans c0.hB inv.wsize
  have hltM : ∀ k b p s, cutM μ (y.H i).n k = some (b, p, s) → k < (y.H i).n ∧ b < w.heap.size := fun k b p s h => by
    obtain ⟨h1, h2⟩ := cutM_some.1 h
    exact ⟨h1, (inv.lt k b p s h2).1⟩
  have hwant : Region.wanted o (yielded ops a.tmps) = y.W i := by
    refine wanted_ok hA.tr ?_
    rw [← (hst i o ho).want]
    unfold wantedC
    split
    · rfl
    · rename_i j want hg
      split
      · rename_i oj hoj
        split
        · rename_i dd hdd
          rw [heget dd (by simp [Oper.looksAt, hg, hoj, hdd])]
        · rfl
      · rfl
  have htch : ∀ k st, touch G (y.E i) o.op = some (st, k) → ∃ x, cutM μ (y.H i).n k = some x := by
    intro k st ht
    have hvr : ∀ x, x ∈ o.op.operands → ∀ u, ev G (y.E i) x = some u → VR (cutM μ (y.H i).n) u (a.eval x) := fun x hx u hu => ev_ok hGR hA.tr (by rw [hev x hx]; exact hu)
    have key : ∀ x, x ∈ o.op.operands → ∀ k off sp, ev G (y.E i) x = some (.pointer (some ⟨k, off, sp⟩)) → ∃ z, cutM μ (y.H i).n k = some z := fun x hx k off sp hu => by
      have := hvr x hx _ hu
      generalize a.eval x = x' at this
      cases this with
      | ptr h => exact ⟨_, h⟩
    cases hop : o.op with
    | load t x =>
      rw [hop] at ht
      have ht' : (match ev G (y.E i) x with | some (.pointer (some ⟨k, _, _⟩)) => some (false, k) | _ => none) = some (st, k) := ht
      split at ht'
      · rename_i k' off sp hx
        simp only [Option.some.injEq, Prod.mk.injEq] at ht'
        obtain ⟨_, rfl⟩ := ht'
        exact key x (by rw [hop]; simp [Op.operands]) k' off sp hx
      · cases ht'
    | store t x z =>
      rw [hop] at ht
      have ht' : (match ev G (y.E i) x with | some (.pointer (some ⟨k, _, _⟩)) => some (true, k) | _ => none) = some (st, k) := ht
      split at ht'
      · rename_i k' off sp hx
        simp only [Option.some.injEq, Prod.mk.injEq] at ht'
        obtain ⟨_, rfl⟩ := ht'
        exact key x (by rw [hop]; simp [Op.operands]) k' off sp hx
      · cases ht'
    | _ => rw [hop] at ht; cases ht
  have htc : ∀ k st, y.W i = true → touch G (y.E i) o.op = some (st, k) → ∃ x, μ k = some x := fun k st _ ht => let ⟨x, hx⟩ := htch k st ht; ⟨x, (cutM_some.1 hx).2⟩
  have hNi : ∀ k x, μ k = some x → (y.H i).n ≤ k → k < (y.H (i + 1)).n → False := by
    rintro k ⟨b, p, s⟩ e1 h1 h2
    rcases (inv.lt k b p s e1).2 with h3 | ⟨j, hj, hDj, h4, h5⟩
    · omega
    · have hne : j ≠ i := fun e => hnD (e ▸ hDj)
      rcases Nat.lt_or_gt_of_ne hne with h6 | h6
      · have := l.mono (by omega : j + 1 ≤ i) (by omega); omega
      · have := l.mono (by omega : i + 1 ≤ j) (by omega); omega
  have hclean : ∀ (h0 h' : Hp) (μ1 : Mu) (v' : Value) (w1 : World), h0.n = (y.H i).n → h0.low = (y.H i).n → (y.H i).n ≤ h'.low → h'.n = (y.H (i + 1)).n → (∀ k q, (y.H i).n ≤ k → k < (y.H (i + 1)).n → (y.H (i + 1)).t.get k = some q → h'.t.get k = some q) → (∀ k, ¬ Wr G ops y i k) →
      (∀ i2 k, i2 < ops.size → i < i2 → D i2 → Wr G ops y i2 k → (y.H i).n ≤ k → k < (y.H (i + 1)).n → False) → VR μ1 (y.V i) v' → Good B (cutM μ (y.H i).n) h0 w μ1 h' w1 → K (a.put o.dst v') w1 := by
    intro h0 h' μ1 v' w1 k1 k2 k3 k4 k5 k6 k7 hv g
    refine hK _ _ _ (inv_clean l inv ho hnD hds k6 k7 (fun k hk => g.st.dom k (by rw [k1]; exact hk)) ?_ ?_ g.st.os g.st.tape g.st.output g.st.size ?_ ?_ htc hv)
    · intro k b p s hk e1
      obtain ⟨q1, q2⟩ := g.hr.lt k b p s e1
      refine ⟨by omega, ?_, q2⟩
      rcases g.st.fresh k b p s (by omega) e1 with h3 | ⟨m0, p0, s0, o0, h3, _, _, _, h4⟩
      · exact h3
      · have := (cutM_some.1 h3).1; omega
    · intro b hb
      refine g.st.frame b hb fun k p s q e1 _ _ => .inr ?_
      have := (cutM_some.1 e1).1; omega
    · intro k b p s q hk e1 hq
      have hkn := g.hr.dom k _ e1
      exact ⟨g.hr.obj k b p s q e1 (k5 k q hk (by omega) hq), g.hr.own k b p s q e1 (k5 k q hk (by omega) hq)⟩
    · intro k k' b p s p' s' q q' hk hk' e1 e2 hq hq' hl hl'
      have hkn := g.hr.dom k _ e1
      have hkn' := g.hr.dom k' _ e2
      exact g.hr.inj k k' b p s p' s' q q' e1 e2 (k5 k q hk (by omega) hq) (k5 k' q' hk' (by omega) hq') hl hl'
  have hnone : (y.H (i + 1)).n = (y.H i).n → ∀ i2 k, i2 < ops.size → i < i2 → D i2 → Wr G ops y i2 k → (y.H i).n ≤ k → k < (y.H (i + 1)).n → False := fun e1 i2 k _ _ _ _ h1 h2 => by omega
  unfold wpOpIn
  simp only [ho]
  rw [hwant]
  have hsolo : ∀ k ob, AgK G ops y D i k → (y.H i).t.get k = some ob → HR B (cutM μ (y.H i).n) (solo (y.H i).n k ob).n (solo (y.H i).n k ob).t.get w := by
    intro k ob hag hob
    refine ⟨hltM, fun j b p s q e1 e2 => ?_, fun j j' b p s p' s' q q' _ _ e3 e4 _ _ => ?_, fun j b p s q e1 e2 hlv => ?_⟩
    · rw [solo_get] at e2
      by_cases hj : j = k
      · subst hj; simp only [if_true, Option.some.injEq] at e2; subst e2
        exact inv.obj j b p s i ob (by omega) (cutM_some.1 e1).2 (cutM_some.1 e1).1 hag hob
      · simp [hj] at e2
    · rw [solo_get] at e3 e4
      by_cases hj : j = k
      · by_cases hj' : j' = k
        · rw [hj, hj']
        · simp [hj'] at e4
      · simp [hj] at e3
    · rw [solo_get] at e2
      by_cases hj : j = k
      · subst hj; simp only [if_true, Option.some.injEq] at e2; subst e2
        exact inv.own j b p s i ob (by omega) (cutM_some.1 e1).2 (cutM_some.1 e1).1 hag hob hlv
      · simp [hj] at e2
  have hagT : ∀ k st, y.W i = true → touch G (y.E i) o.op = some (st, k) → accOk ops i st k (y.A i) = true → (st = false → isLoad o.op = true) → (st = true → isLoad o.op = false ∧ isNew o.op = false) → y.A (i + 1) = (i, if st then .st k else .ld k) :: y.A i → AgK G ops y D i k := by
    rintro k st hw ht hac hl1 hl2 hA1 i2 h2 ⟨o2, ho2, hw2, h3⟩
    have hsl : slotOp o.op = false := ls_slot (touch_none ht)
    by_cases hne : i2 = i
    · subst hne; exact hself
    · rcases h3 with h3 | ⟨h3, h4, h5, h6, h7, h8, h9⟩
      · cases kind_of (hst i2 o2 ho2) with
        | store _ _ _ k2 _ _ _ _ _ ht2 _ _ _ _ _ _ _ _ _ _ hac2 _ ha2 =>
          rw [h3] at ht2; simp only [Option.some.injEq, Prod.mk.injEq, true_and] at ht2; subst ht2
          rcases Nat.lt_or_gt_of_ne hne with h4 | h4
          · rcases accOk_at hac (acc_mem hst ha2 i h4 (by omega)) with h5 | h5
            · simp [aeOk] at h5
            · exact hcmp i2 h2 (.inr h5)
          · rcases accOk_at hac2 (acc_mem hst hA1 i2 h4 (by omega)) with h5 | h5
            · cases st <;> simp [aeOk] at h5
            · exact hcmp i2 h2 (.inl h5)
        | load _ _ _ _ _ ht2 _ _ _ _ _ _ _ => rw [h3] at ht2; simp at ht2
        | none hw3 _ _ _ => rw [hw2] at hw3; cases hw3
        | slot _ ht2 _ _ _ _ => rw [h3] at ht2; cases ht2
        | new _ _ ht2 _ _ _ _ _ _ => rw [h3] at ht2; cases ht2
        | other _ _ ht2 _ _ _ _ _ _ _ => rw [h3] at ht2; cases ht2
      · cases kind_of (hst i2 o2 ho2) with
        | store _ _ _ k2 _ _ _ _ _ ht2 _ _ _ _ _ _ _ _ _ _ hac2 _ ha2 => rw [h3] at ht2; cases ht2
        | load _ _ _ _ _ ht2 _ _ _ _ _ _ _ => rw [h3] at ht2; cases ht2
        | none hw3 _ _ _ => rw [hw2] at hw3; cases hw3
        | slot _ _ hs2 _ _ _ => rw [h4] at hs2; cases hs2
        | new _ _ _ _ hn2 _ _ _ _ => rw [h5] at hn2; cases hn2
        | other _ _ _ _ _ _ _ _ _ ha2 =>
          cases st with
          | true =>
            obtain ⟨z1, z2⟩ := hl2 rfl
            exact hcmp i2 h2 ((barrier_spec h6 ho (fun e => hne e.symm) hsl z1 z2).symm)
          | false =>
            rcases Nat.lt_or_gt_of_ne hne with h10 | h10
            · rcases accOk_at hac (acc_mem hst ha2 i h10 (by omega)) with h11 | h11
              · exact absurd (sameO_eq h11).symm h9
              · exact hcmp i2 h2 (.inr h11)
            · rcases accB_at h7 (acc_mem hst hA1 i2 h10 (by omega)) with h11 | h11
              · exact absurd (sameO_eq h11).symm h9
              · exact hcmp i2 h2 (.inl h11)
  have ek : ∀ h2, opC P G e h2 o = opC P G (y.E i) h2 o := fun h2 => opC_congr hev
  have hr0 : HR B (cutM μ (y.H i).n) (y.H i).n (fun k => (T.nil : T LObj).get k) w := ⟨hltM, fun _ _ _ _ _ _ h => (by rw [T.get_nil] at h; cases h), fun _ _ _ _ _ _ _ _ _ _ _ h _ _ _ => (by rw [T.get_nil] at h; cases h), fun _ _ _ _ _ _ h => (by rw [T.get_nil] at h; cases h)⟩
  cases kind_of (hst i o ho) with
  | none hw hv hh ha =>
    rw [hw]
    simp only [Bool.false_eq_true, if_false]
    refine ⟨fun _ _ => trivial, ?_⟩
    exact hclean ⟨(y.H i).n, .nil, (y.H i).n⟩ ⟨(y.H i).n, .nil, (y.H i).n⟩ _ undef w rfl rfl (Nat.le_refl _) (by rw [hh]) (fun k q hk hk2 _ => by rw [hh] at hk2; omega) (fun k ⟨o2, _, h2, _⟩ => by rw [hw] at h2; cases h2) (hnone (by rw [hh])) (by rw [hv]; exact undef_refl _) (.refl hr0)
  | slot hw ht hs hv hh ha =>
    rw [hw]
    simp only [if_true]
    refine op_step (e := e) (h := ⟨(y.H i).n, .nil, (y.H i).n⟩) hf hrd ⟨hr0, hGR, hBw⟩ hA (v := y.V i) (h1 := ⟨(y.H i).n, .nil, (y.H i).n⟩) (by rw [ek, hv]; rfl) fun μ1 v' w1 q1 q2 => ?_
    exact hclean ⟨(y.H i).n, .nil, (y.H i).n⟩ ⟨(y.H i).n, .nil, (y.H i).n⟩ μ1 v' w1 rfl rfl (Nat.le_refl _) (by rw [hh]) (fun k q hk hk2 _ => by rw [hh] at hk2; exact absurd hk2 (by show ¬ k < (y.H i).n; omega)) (fun k ⟨o2, h1, h2, h3⟩ => by
      rw [ho] at h1; simp only [Option.some.injEq] at h1; subst h1
      rcases h3 with h3 | ⟨_, h3, _⟩
      · rw [ht] at h3; cases h3
      · rw [hs] at h3; cases h3) (hnone (by rw [hh])) q1 q2
  | new ob hw ht hs hnw hl hv hh ha =>
    rw [hw]
    simp only [if_true]
    refine op_step (e := e) (h := ⟨(y.H i).n, .nil, (y.H i).n⟩) hf hrd ⟨hr0, hGR, hBw⟩ hA (v := y.V i) (h1 := (⟨(y.H i).n, .nil, (y.H i).n⟩ : Hp).new ob) (by rw [ek, hv ⟨(y.H i).n, .nil, (y.H i).n⟩ rfl]; rfl) fun μ1 v' w1 q1 q2 => ?_
    refine hclean ⟨(y.H i).n, .nil, (y.H i).n⟩ ((⟨(y.H i).n, .nil, (y.H i).n⟩ : Hp).new ob) μ1 v' w1 rfl rfl (Nat.le_refl _) (by rw [hh]; rfl) (fun k q hk hk2 hq => ?_) (fun k ⟨o2, h1, h2, h3⟩ => ?_) ?_ q1 q2
    · have hk3 : k = (y.H i).n := by
        have : k < (y.H i).n + 1 := by rw [hh] at hk2; exact hk2
        omega
      subst hk3
      rw [hh] at hq
      have hq' : (T.put ob (y.H i).t (y.H i).n).get (y.H i).n = some q := hq
      rw [T.get_put] at hq'
      show (T.put ob .nil (y.H i).n).get (y.H i).n = some q
      rw [T.get_put]
      simpa using hq'
    · rw [ho] at h1; simp only [Option.some.injEq] at h1; subst h1
      rcases h3 with h3 | ⟨_, _, h3, _⟩
      · rw [ht] at h3; cases h3
      · rw [hnw] at h3; cases h3
    · rintro i2 k h2 hlt hd2 ⟨o2, ho2, hw2, h3⟩ h4 h5
      rcases h3 with h3 | ⟨h3, q4, q5, q6, q7, q8, q9⟩
      · obtain ⟨x, hx⟩ := inv.touched i2 o2 k true ho2 hd2 hw2 h3
        exact hNi k x hx h4 h5
      · have hk3 : k = (y.H i).n := by
          have : k < (y.H i).n + 1 := by rw [hh] at h5; exact h5
          omega
        rcases accB_at q7 (acc_mem hst ha i2 hlt (by omega)) with h11 | h11
        · rw [hk3] at q9; exact absurd (sameO_eq h11).symm q9
        · exact ha2 i2 h2 hd2 h11
  | load t x k off hw ht hd hop hx hl hh hac ha =>
    rw [hw]
    simp only [if_true]
    have hag := hagT k false hw ht hac (fun _ => by rw [hop]; rfl) (fun h => by cases h) (by simpa using ha)
    cases hob : (y.H i).t.get k with
    | none => exfalso; revert hl; unfold ldAt Hp.rd; rw [hob]; (repeat' split) <;> simp_all
    | some ob =>
      have hr1 := hsolo k ob hag hob
      refine op_step (e := e) (h := solo (y.H i).n k ob) hf hrd ⟨hr1, hGR, hBw⟩ hA (v := y.V i) (h1 := solo (y.H i).n k ob) ?_ fun μ1 v' w1 q1 q2 => ?_
      · rw [ek]
        have hoc : opC P G (y.E i) (solo (y.H i).n k ob) o = onlyV (match ev G (y.E i) x with | some p => Out.ofV (solo (y.H i).n k ob) (ld P (solo (y.H i).n k ob) t p) | none => .fail) := by unfold opC; rw [hop]; rfl
        rw [hoc, hx]
        have hld : ld P (solo (y.H i).n k ob) t (.pointer (some ⟨k, off, none⟩)) = some (y.V i) := by
          rw [← hl]
          exact ldAt_congr (by rw [solo_get, if_pos rfl, hob])
        simp only [hld]
        rfl
      · exact hclean (solo (y.H i).n k ob) (solo (y.H i).n k ob) μ1 v' w1 rfl rfl (Nat.le_refl _) (by rw [hh]; rfl) (fun k2 q hk hk2 _ => by rw [hh] at hk2; omega) (fun k2 ⟨o2, h1, h2, h3⟩ => by
          rw [ho] at h1; simp only [Option.some.injEq] at h1; subst h1
          rcases h3 with h3 | ⟨h3, _⟩
          · rw [ht] at h3; simp at h3
          · rw [ht] at h3; cases h3) (hnone (by rw [hh])) q1 q2
  | store t x z k off u us q hw ht hd hop hx hz hsz hu hone hq hv hh hac hb ha =>
    rw [hw]
    simp only [if_true]
    have hag := hagT k true hw ht hac (fun h => by cases h) (fun _ => by rw [hop]; exact ⟨rfl, rfl⟩) (by simpa using ha)
    obtain ⟨⟨b, p, s⟩, hk⟩ := htch k true ht
    obtain ⟨hki, hkμ⟩ := cutM_some.1 hk
    refine op_step (e := e) (h := solo (y.H i).n k (.cells us)) hf hrd ⟨hsolo k _ hag hu, hGR, hBw⟩ hA (v := y.V i) (h1 := (solo (y.H i).n k (.cells us)).set k (.cells q)) ?_ fun μ1 v' w1 q1 q2 => ?_
    · rw [ek]
      have hoc : opC P G (y.E i) (solo (y.H i).n k (.cells us)) o = onlyV (opStore P G (y.E i) (solo (y.H i).n k (.cells us)) t x z) := by unfold opC; rw [hop]; rfl
      have hwr : (solo (y.H i).n k (.cells us)).wr k off u.cells.toList = some ((solo (y.H i).n k (.cells us)).set k (.cells q)) := by
        unfold Hp.wr
        rw [solo_get, if_pos rfl]
        simp only [hone, cond_true, hq]
      rw [hoc]
      unfold opStore
      rw [hx, hz]
      simp only [hsz, beqN, decide_true, cond_true, hwr]
      rw [hv]
      rfl
    · rw [hv] at q1
      have hvv : v' = undef := by
        have q3 : VR μ1 (.tuple #[]) v' := q1
        cases q3 with
        | tuple hL =>
          rename_i a'
          have : a'.toList = [] := by cases h5 : a'.toList with
            | nil => rfl
            | cons _ _ => rw [h5] at hL; cases hL
          have : a' = #[] := by apply Array.ext'; simpa using this
          rw [this]; rfl
      rw [hvv]
      refine hK _ _ _ (inv_store (w1 := w1) l inv ho hnD hds (fun k' => ⟨?_, ?_⟩) hag hkμ hki hu hh ?_ ?_ q2.st.os q2.st.tape q2.st.output q2.st.size hv htc)
      · rintro ⟨o2, h1, _, h3⟩
        rw [ho] at h1; simp only [Option.some.injEq] at h1; subst h1
        rcases h3 with h3 | ⟨h3, _⟩
        · rw [ht] at h3; simp only [Option.some.injEq, Prod.mk.injEq, true_and] at h3; exact h3.symm
        · rw [ht] at h3; cases h3
      · rintro rfl; exact ⟨o, ho, hw, .inl ht⟩
      · have h6 := q2.hr.obj k b p s (.cells q) (q2.st.le _ _ hk) (by rw [set_get]; simp)
        exact h6.mono fun j x e1 => by
          have hj := q2.hr.dom j x e1
          have hj' : j < (y.H i).n := hj
          rw [← q2.st.dom j hj']; exact e1
      · intro b' hb' hne
        refine q2.st.frame b' hb' fun j p' s' q' e1 e2 _ => ?_
        rw [solo_get] at e2
        by_cases hj : j = k
        · subst hj; rw [hk] at e1; simp only [Option.some.injEq, Prod.mk.injEq] at e1; exact absurd e1.1.symm hne
        · simp [hj] at e2
  | other h' hw ht hs hnw hl hd hh hc ha =>
    rw [hw]
    simp only [if_true]
    have hil := ls_load hl
    have hord : ∀ i2 k, i2 < ops.size → i2 ≠ i → Wr G ops y i2 k → (D i2 ↔ i2 < i) := by
      rintro i2 k h2 hne ⟨o2, ho2, hw2, h3⟩
      rcases h3 with h3 | ⟨_, _, _, h3, _⟩
      · cases kind_of (hst i2 o2 ho2) with
        | store _ _ _ k2 _ _ _ _ _ ht2 _ _ _ _ _ _ _ _ _ _ _ hb2 _ => exact hcmp i2 h2 ((barrierS_spec hb2 ho (fun e => hne e.symm) hs hl).symm)
        | load _ _ _ _ _ ht2 _ _ _ _ _ _ _ => rw [h3] at ht2; simp at ht2
        | none hw3 _ _ _ => rw [hw2] at hw3; cases hw3
        | slot _ ht2 _ _ _ _ => rw [h3] at ht2; cases ht2
        | new _ _ ht2 _ _ _ _ _ _ => rw [h3] at ht2; cases ht2
        | other _ _ ht2 _ _ _ _ _ _ _ => rw [h3] at ht2; cases ht2
      · exact hcmp i2 h2 ((barrier_spec h3 ho (fun e => hne e.symm) hs hil hnw).symm)
    have hag : ∀ k, AgK G ops y D i k := by
      intro k i2 h2 hw2
      by_cases hne : i2 = i
      · subst hne; exact hself
      · exact hord i2 k h2 hne hw2
    have hrF : HR B (cutM μ (y.H i).n) (y.H i).n (y.H i).t.get w :=
      ⟨hltM, fun j b p s q e1 e2 => inv.obj j b p s i q (by omega) (cutM_some.1 e1).2 (cutM_some.1 e1).1 (hag j) e2,
        fun j j' b p s p' s' q q' e1 e2 e3 e4 l1 l2 => inv.inj j j' b p s p' s' i i q q' (by omega) (by omega) (cutM_some.1 e1).2 (cutM_some.1 e2).2 (cutM_some.1 e1).1 (cutM_some.1 e2).1 (hag j) (hag j') e3 e4 l1 l2,
        fun j b p s q e1 e2 hlv => inv.own j b p s i q (by omega) (cutM_some.1 e1).2 (cutM_some.1 e1).1 (hag j) e2 hlv⟩
    refine op_step (e := e) (h := ⟨(y.H i).n, (y.H i).t, (y.H i).n⟩) hf hrd ⟨hrF, hGR, hBw⟩ hA (v := y.V i) (h1 := h') (by rw [ek]; exact hd) fun μ1 v' w1 q1 q2 => ?_
    by_cases hcl : (y.H i).n ≤ h'.low
    · refine hclean ⟨(y.H i).n, (y.H i).t, (y.H i).n⟩ h' μ1 v' w1 rfl rfl hcl (by rw [hh]) (fun k q _ _ hq => by rw [hh] at hq; exact hq) ?_ ?_ q1 q2
      · rintro k ⟨o2, h1, _, h3⟩
        rw [ho] at h1; simp only [Option.some.injEq] at h1; subst h1
        rcases h3 with h3 | ⟨_, _, _, _, _, h3, h4⟩
        · rw [ht] at h3; cases h3
        · refine h4 ?_
          rw [hh]
          exact q2.st.kept k h3 (Nat.lt_of_lt_of_le h3 hcl)
      · rintro i2 k h2 hlt hd2 ⟨o2, ho2, hw2, h3⟩ h4 h5
        have := (hord i2 k h2 (by omega) ⟨o2, ho2, hw2, h3⟩).1 hd2
        omega
    · refine hK _ _ _ (inv_other (v' := v') (w1 := w1) l inv ho hnD hds hag ?_ ?_ q2 hh hNi htc q1)
      · intro i2 k h2 hd2 hw2 _
        exact (hord i2 k h2 (fun e => hnD (e ▸ hd2)) hw2).1 hd2
      · rintro k ⟨o2, h1, _, h3⟩
        rw [ho] at h1; simp only [Option.some.injEq] at h1; subst h1
        rcases h3 with h3 | ⟨_, _, _, _, _, h3, _⟩
        · rw [ht] at h3; cases h3
        · exact h3
end
end Cx
end Go.Proofs.YtkljlbilhcdjhaaGreatDoor
namespace Go.Proofs.YtkljlbilhcdjhaaGreatDoor
namespace Cx
open Go

section
variable {P : Program} {G : GS} {B : Nat} {call : FuncId → List Value → Hp → CRes} {round : Nat → List Value → Hp → CRes}

theorem count_set : ∀ (l : List Bool) (i : Nat), l[i]? = some false → (l.set i true).count false + 1 = l.count false
  | [], i, h => by simp at h
  | b :: l, 0, h => by simp at h; subst h; simp
  | b :: l, i + 1, h => by
    have := count_set l i (by simpa using h)
    simp only [List.set_cons_succ, List.count_cons]
    omega
theorem count_zero : ∀ (l : List Bool), l.count false = 0 → ∀ (i : Nat) (b : Bool), l[i]? = some b → b = true
  | [], _, i, b, h => by simp at h
  | c :: l, hc, i, b, h => by
    simp only [List.count_cons] at hc
    cases i with
    | zero => simp at h; subst h; cases c <;> simp_all
    | succ i => exact count_zero l (by omega) i b (by simpa using h)

theorem sd_ok (hf : SF P G B call) (hrd : SR P G B round) : SD P G B call round := by
  intro ops ro' e e' h h' x μ0 a0 w0 hd hrun c he Q hQ
  obtain ⟨rfl, y, y1, y2, _, y4, y5, y6⟩ := way_of ops.toList 0 [] e e' h h' x hrun
  simp only [Array.length_toList, Nat.zero_add] at y4 y5
  have hst : ∀ i o, ops[i]? = some o → StepT P G call round ops y i o := fun i o ho => by
    have := y6 i o (by simpa using ho)
    simpa using this
  have d := drawOk_spec hd
  subst y1; subst y2
  obtain ⟨l, μr, wr, gr⟩ := loc_of hf hrd hst c he
  have fin : ∀ (D : Nat → Prop) (μ : Mu) (a : Act) (w : World), Inv B G ops y μ0 w0 a0 D μ a w → (∀ i, i < ops.size → D i) → Q .normal a w := by
    intro D μ a w inv hall
    have hup : Mu.le μ0 μ := fun k x h1 => by rw [inv.base k (c.hr.dom k x h1)]; exact h1
    have hag : ∀ k, AgK G ops y D ops.size k := fun k i hi _ => ⟨fun _ => hi, fun _ => hall i hi⟩
    have hlt : ∀ k b p s, μ k = some (b, p, s) → k < (y.H ops.size).n := fun k b p s h1 => by
      rcases (inv.lt k b p s h1).2 with h2 | ⟨j, hj, _, _, h3⟩
      · have := l.mono (Nat.zero_le ops.size) (Nat.le_refl _); omega
      · have := l.mono (by omega : j + 1 ≤ ops.size) (Nat.le_refl _); omega
    refine hQ _ _ _ ⟨rfl, μ, ⟨⟨?_, ?_⟩, ?_⟩, ⟨⟨?_, ?_, ?_, ?_⟩, ⟨hup, inv.base, ?_, ?_, ?_, ?_, inv.os, inv.tape, inv.output, inv.wsize, ?_, ?_⟩⟩⟩
    · rw [inv.size, ← y4]; exact (l.consts (Nat.le_refl _)).1.symm
    · intro t v hv
      rw [← y4] at hv
      obtain ⟨v', g1, g2⟩ := inv.slot t v ops.size (Nat.le_refl _) hv fun i hi _ => ⟨fun _ => hi, fun _ => hall i hi⟩
      exact ⟨v', g1, g2.mono (cutM_le _ _)⟩
    · rw [inv.defers, ← y4, (l.consts (Nat.le_refl _)).2]; exact he.mr.mono hup
    · intro k b p s h1; rw [← y5]; exact ⟨hlt k b p s h1, (inv.lt k b p s h1).1⟩
    · intro k b p s o h1 h2; rw [← y5] at h2
      exact (inv.obj k b p s ops.size o (Nat.le_refl _) h1 (hlt k b p s h1) (hag k) h2).mono (cutM_le _ _)
    · intro k k' b p s p' s' o o' h1 h2 h3 h4 l1 l2
      rw [← y5] at h3 h4
      exact inv.inj k k' b p s p' s' ops.size ops.size o o' (Nat.le_refl _) (Nat.le_refl _) h1 h2 (hlt _ _ _ _ h1) (hlt _ _ _ _ h2) (hag k) (hag k') h3 h4 l1 l2
    · intro k b p s o h1 h2 hl; rw [← y5] at h2
      exact inv.own k b p s ops.size o (Nat.le_refl _) h1 (hlt k b p s h1) (hag k) h2 hl
    · rw [← y5]; exact gr.st.n
    · rw [← y5]; exact gr.st.low
    · rw [← y5]; exact gr.st.kept
    · rw [← y5]; exact gr.st.alive
    · rw [← y5]; exact inv.frame
    · rw [← y5]; exact inv.fresh
  have key : ∀ (fuel : Nat) (listed : Array Bool) (μ : Mu) (a : Act) (w : World), listed.size = ops.size → listed.toList.count false = fuel → Inv B G ops y μ0 w0 a0 (fun i => listed.getD i false = true) μ a w →
      (∀ (j : Nat) (o : Oper), ops[j]? = some o → listed.getD j false = true → ∀ e ∈ o.after, Region.binds .any e = true → listed.getD e.on false = true) → wpAnyIn (FW ro') 0 P .any ops Q fuel listed a w := by
    intro fuel
    induction fuel with
    | zero =>
      intro listed μ a w hsz hcnt inv _
      have hall : ∀ i, i < ops.size → listed.getD i false = true := fun i hi => by
        have hi' : i < listed.size := by omega
        have := count_zero listed.toList hcnt i listed[i] (by simp [hi'])
        simp [hi', this]
      refine ⟨?_, fin _ μ a w inv hall⟩
      cases hr : Region.ready .any ops listed with
      | nil => rfl
      | cons i r =>
        have hm : i ∈ Region.ready .any ops listed := by rw [hr]; simp
        obtain ⟨h1, o, ho, _⟩ := mem_ready.1 hm
        have hi := (Array.getElem?_eq_some_iff.1 ho).1
        have h2 := hall i hi
        have hi' : i < listed.size := by omega
        simp [hi'] at h1 h2
        rw [h1] at h2; cases h2
    | succ fuel ih =>
      intro listed μ a w hsz hcnt inv hcl
      refine ⟨fun hnil => fin _ μ a w inv fun i hi => ?_, fun i hm => ?_⟩
      · -- the least that is not done would be ready
        have : ∀ n i, i < n → i < ops.size → listed.getD i false = true := by
          intro n
          induction n with
          | zero => intro i h; omega
          | succ n ihn =>
            intro i hin hi
            by_cases hlt : i < n
            · exact ihn i hlt hi
            · cases hl : listed.getD i false with
              | true => rfl
              | false =>
                exfalso
                have hi' : i < listed.size := by omega
                have ho : ops[i]? = some ops[i] := Array.getElem?_eq_getElem hi
                have hmem : i ∈ Region.ready .any ops listed := mem_ready.2 ⟨by simp [hi'] at hl ⊢; exact hl, _, ho, fun e2 he2 hb2 => by
                  have := d.low i _ ho e2 he2 hb2
                  exact ihn e2.on (by omega) (by omega)⟩
                rw [hnil] at hmem; cases hmem
        exact this (i + 1) i (by omega) hi
      · obtain ⟨h1, o, ho, hpre⟩ := mem_ready.1 hm
        have hi := (Array.getElem?_eq_some_iff.1 ho).1
        have hi' : i < listed.size := by omega
        have hfalse : listed[i] = false := by simpa [hi'] using h1
        refine inv_step hf hrd d l hst c he inv hcl ho (by simp [hi', hfalse]) hpre fun μ' a' w' inv' => ?_
        have hDeq : (fun j => (listed.setIfInBounds i true).getD j false = true) = Dn (fun j => listed.getD j false = true) i := by
          funext j
          apply propext
          unfold Dn
          by_cases hj : j = i
          · subst hj; simp [hi']
          · have : i ≠ j := fun e => hj e.symm
            simp [hj, Array.getElem?_setIfInBounds_ne this]
        refine ih (listed.setIfInBounds i true) μ' a' w' (by simpa using hsz) ?_ (by rw [hDeq]; exact inv') ?_
        · have := count_set listed.toList i (by simp [hi', hfalse])
          simp only [Array.toList_setIfInBounds]
          omega
        · intro j oj hoj hdj e2 he2 hb2
          refine getD_set_true ?_
          by_cases hj : j = i
          · subst hj; rw [ho] at hoj; simp only [Option.some.injEq] at hoj; subst hoj; exact hpre e2 he2 hb2
          · have : i ≠ j := fun e => hj e.symm
            exact hcl j oj hoj (by simpa [Array.getElem?_setIfInBounds_ne this] using hdj) e2 he2 hb2
  refine key ops.size (Array.replicate ops.size false) μ0 a0 w0 (by simp) (by simp) ?_ ?_
  · have hno : ∀ i, ¬ ((Array.replicate ops.size false).getD i false = true) := fun i => by
      by_cases hi : i < ops.size <;> simp [hi]
    have hag0 : ∀ {m k : Nat}, m ≤ ops.size → AgK G ops y (fun i => (Array.replicate ops.size false).getD i false = true) m k → k < (y.H m).n → ∀ b p s, μ0 k = some (b, p, s) → (y.H m).t.get k = (y.H 0).t.get k := by
      intro m k hm hag hk b p s e1
      exact l.content (Nat.zero_le m) hm (c.hr.dom k _ e1) fun i _ q2 hw => hno i ((hag i (by omega) hw).2 q2)
    have hcut : ∀ m, m ≤ ops.size → Mu.le μ0 (cutM μ0 (y.H m).n) := fun m hm k x e1 => cutM_some.2 ⟨by have := c.hr.dom k x e1; have := l.mono (Nat.zero_le m) hm; omega, e1⟩
    refine ⟨?_, he.tr.size, rfl, fun k b p s e1 => ⟨(c.hr.lt k b p s e1).2, .inl (c.hr.lt k b p s e1).1⟩, fun _ _ => rfl, ?_, ?_, ?_, fun i o k st _ h1 => (hno i h1).elim, rfl, rfl, rfl, Nat.le_refl _, fun _ _ _ => rfl, fun k b p s hk e1 => absurd (c.hr.lt k b p s e1).1 (by omega)⟩
    · intro t v j hj hv hag
      have : (y.E j).t.get t = (y.E 0).t.get t := l.slots (Nat.zero_le j) hj fun i _ q2 hd2 => hno i ((hag i (by omega) hd2).2 q2)
      rw [this] at hv
      obtain ⟨v', g1, g2⟩ := he.tr.get t v hv
      exact ⟨v', g1, g2.mono (hcut j hj)⟩
    · intro k b p s m o hm e1 hk hag hq
      rw [hag0 hm hag hk b p s e1] at hq
      exact (c.hr.obj k b p s o e1 hq).mono (hcut m hm)
    · intro k k' b p s p' s' m m' o o' hm hm' e1 e2 hk hk' hag hag' hq hq' hl hl'
      rw [hag0 hm hag hk b p s e1] at hq
      rw [hag0 hm' hag' hk' b p' s' e2] at hq'
      exact c.hr.inj k k' b p s p' s' o o' e1 e2 hq hq' hl hl'
    · intro k b p s m o hm e1 hk hag hq hl
      rw [hag0 hm hag hk b p s e1] at hq
      exact c.hr.own k b p s o e1 hq hl
  · intro j o hj h1
    by_cases hi : j < ops.size <;> simp [hi] at h1

/-- WHAT THE EXECUTOR ANSWERS, THE MODEL ANSWERS. -/
theorem run_ok (hng : ∀ (f : FuncId) (fn : Func), P.funcs[f]? = some fn → fn.body.isSome = true → (fn.name == "runtime.NumGoroutine") = false) (hst : Stubs P G B) (hmix : P.follows .mixedOrders = true) (n : Nat) : SF P G B (callN P G n) :=
  callC_ok hng hst (exec_ok hng hst hmix (fun _ _ hf hr => sd_ok hf hr) n)
end
end Cx
end Go.Proofs.YtkljlbilhcdjhaaGreatDoor
