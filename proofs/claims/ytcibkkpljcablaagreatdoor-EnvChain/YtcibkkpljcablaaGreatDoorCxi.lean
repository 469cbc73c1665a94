/- Closed runs: a region that draws its order: stores, and what changes much. -/
import Derived.Test.YtcibkkpljcablaaGreatDoorCxh
namespace Go.Proofs.YtcibkkpljcablaaGreatDoor
set_option linter.unusedVariables false
namespace Cx
open Go

section
variable {B G : Nat} {ops : Array Oper} {y : Way} {μ0 : Mu} {w0 : World} {a0 : Act} {D : Nat → Prop} {μ : Mu} {a : Act} {w : World}

theorem Loc.lows (l : Loc G ops y) : ∀ {i j : Nat}, i ≤ j → j ≤ ops.size → (y.H j).low ≤ (y.H i).low := by
  intro i j hij
  induction j with
  | zero => intro _; have : i = 0 := by omega
            subst this; exact Nat.le_refl _
  | succ j ih =>
    intro hj
    by_cases h : i = j + 1
    · subst h; exact Nat.le_refl _
    · exact Nat.le_trans (l.low j (by omega)) (ih (by omega) (by omega))
theorem Loc.alives (l : Loc G ops y) {k : Nat} : ∀ {m m' : Nat} {o : LObj}, m ≤ m' → m' ≤ ops.size → k < (y.H m).n → (y.H m').t.get k = some o → o.live = true → ∃ o0, (y.H m).t.get k = some o0 ∧ o0.live = true ∧ o0.isRo = o.isRo := by
  intro m m'
  induction m' with
  | zero => intro o h1 _ _ hq hl; have : m = 0 := by omega
            subst this; exact ⟨o, hq, hl, rfl⟩
  | succ j ih =>
    intro o h1 hj hk hq hl
    by_cases h : m = j + 1
    · subst h; exact ⟨o, hq, hl, rfl⟩
    · have hkj : k < (y.H j).n := Nat.lt_of_lt_of_le hk (l.mono (by omega) (by omega))
      obtain ⟨o1, q1, q2, q3⟩ := l.alive j k o (by omega) hkj hq hl
      obtain ⟨o2, r1, r2, r3⟩ := ih (by omega) (by omega) hk q1 q2
      exact ⟨o2, r1, r2, r3.trans q3⟩
theorem dead_OR {μ : Mu} {w : World} {b p s : Nat} {o : LObj} (h : o.live ≠ true) : OR μ w b p s o := by
  cases o <;> first | trivial | exact absurd rfl h
/-- a block that is changed has an owner that counts -/
theorem not_kept (l : Loc G ops y) (inv : Inv B G ops y μ0 w0 a0 D μ a w) {i k b p s : Nat} {o : LObj} (hi : i ≤ ops.size) (hk : μ k = some (b, p, s)) (hki : k < (y.H i).n) (ho : (y.H i).t.get k = some o) (hl : o.live = true) (hr : o.isRo = false) (hlow : (y.H ops.size).low ≤ k) (hb : b < w0.heap.size)
    (hno : ∀ k p s o, μ0 k = some (b, p, s) → (y.H 0).t.get k = some o → o.live = true → o.isRo = true ∨ k < (y.H ops.size).low) : False := by
  by_cases hk0 : k < (y.H 0).n
  · obtain ⟨o0, h1, h2, h3⟩ := l.alives (Nat.zero_le i) hi hk0 ho hl
    rw [inv.base k hk0] at hk
    rcases hno k p s o0 hk h1 h2 with h4 | h4
    · rw [h3, hr] at h4; cases h4
    · omega
  · rcases inv.fresh k b p s (by omega) hk with h1 | ⟨k0, p0, s0, o0, h1, h2, h3, h4, h5⟩
    · omega
    · rcases hno k0 p0 s0 o0 h1 h2 h3 with h6 | h6
      · rw [h6] at h4; cases h4
      · omega

theorem inv_store (l : Loc G ops y) (inv : Inv B G ops y μ0 w0 a0 D μ a w) {i : Nat} {o : Oper} (ho : ops[i]? = some o) (hnD : ¬ D i) {w1 : World} {k b p s : Nat} {us q : List Value}
    (hds : ∀ i2 t, i2 < ops.size → D i2 → Ds ops i2 t → Ds ops i t → i2 < i) (hW : ∀ k', Wr G ops y i k' ↔ k' = k) (hag : AgK G ops y D i k) (hk : μ k = some (b, p, s)) (hki : k < (y.H i).n)
    (hu : (y.H i).t.get k = some (.cells us)) (hh : y.H (i + 1) = (y.H i).set k (.cells q)) (hor : OR (cutM μ (y.H i).n) w1 b p s (.cells q))
    (hother : ∀ b', b' < w.heap.size → b' ≠ b → w1.heap[b']? = w.heap[b']?) (hos : w1.os = w.os) (htp : w1.tape = w.tape) (hout : w1.output = w.output) (hsz : w.heap.size ≤ w1.heap.size) (hv : y.V i = undef)
    (htc : ∀ k st, y.W i = true → touch G (y.E i) o.op = some (st, k) → ∃ x, μ k = some x) :
    Inv B G ops y μ0 w0 a0 (Dn D i) μ (a.put o.dst undef) w1 := by
  have hi : i < ops.size := (Array.getElem?_eq_some_iff.1 ho).1
  have hn : (y.H (i + 1)).n = (y.H i).n := by rw [hh]; rfl
  have hlow1 : (y.H ops.size).low ≤ k := Nat.le_trans (l.lows (by omega : i + 1 ≤ ops.size) (Nat.le_refl _)) (by rw [hh]; exact (set_low _ _ _).2)
  have hck : ∀ m, m ≤ ops.size → AgK G ops y (Dn D i) m k → i + 1 ≤ m ∧ (y.H m).t.get k = some (.cells q) := by
    intro m hm h
    have him : i < m := (h i hi ((hW k).2 rfl)).1 (.inr rfl)
    refine ⟨him, ?_⟩
    rw [l.content (by omega : i + 1 ≤ m) hm (by rw [hn]; exact hki) fun i2 q1 q2 hw2 => ?_, hh, set_get]
    · simp
    · rcases (h i2 (by omega) hw2).2 q2 with h3 | h3
      · have := (hag i2 (by omega) hw2).1 h3; omega
      · omega
  have hback : ∀ k' m o', m ≤ ops.size → k' < (y.H m).n → AgK G ops y (Dn D i) m k' → (y.H m).t.get k' = some o' → o'.live = true → ∃ m2 o2, m2 ≤ ops.size ∧ k' < (y.H m2).n ∧ AgK G ops y D m2 k' ∧ (y.H m2).t.get k' = some o2 ∧ o2.live = true ∧ o2.isRo = o'.isRo := by
    intro k' m o' hm hkm h hq hl
    by_cases hkk : k' = k
    · subst hkk
      have := (hck m hm h).2
      rw [hq] at this; simp only [Option.some.injEq] at this; subst this
      exact ⟨i, _, by omega, hki, hag, hu, rfl, rfl⟩
    · exact ⟨m, o', hm, hkm, h.back fun hw => hkk ((hW k').1 hw), hq, hl, rfl⟩
  refine ⟨slot_next l inv ho hds (fun _ _ h => h) (by rw [hv]; exact undef_refl _), (put_size a _ _).1.trans inv.size, (put_size a _ _).2.trans inv.defers, ?_, inv.base, ?_, ?_, ?_, ?_, hos.trans inv.os, htp.trans inv.tape, hout.trans inv.output, Nat.le_trans inv.wsize hsz, ?_, inv.fresh⟩
  · intro k' b' p' s' e
    obtain ⟨q1, q2⟩ := inv.lt k' b' p' s' e
    exact ⟨by omega, q2.imp id fun ⟨j, r1, r2, r3⟩ => ⟨j, r1, .inl r2, r3⟩⟩
  · intro k' b' p' s' m o' hm e hkm h hq
    by_cases hkk : k' = k
    · subst hkk
      obtain ⟨him, hq1⟩ := hck m hm h
      rw [hq] at hq1; simp only [Option.some.injEq] at hq1; subst hq1
      rw [hk] at e; simp only [Option.some.injEq, Prod.mk.injEq] at e
      obtain ⟨rfl, rfl, rfl⟩ := e
      exact hor.mono (cutM_mono (l.mono (by omega) hm) fun _ _ _ h => h)
    · have hag' := h.back fun hw => hkk ((hW k').1 hw)
      by_cases hl : o'.live = true
      · have hne : b' ≠ b := fun e2 => hkk (inv.inj k' k b p' s' p s m i o' _ hm (by omega) (e2 ▸ e) hk hkm hki hag' hag hq hu hl rfl)
        exact (inv.obj k' b' p' s' m o' hm e hkm hag' hq).same (hother b' (inv.lt k' b' p' s' e).1 hne)
      · exact dead_OR hl
  · intro k1 k2 b' p1 s1 p2 s2 m m' o1 o2 hm hm' e1 e2 hk1 hk2 h1 h2 hq1 hq2 hl1 hl2
    obtain ⟨n1, r1, a1, a2, a3, a4, a5, _⟩ := hback k1 m o1 hm hk1 h1 hq1 hl1
    obtain ⟨n2, r2, c1, c2, c3, c4, c5, _⟩ := hback k2 m' o2 hm' hk2 h2 hq2 hl2
    exact inv.inj k1 k2 b' p1 s1 p2 s2 n1 n2 r1 r2 a1 c1 e1 e2 a2 c2 a3 c3 a4 c4 a5 c5
  · intro k' b' p' s' m o' hm e hkm h hq hl
    obtain ⟨n1, r1, a1, a2, a3, a4, a5, a6⟩ := hback k' m o' hm hkm h hq hl
    rw [← a6]
    exact inv.own k' b' p' s' n1 r1 a1 e a2 a3 a4 a5
  · intro j oj k' st hj hd hwj ht
    rcases hd with hd | rfl
    · exact inv.touched j oj k' st hj hd hwj ht
    · rw [ho] at hj; simp only [Option.some.injEq] at hj; subst hj
      exact htc k' st hwj ht
  · intro b' hb' hno
    by_cases hbb : b' = b
    · subst hbb
      exact (not_kept l inv (by omega) hk hki hu rfl rfl hlow1 hb' hno).elim
    · rw [hother b' (by have := inv.wsize; omega) hbb]; exact inv.frame b' hb' hno

theorem inv_barrier (l : Loc G ops y) (inv : Inv B G ops y μ0 w0 a0 D μ a w) {i : Nat} {o : Oper} (ho : ops[i]? = some o) (hnD : ¬ D i) {μ1 : Mu} {v' : Value} {w1 : World} {h' : Hp}
    (hds : ∀ i2 t, i2 < ops.size → D i2 → Ds ops i2 t → Ds ops i t → i2 < i) (hW : ∀ k, Wr G ops y i k) (hlast : ∀ i2 k, i2 < ops.size → D i2 → Wr G ops y i2 k → i2 < i) (hall : ∀ k x, μ k = some x → k < (y.H i).n)
    (g : Good B (cutM μ (y.H i).n) ⟨(y.H i).n, (y.H i).t, (y.H i).n⟩ w μ1 h' w1) (hh : y.H (i + 1) = ⟨h'.n, h'.t, cond (Nat.ble (y.H i).low h'.low) (y.H i).low h'.low⟩)
    (htc : ∀ k st, y.W i = true → touch G (y.E i) o.op = some (st, k) → ∃ x, μ k = some x) (hv : VR μ1 (y.V i) v') :
    Inv B G ops y μ0 w0 a0 (Dn D i) μ1 (a.put o.dst v') w1 := by
  have hi : i < ops.size := (Array.getElem?_eq_some_iff.1 ho).1
  have hn : (y.H (i + 1)).n = h'.n := by rw [hh]
  have ht : ∀ k, (y.H (i + 1)).t.get k = h'.t.get k := fun k => by rw [hh]
  have hlow1 : (y.H ops.size).low ≤ h'.low := Nat.le_trans (l.lows (by omega : i + 1 ≤ ops.size) (Nat.le_refl _)) (by
    rw [hh]
    show cond (Nat.ble (y.H i).low h'.low) (y.H i).low h'.low ≤ h'.low
    cases e : Nat.ble (y.H i).low h'.low
    · exact Nat.le_refl _
    · exact Nat.le_of_ble_eq_true e)
  have hup : ∀ k x, μ k = some x → μ1 k = some x := fun k x e => g.st.le k x (cutM_some.2 ⟨hall k x e, e⟩)
  have hcut : ∀ m, i + 1 ≤ m → m ≤ ops.size → Mu.le μ1 (cutM μ1 (y.H m).n) := fun m h1 h2 k x e => cutM_some.2 ⟨by have := g.hr.dom k x e; have := l.mono h1 h2; omega, e⟩
  have hcon : ∀ k x m, μ1 k = some x → m ≤ ops.size → AgK G ops y (Dn D i) m k → i + 1 ≤ m ∧ (y.H m).t.get k = h'.t.get k := by
    intro k x m e hm h
    have him : i < m := (h i hi (hW k)).1 (.inr rfl)
    refine ⟨him, ?_⟩
    rw [← ht]
    refine l.content (by omega) hm (by rw [hn]; exact g.hr.dom k x e) fun i2 q1 q2 hw2 => ?_
    rcases (h i2 (by omega) hw2).2 q2 with h3 | h3
    · have := hlast i2 k (by omega) h3 hw2; omega
    · omega
  refine ⟨slot_next l inv ho hds hup (hv.mono (hcut _ (Nat.le_refl _) (by omega))), (put_size a _ _).1.trans inv.size, (put_size a _ _).2.trans inv.defers, ?_, ?_, ?_, ?_, ?_, ?_, g.st.os.trans inv.os, g.st.tape.trans inv.tape, g.st.output.trans inv.output, Nat.le_trans inv.wsize g.st.size, ?_, ?_⟩
  · intro k b p s e
    obtain ⟨h1, h2⟩ := g.hr.lt k b p s e
    refine ⟨h2, ?_⟩
    by_cases hk : k < (y.H i).n
    · have e2 : cutM μ (y.H i).n k = some (b, p, s) := by rw [← g.st.dom k hk]; exact e
      exact ((inv.lt k b p s (cutM_some.1 e2).2).2).imp id fun ⟨j, r1, r2, r3⟩ => ⟨j, r1, .inl r2, r3⟩
    · exact .inr ⟨i, hi, .inr rfl, by omega, by rw [hn]; exact h1⟩
  · intro k hk
    have hki : k < (y.H i).n := Nat.lt_of_lt_of_le hk (l.mono (Nat.zero_le i) (by omega))
    rw [← inv.base k hk, g.st.dom k hki]
    simp [cutM, hki]
  · intro k b p s m q hm e hkm h hq
    obtain ⟨him, h2⟩ := hcon k _ m e hm h
    rw [h2] at hq
    exact (g.hr.obj k b p s q e hq).mono (hcut m him hm)
  · intro k k' b p s p' s' m m' q q' hm hm' e e' hkm hkm' h1 h2 hq hq' hl hl'
    rw [(hcon k _ m e hm h1).2] at hq
    rw [(hcon k' _ m' e' hm' h2).2] at hq'
    exact g.hr.inj k k' b p s p' s' q q' e e' hq hq' hl hl'
  · intro k b p s m q hm e hkm h hq hl
    rw [(hcon k _ m e hm h).2] at hq
    exact g.hr.own k b p s q e hq hl
  · intro j oj k' st hj hd hwj htt
    rcases hd with hd | rfl
    · obtain ⟨x, hx⟩ := inv.touched j oj k' st hj hd hwj htt
      exact ⟨x, hup _ x hx⟩
    · rw [ho] at hj; simp only [Option.some.injEq] at hj; subst hj
      obtain ⟨x, hx⟩ := htc k' st hwj htt
      exact ⟨x, hup _ x hx⟩
  · intro b hb hno
    rw [← inv.frame b hb hno]
    refine g.st.frame b (by have := inv.wsize; omega) fun k p s q e1 e2 hl => ?_
    cases hro : q.isRo with
    | true => exact .inl rfl
    | false =>
      right
      rcases Nat.lt_or_ge k h'.low with h3 | h3
      · exact h3
      · obtain ⟨k1, k2⟩ := cutM_some.1 e1
        exact (not_kept l inv (by omega) k2 k1 e2 hl hro (by omega) hb hno).elim
  · intro k b p s hk e
    by_cases hki : k < (y.H i).n
    · have e2 : cutM μ (y.H i).n k = some (b, p, s) := by rw [← g.st.dom k hki]; exact e
      exact inv.fresh k b p s hk (cutM_some.1 e2).2
    · rcases g.st.fresh k b p s (by show (y.H i).n ≤ k; omega) e with h1 | ⟨k0, p0, s0, o0, h1, h2, h3, h4, h5⟩
      · exact .inl (by have := inv.wsize; omega)
      · obtain ⟨r1, r2⟩ := cutM_some.1 h1
        by_cases hk0 : k0 < (y.H 0).n
        · obtain ⟨o1, q1, q2, q3⟩ := l.alives (Nat.zero_le i) (by omega) hk0 h2 h3
          rw [inv.base k0 hk0] at r2
          exact .inr ⟨k0, p0, s0, o1, r2, q1, q2, by rw [q3]; exact h4, by omega⟩
        · exact inv.fresh k0 b p0 s0 (by omega) r2
end
end Cx
end Go.Proofs.YtcibkkpljcablaaGreatDoor
