/- Closed runs: whole: what the executor answers, the model answers. -/
import Derived.Test.YtfigbldiffjmbaaGreatDoorCxj
namespace Go.Proofs.YtfigbldiffjmbaaGreatDoor
namespace Cx
open Go

section
variable {P : Program} {G B : Nat} {call : FuncId → List Value → Hp → CRes} {round : Nat → List Value → Hp → CRes}

theorem count_set : ∀ (l : List Bool) (i : Nat), l[i]? = some false → (l.set i true).count false + 1 = l.count false
  | [], i, h => by simp at h
  | b :: l, 0, h => by simp at h; subst h; simp
  | b :: l, i + 1, h => by
    have := count_set l i (by simpa using h)
    simp only [List.set_cons_succ, List.count_cons]
    omega
theorem count_zero : ∀ (l : List Bool), l.count false = 0 → ∀ (i : Nat) (b : Bool), l[i]? = some b → b = true
  | [], _, i, b, h => by simp at h
  | c :: l, hc, i, b, h => by
    simp only [List.count_cons] at hc
    cases i with
    | zero => simp at h; subst h; cases c <;> simp_all
    | succ i => exact count_zero l (by omega) i b (by simpa using h)

theorem sd_ok (hf : SF P G B call) (hrd : SR P G B round) : SD P G B call round := by
  intro ops ro' e e' h h' x μ0 a0 w0 hd hrun c he Q hQ
  obtain ⟨rfl, y, y1, y2, _, y4, y5, y6⟩ := way_of ops.toList 0 [] e e' h h' x hrun
  simp only [Array.length_toList, Nat.zero_add] at y4 y5
  have hst : ∀ i o, ops[i]? = some o → StepT P G call round ops y i o := fun i o ho => by
    have := y6 i o (by simpa using ho)
    simpa using this
  have d := drawOk_spec hd
  subst y1; subst y2
  obtain ⟨l, μr, wr, gr⟩ := loc_of hf hrd hst c he
  have fin : ∀ (D : Nat → Prop) (μ : Mu) (a : Act) (w : World), Inv B G ops y μ0 w0 a0 D μ a w → (∀ i, i < ops.size → D i) → Q .normal a w := by
    intro D μ a w inv hall
    have hup : Mu.le μ0 μ := fun k x h1 => by rw [inv.base k (c.hr.dom k x h1)]; exact h1
    have hag : ∀ k, AgK G ops y D ops.size k := fun k i hi _ => ⟨fun _ => hi, fun _ => hall i hi⟩
    have hlt : ∀ k b p s, μ k = some (b, p, s) → k < (y.H ops.size).n := fun k b p s h1 => by
      rcases (inv.lt k b p s h1).2 with h2 | ⟨j, hj, _, _, h3⟩
      · have := l.mono (Nat.zero_le ops.size) (Nat.le_refl _); omega
      · have := l.mono (by omega : j + 1 ≤ ops.size) (Nat.le_refl _); omega
    refine hQ _ _ _ ⟨rfl, μ, ⟨⟨?_, ?_⟩, ?_⟩, ⟨⟨?_, ?_, ?_, ?_⟩, ⟨hup, inv.base, ?_, ?_, ?_, ?_, inv.os, inv.tape, inv.output, inv.wsize, ?_, ?_⟩⟩⟩
    · rw [inv.size, ← y4]; exact (l.consts (Nat.le_refl _)).1.symm
    · intro t v hv
      rw [← y4] at hv
      obtain ⟨v', g1, g2⟩ := inv.slot t v ops.size (Nat.le_refl _) hv fun i hi _ => ⟨fun _ => hi, fun _ => hall i hi⟩
      exact ⟨v', g1, g2.mono (cutM_le _ _)⟩
    · rw [inv.defers, ← y4, (l.consts (Nat.le_refl _)).2]; exact he.mr.mono hup
    · intro k b p s h1; rw [← y5]; exact ⟨hlt k b p s h1, (inv.lt k b p s h1).1⟩
    · intro k b p s o h1 h2; rw [← y5] at h2
      exact (inv.obj k b p s ops.size o (Nat.le_refl _) h1 (hlt k b p s h1) (hag k) h2).mono (cutM_le _ _)
    · intro k k' b p s p' s' o o' h1 h2 h3 h4 l1 l2
      rw [← y5] at h3 h4
      exact inv.inj k k' b p s p' s' ops.size ops.size o o' (Nat.le_refl _) (Nat.le_refl _) h1 h2 (hlt _ _ _ _ h1) (hlt _ _ _ _ h2) (hag k) (hag k') h3 h4 l1 l2
    · intro k b p s o h1 h2 hl; rw [← y5] at h2
      exact inv.own k b p s ops.size o (Nat.le_refl _) h1 (hlt k b p s h1) (hag k) h2 hl
    · rw [← y5]; exact gr.st.n
    · rw [← y5]; exact gr.st.low
    · rw [← y5]; exact gr.st.kept
    · rw [← y5]; exact gr.st.alive
    · rw [← y5]; exact inv.frame
    · rw [← y5]; exact inv.fresh
  have key : ∀ (fuel : Nat) (listed : Array Bool) (μ : Mu) (a : Act) (w : World), listed.size = ops.size → listed.toList.count false = fuel → Inv B G ops y μ0 w0 a0 (fun i => listed.getD i false = true) μ a w →
      (∀ (j : Nat) (o : Oper), ops[j]? = some o → listed.getD j false = true → ∀ e ∈ o.after, Region.binds .any e = true → listed.getD e.on false = true) → wpAnyIn (FW ro') 0 P .any ops Q fuel listed a w := by
    intro fuel
    induction fuel with
    | zero =>
      intro listed μ a w hsz hcnt inv _
      have hall : ∀ i, i < ops.size → listed.getD i false = true := fun i hi => by
        have hi' : i < listed.size := by omega
        have := count_zero listed.toList hcnt i listed[i] (by simp [hi'])
        simp [hi', this]
      refine ⟨?_, fin _ μ a w inv hall⟩
      cases hr : Region.ready .any ops listed with
      | nil => rfl
      | cons i r =>
        have hm : i ∈ Region.ready .any ops listed := by rw [hr]; simp
        obtain ⟨h1, o, ho, _⟩ := mem_ready.1 hm
        have hi := (Array.getElem?_eq_some_iff.1 ho).1
        have h2 := hall i hi
        have hi' : i < listed.size := by omega
        simp [hi'] at h1 h2
        rw [h1] at h2; cases h2
    | succ fuel ih =>
      intro listed μ a w hsz hcnt inv hcl
      refine ⟨fun hnil => fin _ μ a w inv fun i hi => ?_, fun i hm => ?_⟩
      · -- the least that is not done would be ready
        have : ∀ n i, i < n → i < ops.size → listed.getD i false = true := by
          intro n
          induction n with
          | zero => intro i h; omega
          | succ n ihn =>
            intro i hin hi
            by_cases hlt : i < n
            · exact ihn i hlt hi
            · cases hl : listed.getD i false with
              | true => rfl
              | false =>
                exfalso
                have hi' : i < listed.size := by omega
                have ho : ops[i]? = some ops[i] := Array.getElem?_eq_getElem hi
                have hmem : i ∈ Region.ready .any ops listed := mem_ready.2 ⟨by simp [hi'] at hl ⊢; exact hl, _, ho, fun e2 he2 hb2 => by
                  have := d.low i _ ho e2 he2 hb2
                  exact ihn e2.on (by omega) (by omega)⟩
                rw [hnil] at hmem; cases hmem
        exact this (i + 1) i (by omega) hi
      · obtain ⟨h1, o, ho, hpre⟩ := mem_ready.1 hm
        have hi := (Array.getElem?_eq_some_iff.1 ho).1
        have hi' : i < listed.size := by omega
        have hfalse : listed[i] = false := by simpa [hi'] using h1
        refine inv_step hf hrd d l hst c he inv hcl ho (by simp [hi', hfalse]) hpre fun μ' a' w' inv' => ?_
        have hDeq : (fun j => (listed.setIfInBounds i true).getD j false = true) = Dn (fun j => listed.getD j false = true) i := by
          funext j
          apply propext
          unfold Dn
          by_cases hj : j = i
          · subst hj; simp [hi']
          · have : i ≠ j := fun e => hj e.symm
            simp [hj, Array.getElem?_setIfInBounds_ne this]
        refine ih (listed.setIfInBounds i true) μ' a' w' (by simpa using hsz) ?_ (by rw [hDeq]; exact inv') ?_
        · have := count_set listed.toList i (by simp [hi', hfalse])
          simp only [Array.toList_setIfInBounds]
          omega
        · intro j oj hoj hdj e2 he2 hb2
          refine getD_set_true ?_
          by_cases hj : j = i
          · subst hj; rw [ho] at hoj; simp only [Option.some.injEq] at hoj; subst hoj; exact hpre e2 he2 hb2
          · have : i ≠ j := fun e => hj e.symm
            exact hcl j oj hoj (by simpa [Array.getElem?_setIfInBounds_ne this] using hdj) e2 he2 hb2
  refine key ops.size (Array.replicate ops.size false) μ0 a0 w0 (by simp) (by simp) ?_ ?_
  · have hno : ∀ i, ¬ ((Array.replicate ops.size false).getD i false = true) := fun i => by
      by_cases hi : i < ops.size <;> simp [hi]
    have hag0 : ∀ {m k : Nat}, m ≤ ops.size → AgK G ops y (fun i => (Array.replicate ops.size false).getD i false = true) m k → k < (y.H m).n → ∀ b p s, μ0 k = some (b, p, s) → (y.H m).t.get k = (y.H 0).t.get k := by
      intro m k hm hag hk b p s e1
      exact l.content (Nat.zero_le m) hm (c.hr.dom k _ e1) fun i _ q2 hw => hno i ((hag i (by omega) hw).2 q2)
    have hcut : ∀ m, m ≤ ops.size → Mu.le μ0 (cutM μ0 (y.H m).n) := fun m hm k x e1 => cutM_some.2 ⟨by have := c.hr.dom k x e1; have := l.mono (Nat.zero_le m) hm; omega, e1⟩
    refine ⟨?_, he.tr.size, rfl, fun k b p s e1 => ⟨(c.hr.lt k b p s e1).2, .inl (c.hr.lt k b p s e1).1⟩, fun _ _ => rfl, ?_, ?_, ?_, fun i o k st _ h1 => (hno i h1).elim, rfl, rfl, rfl, Nat.le_refl _, fun _ _ _ => rfl, fun k b p s hk e1 => absurd (c.hr.lt k b p s e1).1 (by omega)⟩
    · intro t v j hj hv hag
      have : (y.E j).t.get t = (y.E 0).t.get t := l.slots (Nat.zero_le j) hj fun i _ q2 hd2 => hno i ((hag i (by omega) hd2).2 q2)
      rw [this] at hv
      obtain ⟨v', g1, g2⟩ := he.tr.get t v hv
      exact ⟨v', g1, g2.mono (hcut j hj)⟩
    · intro k b p s m o hm e1 hk hag hq
      rw [hag0 hm hag hk b p s e1] at hq
      exact (c.hr.obj k b p s o e1 hq).mono (hcut m hm)
    · intro k k' b p s p' s' m m' o o' hm hm' e1 e2 hk hk' hag hag' hq hq' hl hl'
      rw [hag0 hm hag hk b p s e1] at hq
      rw [hag0 hm' hag' hk' b p' s' e2] at hq'
      exact c.hr.inj k k' b p s p' s' o o' e1 e2 hq hq' hl hl'
    · intro k b p s m o hm e1 hk hag hq hl
      rw [hag0 hm hag hk b p s e1] at hq
      exact c.hr.own k b p s o e1 hq hl
  · intro j o hj h1
    by_cases hi : j < ops.size <;> simp [hi] at h1

/-- WHAT THE EXECUTOR ANSWERS, THE MODEL ANSWERS. -/
theorem run_ok (hng : ∀ (f : FuncId) (fn : Func), P.funcs[f]? = some fn → fn.body.isSome = true → (fn.name == "runtime.NumGoroutine") = false) (hmix : P.follows .mixedOrders = true) (n : Nat) : SF P G B (callN P G n) :=
  callC_ok hng (exec_ok hng hmix (fun _ _ hf hr => sd_ok hf hr) n)
end
end Cx
end Go.Proofs.YtfigbldiffjmbaaGreatDoor
