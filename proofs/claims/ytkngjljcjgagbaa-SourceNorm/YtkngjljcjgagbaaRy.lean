/- A drawn region whose last operation fills a slot that an earlier one reads. -/
import Derived.Test.YtkngjljcjgagbaaRx
namespace Go.Proofs.Ytkngjljcjgagbaa
open Go.RowKit Go.Sort
set_option linter.unusedVariables false
section
variable {P : Program} {ops : Array Oper} {Q : Exit → Act → World → Prop} {V : Nat → Value → World → Prop} {E : Value → World → Prop} {N li lt s : Nat} {start : List Nat} {D : List Deferred} {w1 : World}
/-- The last one waits for all others, and it alone fills its slot. -/
def lateCheck (ops : Array Oper) (li lt : Nat) : Bool :=
  (List.range ops.size).all fun i => decide (i = li) || (match ops[i]?, ops[li]? with
    | some o, some l => !decide (o.dst = some lt) && l.after.any fun e => Region.binds .any e && decide (e.on = i)
    | _, _ => false)
def LateInv (ops : Array Oper) (V : Nat → Value → World → Prop) (E : Value → World → Prop) (start : List Nat) (N li lt : Nat) (D : List Deferred) (w1 : World) (listed : Array Bool) (a : Act) (w : World) : Prop :=
  a.tmps.size = N ∧ a.defers = D ∧ Grw w1 w ∧ (∀ t, (t ≠ lt ∨ listed.getD li false = false) → (start.contains t = true ∨ ∃ (j : Nat) (p : Oper), ops[j]? = some p ∧ p.dst = some t ∧ listed.getD j false = true) → V t (a.tmps.getD t undef) w) ∧ (listed.getD li false = true → E (a.tmps.getD lt undef) w ∧ ∀ i, i < ops.size → listed.getD i false = true)
theorem late_parts (h : lateCheck ops li lt = true) (i : Nat) (o : Oper) (ho : ops[i]? = some o) (hne : i ≠ li) : ∃ l, ops[li]? = some l ∧ o.dst ≠ some lt ∧ ∃ e ∈ l.after, Region.binds .any e = true ∧ e.on = i := by
  have hi : i < ops.size := by
    by_cases hh : i < ops.size
    · exact hh
    · rw [Array.getElem?_eq_none (by omega)] at ho; cases ho
  have h1 := List.all_eq_true.1 h i (List.mem_range.2 hi)
  rw [ho] at h1
  simp only [hne, decide_false, Bool.false_or] at h1
  cases hl : ops[li]? with
  | none => rw [hl] at h1; cases h1
  | some l =>
    rw [hl] at h1
    simp only [Bool.and_eq_true, Bool.not_eq_true', decide_eq_false_iff_not] at h1
    obtain ⟨n, hn, h4⟩ := Array.any_eq_true.1 h1.2
    simp only [Bool.and_eq_true, decide_eq_true_eq] at h4
    exact ⟨l, rfl, h1.1, _, Array.getElem_mem hn, h4.1, h4.2⟩
theorem wpAny_late (hli : li < ops.size) (hlate : lateCheck ops li lt = true) (hst : start.contains lt = true) (hltN : lt < N) (hchk : ∀ i, i < ops.size → regOk ops start N i = true)
    (hV : ∀ t v w w', Grw w w' → V t v w → V t v w')
    (hlast : ∃ o, ops[li]? = some o ∧ o.op = .assign (.tmp s) ∧ o.dst = some lt ∧ o.guard = none ∧ (o.looksAt ops).contains s = true ∧ s ≠ lt) (hE : ∀ v w, V s v w → E v w)
    (hstep : ∀ (i : Nat) (o : Oper), ops[i]? = some o → i ≠ li → ∀ a w, a.tmps.size = N → Grw w1 w → (∀ t ∈ o.looksAt ops, V t (a.tmps.getD t undef) w) → ∀ K : Act → World → Prop,
      (∀ v w', Grw w w' → (∀ t, o.dst = some t → V t v w') → K (a.put o.dst v) w') → if Region.wanted o (yielded ops a.tmps) = true then o.wp P a w K Q else K (a.put o.dst undef) w)
    (hend : ∀ a w, a.tmps.size = N → a.defers = D → Grw w1 w → (∀ t, t ≠ lt → (start.contains t = true ∨ ∃ (j : Nat) (p : Oper), ops[j]? = some p ∧ p.dst = some t) → V t (a.tmps.getD t undef) w) → E (a.tmps.getD lt undef) w → Q .normal a w) :
    ∀ (fuel : Nat) (listed : Array Bool) (a : Act) (w : World), listed.size = ops.size → listed.toList.count false ≤ fuel → LateInv ops V E start N li lt D w1 listed a w → wpAny P .any ops Q fuel listed a w := by
  have fin : ∀ (listed : Array Bool) (a : Act) (w : World), listed.size = ops.size → LateInv ops V E start N li lt D w1 listed a w → Region.ready .any ops listed = [] → Q .normal a w := by
    intro listed a w hs hi hr
    have hall := ready_nil hchk hs hr
    have hl := hall li hli
    rw [getD_in _ (by omega)] at hl
    have hl' : listed.getD li false = true := by rw [getD_in _ (by omega)]; exact hl
    refine hend a w hi.1 hi.2.1 hi.2.2.1 (fun t hne ht => hi.2.2.2.1 t (.inl hne) (ht.imp id ?_)) (hi.2.2.2.2 hl').1
    rintro ⟨j, p, hj, hp⟩
    have hj' : j < ops.size := by
      by_cases hh : j < ops.size
      · exact hh
      · rw [Array.getElem?_eq_none (by omega)] at hj; cases hj
    have := hall j hj'
    rw [getD_in _ (by omega)] at this
    exact ⟨j, p, hj, hp, by rw [getD_in _ (by omega)]; exact this⟩
  intro fuel
  induction fuel with
  | zero =>
    intro listed a w hs hc hi
    have hr : Region.ready .any ops listed = [] := by
      apply List.eq_nil_iff_forall_not_mem.2
      intro i h
      obtain ⟨o, ho, hl, _⟩ := ready_mem h
      have hlt : i < listed.size := by
        by_cases hh : i < listed.size
        · exact hh
        · simp [Array.getD_eq_getD_getElem?, hh] at hl
      rw [getD_in _ hlt] at hl
      have : false ∈ listed.toList := by rw [← hl]; simp
      have := List.count_pos_iff.2 this
      omega
    exact ⟨hr, fin listed a w hs hi hr⟩
  | succ fuel ih =>
    intro listed a w hs hc hi
    refine ⟨fun hr => fin listed a w hs hi hr, fun i h => ?_⟩
    obtain ⟨o, ho, hl, haf⟩ := ready_mem h
    have hi' : i < ops.size := by
      by_cases hh : i < ops.size
      · exact hh
      · rw [Array.getElem?_eq_none (by omega)] at ho; cases ho
    have hk := hchk i hi'
    simp only [regOk, ho, Bool.and_eq_true] at hk
    have hlt : i < listed.size := by omega
    have hli' : listed[i] = false := by rw [← getD_in true hlt]; exact hl
    have hcount : (listed.setIfInBounds i true).toList.count false ≤ fuel := by
      rw [Array.toList_setIfInBounds, List.count_set (by simpa using hlt)]
      have hpos : 0 < listed.toList.count false := List.count_pos_iff.2 (by rw [← hli']; simp)
      have e1 : listed.toList[i]'(by simpa using hlt) = false := by simpa using hli'
      rw [e1]
      simp only [beq_self_eq_true, if_true]
      have e2 : (true == false) = false := rfl
      rw [e2]
      simp only [Bool.false_eq_true, if_false]
      omega
    have hun : listed.getD li false = false := by
      cases hx : listed.getD li false with
      | false => rfl
      | true =>
        have := (hi.2.2.2.2 hx).2 i hi'
        rw [getD_in _ hlt] at this
        rw [this] at hli'
        cases hli'
    have hlook : ∀ t ∈ o.looksAt ops, V t (a.tmps.getD t undef) w := by
      intro t ht
      have h2 := List.all_eq_true.1 hk.1.2 t ht
      simp only [Bool.or_eq_true] at h2
      refine hi.2.2.2.1 t (.inr hun) (h2.imp id fun h3 => ?_)
      obtain ⟨n, hn, h4⟩ := Array.any_eq_true.1 h3
      have he : o.after[n] ∈ o.after := Array.getElem_mem hn
      generalize o.after[n] = e at h4 he
      simp only [Bool.and_eq_true, decide_eq_true_eq] at h4
      have h5 := haf e he h4.1
      obtain ⟨p, hp, hd⟩ := Option.bind_eq_some_iff.1 h4.2
      exact ⟨e.on, p, hp, hd, h5⟩
    have keep : ∀ (w' : World) (v : Value), Grw w w' → ∀ t, o.dst ≠ some t → (start.contains t = true ∨ ∃ (j : Nat) (p : Oper), ops[j]? = some p ∧ p.dst = some t ∧ (listed.setIfInBounds i true).getD j false = true) → V t ((a.put o.dst v).tmps.getD t undef) w' := by
      intro w' v hb t hd ht
      rw [put_other hd]
      refine hV t _ w w' hb (hi.2.2.2.1 t (.inr hun) (ht.imp id ?_))
      rintro ⟨j, p, hj, hp, h7⟩
      have hne : i ≠ j := by
        intro e
        subst e
        rw [ho] at hj
        cases hj
        exact hd hp
      refine ⟨j, p, hj, hp, ?_⟩
      simp only [Array.getD_eq_getD_getElem?] at h7 ⊢
      rwa [Array.getElem?_setIfInBounds_ne hne] at h7
    unfold wpOp
    rw [ho]
    show if _ then _ else _
    by_cases hil : i = li
    · subst hil
      obtain ⟨o', ho', h1, h2, h3, h4, h5⟩ := hlast
      rw [ho] at ho'
      cases ho'
      have hw : Region.wanted o (yielded ops a.tmps) = true := by simp [Region.wanted, h3]
      rw [if_pos hw]
      refine .inl ?_
      unfold Oper.wp execOp
      simp only [h1]
      refine ih _ _ _ (by simpa using hs) hcount ⟨by rw [put_size]; exact hi.1, by rw [put_defers]; exact hi.2.1, hi.2.2.1, fun t hne ht => ?_, fun _ => ⟨?_, fun j hj => ?_⟩⟩
      · rcases hne with hne | hne
        · exact keep w _ (Grw.refl _) t (by rw [h2]; intro e; cases e; exact hne rfl) ht
        · rw [Array.getD_eq_getD_getElem?, Array.getElem?_setIfInBounds_self_of_lt (by omega)] at hne
          cases hne
      · rw [h2, put_self (by rw [hi.1]; exact hltN)]
        exact hE _ _ (hlook s (List.contains_iff_mem.1 h4))
      · by_cases e : j = i
        · subst e
          rw [Array.getD_eq_getD_getElem?, Array.getElem?_setIfInBounds_self_of_lt (by omega)]
          rfl
        · have hoj : ops[j]? = some ops[j] := Array.getElem?_eq_getElem hj
          obtain ⟨l, hl1, _, e', he', hb', hon⟩ := late_parts hlate j _ hoj e
          rw [ho] at hl1
          cases hl1
          have := haf e' he' hb'
          rw [hon] at this
          simp only [Array.getD_eq_getD_getElem?] at this ⊢
          rw [Array.getElem?_setIfInBounds_ne (fun e2 => e e2.symm)]
          exact this
    · obtain ⟨l, hl1, hdl, _⟩ := late_parts hlate i o ho hil
      have key := hstep i o ho hil a w hi.1 hi.2.2.1 hlook (wpAny P .any ops Q fuel (listed.setIfInBounds i true)) (by
        intro v w' hb hv
        refine ih _ _ _ (by simpa using hs) hcount ⟨by rw [put_size]; exact hi.1, by rw [put_defers]; exact hi.2.1, hi.2.2.1.trans hb, fun t _ ht => ?_, fun hx => ?_⟩
        · by_cases hd : o.dst = some t
          · rw [hd, put_self (by
              rw [hi.1]
              have h6 := hk.2
              simp only [hd, decide_eq_true_eq] at h6
              exact h6)]
            exact hv t hd
          · exact keep w' v hb t hd ht
        · rw [Array.getD_eq_getD_getElem?, Array.getElem?_setIfInBounds_ne hil, ← Array.getD_eq_getD_getElem?, hun] at hx
          cases hx)
      split
      · rename_i hw
        rw [if_pos hw] at key
        exact .inl key
      · rename_i hw
        rw [if_neg hw] at key
        exact key
/-- A drawn region, framed, its last operation filling lt out of s. -/
theorem wp_region_late {id : Nat} {a : Act} {w : World} (F : Nat → Value → World → Prop) (z : Value) (ds start : List Nat) (N lt s : Nat) (hm : P.follows .mixedOrders = true) (hpos : 0 < ops.size) (hlate : lateCheck ops (ops.size - 1) lt = true) (hst : start.contains lt = true) (hltN : lt < N) (hchk : regCheck ops start N = true) (hfc : Gw.frameCheck (lt :: ds) start N = true) (hdc : Gw.dstCheck ops ds start = true) (hN : a.tmps.size = N)
    (hlast : ∃ o, ops[ops.size - 1]? = some o ∧ o.op = .assign (.tmp s) ∧ o.dst = some lt ∧ o.guard = none ∧ (o.looksAt ops).contains s = true ∧ s ≠ lt)
    (hF : ∀ t v w w', Grw w w' → F t v w → F t v w') (hss : start.contains s = false) (hz : ∀ v w, F s v w → v = z) (hld : ds.contains lt = false)
    (hstep : ∀ o ∈ ops.toList.dropLast, Gw.StepOk P ops Q (Gw.frV start a.tmps F) N w o)
    (hend : ∀ (xs : List Value) w', Grw w w' → (∀ t, ds.contains t = true → F t (xs.getD t undef) w') → xs.getD lt undef = z → Q .normal { tmps := (mixed (lt :: ds) xs 0 a.tmps.toList).toArray, defers := a.defers } w') : (Code.region id ops true).wp P Q a w := by
  refine wp_region_any hm ?_
  refine wpAny_late (w1 := w) (V := Gw.frV start a.tmps F) (E := fun v _ => v = z) (N := N) (start := start) (D := a.defers) (li := ops.size - 1) (lt := lt) (s := s) (by omega) hlate hst hltN (fun i hi => List.all_eq_true.1 hchk i (List.mem_range.2 hi)) (fun t v w w' hb h => ?_) hlast (fun v w h => ?_) (fun i o ho hne => hstep o ?_) ?_ ops.size _ a _ (by simp) (by simp) ⟨hN, rfl, (Grw.refl _).drew, fun t _ ht => ?_, fun hx => ?_⟩
  · unfold Gw.frV at h ⊢
    split <;> rename_i e <;> rw [e] at h
    · exact h
    · exact hF _ _ _ _ hb h
  · unfold Gw.frV at h
    rw [hss] at h
    exact hz v w h
  · have hi : i < ops.size := by
      by_cases hh : i < ops.size
      · exact hh
      · rw [Array.getElem?_eq_none (by omega)] at ho; cases ho
    rw [List.mem_iff_getElem?]
    refine ⟨i, ?_⟩
    rw [List.getElem?_dropLast, if_pos (by simp; omega)]
    simpa using ho
  · intro b w' hs hd hG hall hEz
    have hfr : ∀ t, (lt :: ds).contains t = false → b.tmps.getD t undef = a.tmps.toList.toArray.getD t undef := by
      intro t ht
      have hne : t ≠ lt := fun e => by subst e; simp at ht
      by_cases hlt : t < N
      · have h1 := List.all_eq_true.1 hfc t (List.mem_range.2 hlt)
        rw [ht, Bool.false_or] at h1
        have h2 := hall t hne (.inl h1)
        unfold Gw.frV at h2
        rw [h1] at h2
        simpa using h2
      · rw [Array.getD_eq_getD_getElem?, Array.getD_eq_getD_getElem?, Array.getElem?_eq_none (by omega), Array.getElem?_eq_none (by simp; omega)]
    obtain ⟨xs, h1, h2⟩ := frame_mixed hfr (by simp; omega)
    have hb : b = { tmps := (mixed (lt :: ds) xs 0 a.tmps.toList).toArray, defers := a.defers } := by
      cases b
      simp only at h1 hd
      rw [h1, hd]
    rw [hb]
    refine hend xs w' hG (fun t ht => ?_) (by rw [h2]; exact hEz)
    have hne : t ≠ lt := fun e => by subst e; rw [hld] at ht; cases ht
    have h3 := List.all_eq_true.1 hdc t (List.contains_iff_mem.1 ht)
    simp only [Bool.and_eq_true, Bool.not_eq_true'] at h3
    obtain ⟨j, hj, h4⟩ := Array.any_eq_true.1 h3.1
    have h5 := hall t hne (.inr ⟨j, ops[j], Array.getElem?_eq_getElem hj, of_decide_eq_true h4⟩)
    unfold Gw.frV at h5
    rw [h3.2] at h5
    rw [h2]
    exact h5
  · rcases ht with ht | ⟨j, p, hj, hp, ht⟩
    · unfold Gw.frV
      rw [ht]
    · have hjs : j < ops.size := by
        by_cases hh : j < ops.size
        · exact hh
        · rw [Array.getElem?_eq_none (by omega)] at hj; cases hj
      simp [Array.getD_eq_getD_getElem?, hjs] at ht
  · simp [Array.getD_eq_getD_getElem?, show ops.size - 1 < ops.size by omega] at hx
end
end Go.Proofs.Ytkngjljcjgagbaa
