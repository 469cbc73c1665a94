/- A region that draws its order, makes variables and fills those that are there, gone over once. -/
import Derived.Test.YtclokcoimdjaeaaGreatDoorStpm
import Derived.Test.YtclokcoimdjaeaaGreatDoorFpm
namespace Go.Proofs.YtclokcoimdjaeaaGreatDoor
open Go.RowKit
/-- Old memory stays, but for the blocks of S. -/
structure BelowBut (S : List Nat) (w w' : World) : Prop where
  os : w'.os = w.os
  tape : w'.tape = w.tape
  output : w'.output = w.output
  size : w.heap.size ≤ w'.heap.size
  block : ∀ k, k < w.heap.size → k ∉ S → w'.heap[k]? = w.heap[k]?
theorem BelowBut.refl (S : List Nat) (w : World) : BelowBut S w w := ⟨rfl, rfl, rfl, Nat.le_refl _, fun _ _ _ => rfl⟩
theorem BelowBut.next {S : List Nat} {w w' w'' : World} (h : BelowBut S w w') (hb : Below w'.heap.size w' w'') : BelowBut S w w'' :=
  ⟨hb.os.trans h.os, hb.tape.trans h.tape, hb.output.trans h.output, Nat.le_trans h.size hb.size, fun k hk hs => (hb.block k (Nat.lt_of_lt_of_le hk h.size)).trans (h.block k hk hs)⟩
theorem BelowBut.of {S : List Nat} {w w' : World} (hb : Below w.heap.size w w') : BelowBut S w w' := (BelowBut.refl S w).next hb
theorem BelowBut.below {S : List Nat} {w w' : World} (h : BelowBut S w w') {B : Nat} (hB : B ≤ w.heap.size) (hS : ∀ k, k ∈ S → B ≤ k) : Below B w w' :=
  ⟨h.os, h.tape, h.output, h.size, fun k hk => h.block k (by omega) (fun hs => by have := hS k hs; omega)⟩
theorem BelowBut.cell {S : List Nat} {w w' : World} (h : BelowBut S w w') {p : Addr} {v : Value} (hc : w.cell? p = some v) (hp : p.block ∉ S) : w'.cell? p = some v := by
  have hlt : p.block < w.heap.size := by
    by_cases hp : p.block < w.heap.size
    · exact hp
    · simp [World.cell?, Array.getElem?_eq_none (Nat.le_of_not_lt hp)] at hc
  exact (World.cell?_of_block (h.block p.block hlt hp)).trans hc
/-- Only block b has changed. -/
structure Chg (b : Nat) (w w' : World) : Prop where
  below : ∀ B, B ≤ b → Below B w w'
  size : w'.heap.size = w.heap.size
  block : ∀ k, k ≠ b → w'.heap[k]? = w.heap[k]?
theorem Chg.set (w : World) (b i : Nat) (u : Value) : Chg b w (w.setCell ⟨b, i, none⟩ u) :=
  ⟨fun B hB => (Below.refl _ _).setCell hB _, by simp [World.setCell], fun _ hk => Below.heap_setCell _ _ _ _ hk⟩
theorem Chg.trans {b : Nat} {w w' w'' : World} (h : Chg b w w') (k : Chg b w' w'') : Chg b w w'' :=
  ⟨fun B hB => (h.below B hB).trans (k.below B hB), k.size.trans h.size, fun n hn => (k.block n hn).trans (h.block n hn)⟩
theorem BelowBut.chg {S : List Nat} {w w' w'' : World} {b : Nat} (h : BelowBut S w w') (hc : Chg b w' w'') (hb : w.heap.size ≤ b ∨ b ∈ S) : BelowBut S w w'' := by
  have h0 := hc.below 0 (Nat.zero_le _)
  refine ⟨h0.os.trans h.os, h0.tape.trans h.tape, h0.output.trans h.output, by rw [hc.size]; exact h.size, fun k hk hs => (hc.block k ?_).trans (h.block k hk hs)⟩
  intro e
  subst e
  rcases hb with hb | hb
  · omega
  · exact hs hb
def bindOk (ops : Array Oper) (start : List Nat) (N i : Nat) : Bool :=
  match ops[i]? with
  | none => false
  | some o =>
    (o.after.all fun e => !Region.binds .any e || decide (e.on < i)) &&
    ((o.looksAt ops).all fun t => start.contains t || o.after.any fun e => Region.binds .any e && decide ((ops[e.on]?).bind (·.dst) = some t)) &&
    (match o.dst with
      | none => true
      | some t => decide (t < N))
/-- The boxes' slots: filled by one operation each, not ahead of the region; no two puts into one. -/
def boxOk (ops : Array Oper) (start A : List Nat) (puts : List (Nat × Nat)) : Bool :=
  (A.all fun s => (!start.contains s || (List.range ops.size).all fun i => !(decide ((ops[i]?).bind (·.dst) = some s))) && (List.range ops.size).all fun i => (List.range ops.size).all fun j => !(decide ((ops[i]?).bind (·.dst) = some s) && decide ((ops[j]?).bind (·.dst) = some s)) || decide (i = j)) &&
  (puts.all fun p => A.contains p.2 && puts.all fun q => (!(decide (p.2 = q.2)) || decide (p.1 = q.1)) && (!(decide (p.1 = q.1)) || decide (p.2 = q.2)))
def boxCheck (ops : Array Oper) (start A : List Nat) (puts : List (Nat × Nat)) (N : Nat) : Bool := (List.range ops.size).all (bindOk ops start N) && boxOk ops start A puts
section
variable {P : Program} {ops : Array Oper} {Q : Exit → Act → World → Prop} {V : Nat → Value → World → Prop} {Bx : World → Nat → Prop} {C : Nat → Nat → World → Prop} {N : Nat} {start A S : List Nat} {puts : List (Nat × Nat)} {D : List Deferred} {T0 : Array Value} {w1 : World}
def Fill (ops : Array Oper) (start : List Nat) (listed : Array Bool) (t : Nat) : Prop := start.contains t = true ∨ ∃ (j : Nat) (p : Oper), ops[j]? = some p ∧ p.dst = some t ∧ listed.getD j false = true
/-- The slots that a region writes. -/
def regDsts (ops : Array Oper) : List Nat := ops.toList.filterMap (·.dst)
theorem regDsts_not {ops : Array Oper} {i t : Nat} {o : Oper} (ho : ops[i]? = some o) (h : (regDsts ops).contains t = false) : o.dst ≠ some t := by
  intro hd
  have : t ∈ regDsts ops := List.mem_filterMap.2 ⟨o, Array.mem_toList_iff.2 (Array.mem_of_getElem? ho), hd⟩
  rw [List.contains_iff_mem.2 this] at h
  cases h
def BoxInv (ops : Array Oper) (V : Nat → Value → World → Prop) (C : Nat → Nat → World → Prop) (start A : List Nat) (puts : List (Nat × Nat)) (S : List Nat) (N : Nat) (D : List Deferred) (T0 : Array Value) (w1 : World) (listed : Array Bool) (a : Act) (w : World) : Prop :=
  a.tmps.size = N ∧ a.defers = D ∧ BelowBut S w1 w ∧ (∀ t, Fill ops start listed t → V t (a.tmps.getD t undef) w) ∧
  (∀ s t, A.contains s = true → A.contains t = true → s ≠ t → Fill ops start listed s → Fill ops start listed t → a.tmps.getD s undef ≠ a.tmps.getD t undef) ∧
  (∀ j s, (j, s) ∈ puts → listed.getD j false = true → Fill ops start listed s ∧ ∀ b, a.tmps.getD s undef = .pointer (some ⟨b, 0, none⟩) → C j b w) ∧
  (∀ t, (regDsts ops).contains t = false → a.tmps.getD t undef = T0.getD t undef)
/-- One operation of the plain kind. -/
def PlainStep (P : Program) (ops : Array Oper) (Q : Exit → Act → World → Prop) (V : Nat → Value → World → Prop) (S : List Nat) (N : Nat) (w : World) (o : Oper) : Prop :=
  ∀ (b : Act) (w' : World), b.tmps.size = N → BelowBut S w w' → (∀ t ∈ o.looksAt ops, V t (b.tmps.getD t undef) w') → ∀ K : Act → World → Prop,
      (∀ v w'', Below w'.heap.size w' w'' → (∀ t, o.dst = some t → V t v w'') → K (b.put o.dst v) w'') → if Region.wanted o (yielded ops b.tmps) = true then o.wp P b w' K Q else K (b.put o.dst undef) w'
/-- One that makes a box. -/
def NewStep (P : Program) (ops : Array Oper) (Q : Exit → Act → World → Prop) (V : Nat → Value → World → Prop) (S : List Nat) (N : Nat) (w : World) (o : Oper) : Prop :=
  ∀ (b : Act) (w' : World), b.tmps.size = N → BelowBut S w w' → (∀ t ∈ o.looksAt ops, V t (b.tmps.getD t undef) w') → ∀ K : Act → World → Prop,
      (∀ v w'' g, v = .pointer (some ⟨g, 0, none⟩) → w'.heap.size ≤ g → Below w'.heap.size w' w'' → (∀ t, o.dst = some t → V t v w'') → K (b.put o.dst v) w'') → if Region.wanted o (yielded ops b.tmps) = true then o.wp P b w' K Q else K (b.put o.dst undef) w'
/-- One that fills a box. -/
def PutStep (P : Program) (ops : Array Oper) (Q : Exit → Act → World → Prop) (V : Nat → Value → World → Prop) (Bx : World → Nat → Prop) (C : Nat → Nat → World → Prop) (S : List Nat) (N : Nat) (w : World) (j s : Nat) (o : Oper) : Prop :=
  ∀ (b : Act) (w' : World), b.tmps.size = N → BelowBut S w w' → (∀ t ∈ o.looksAt ops, V t (b.tmps.getD t undef) w') → ∀ g, b.tmps.getD s undef = .pointer (some ⟨g, 0, none⟩) → Bx w' g → ∀ K : Act → World → Prop,
      (∀ v w'', Chg g w' w'' → Bx w'' g → C j g w'' → K (b.put o.dst v) w'') → if Region.wanted o (yielded ops b.tmps) = true then o.wp P b w' K Q else K (b.put o.dst undef) w'
theorem bready_nil {listed : Array Bool} (hchk : ∀ i, i < ops.size → bindOk ops start N i = true) (hs : listed.size = ops.size) (h : Region.ready .any ops listed = []) : ∀ i, i < ops.size → listed.getD i true = true := by
  intro i
  induction i using Nat.strongRecOn with
  | ind i ih =>
    intro hi
    by_cases hl : listed.getD i true = true
    · exact hl
    · exfalso
      have hn : i ∉ Region.ready .any ops listed := by rw [h]; simp
      apply hn
      unfold Region.ready
      rw [List.mem_filter, List.mem_range]
      have ho : ops[i]? = some ops[i] := Array.getElem?_eq_getElem hi
      have hk := hchk i hi
      simp only [bindOk, ho, Bool.and_eq_true] at hk
      refine ⟨hi, ?_⟩
      rw [ho]
      simp only [Option.map_some, Option.getD_some, Bool.and_eq_true, Bool.not_eq_true']
      refine ⟨by simpa using hl, Array.all_eq_true_iff_forall_mem.2 fun e he => ?_⟩
      have hlt := Array.all_eq_true_iff_forall_mem.1 hk.1.1 e he
      by_cases hb : Region.binds .any e = true
      · simp only [hb, Bool.not_true, Bool.false_or, decide_eq_true_eq] at hlt
        have := ih e.on hlt (by omega)
        have hsz : e.on < listed.size := by omega
        rw [getD_in _ hsz] at this ⊢
        simp [this]
      · simp [hb]
theorem fill_set {listed : Array Bool} {i : Nat} {o : Oper} {t : Nat} (ho : ops[i]? = some o) (hd : o.dst ≠ some t) (h : Fill ops start (listed.setIfInBounds i true) t) : Fill ops start listed t := by
  refine h.imp id ?_
  rintro ⟨j, p, hj, hp, h7⟩
  have hne : i ≠ j := by
    intro e
    subst e
    rw [ho] at hj
    cases hj
    exact hd hp
  refine ⟨j, p, hj, hp, ?_⟩
  simp only [Array.getD_eq_getD_getElem?] at h7 ⊢
  rwa [Array.getElem?_setIfInBounds_ne hne] at h7
theorem fill_more {listed : Array Bool} {i : Nat} {t : Nat} (h : Fill ops start listed t) : Fill ops start (listed.setIfInBounds i true) t := by
  refine h.imp id ?_
  rintro ⟨j, p, hj, hp, h7⟩
  refine ⟨j, p, hj, hp, ?_⟩
  simp only [Array.getD_eq_getD_getElem?] at h7 ⊢
  by_cases e : i = j
  · subst e
    rw [Array.getElem?_setIfInBounds]
    simp only [if_true]
    split
    · rfl
    · rename_i hh; rw [Array.getElem?_eq_none (by omega)] at h7; cases h7
  · rwa [Array.getElem?_setIfInBounds_ne e]
theorem listed_set {listed : Array Bool} {i j : Nat} (h : (listed.setIfInBounds i true).getD j false = true) (hne : i ≠ j) : listed.getD j false = true := by
  simp only [Array.getD_eq_getD_getElem?] at h ⊢
  rwa [Array.getElem?_setIfInBounds_ne hne] at h
theorem dst_lt {i : Nat} {o : Oper} {t : Nat} (hk : bindOk ops start N i = true) (ho : ops[i]? = some o) (hd : o.dst = some t) : t < N := by
  simp only [bindOk, ho, Bool.and_eq_true] at hk
  have := hk.2
  simpa [hd] using this
theorem wpAny_boxes (hchk : ∀ i, i < ops.size → bindOk ops start N i = true) (hbox : boxOk ops start A puts = true)
    (hV : ∀ t v w w', Below w.heap.size w w' → V t v w → V t v w')
    (hV2 : ∀ t v w w' b, Chg b w w' → Bx w b → Bx w' b → V t v w → V t v w')
    (hA : ∀ s v w, A.contains s = true → V s v w → ∃ b, v = .pointer (some ⟨b, 0, none⟩) ∧ Bx w b ∧ (w1.heap.size ≤ b ∨ b ∈ S) ∧ b < w.heap.size)
    (hC : ∀ j b w w', Below w.heap.size w w' → b < w.heap.size → C j b w → C j b w')
    (hC2 : ∀ j b b' w w', Chg b' w w' → Bx w b' → Bx w' b' → b ≠ b' → C j b w → C j b w')
    (hstep : ∀ (i : Nat) (o : Oper), ops[i]? = some o → (PlainStep P ops Q V S N w1 o ∧ (∀ s, o.dst = some s → A.contains s = false) ∧ ∀ s, (i, s) ∉ puts) ∨ (NewStep P ops Q V S N w1 o ∧ (∃ s, o.dst = some s ∧ A.contains s = true) ∧ ∀ s, (i, s) ∉ puts) ∨ (∃ s, PutStep P ops Q V Bx C S N w1 i s o ∧ (i, s) ∈ puts ∧ o.dst = none ∧ (o.looksAt ops).contains s = true))
    (hend : ∀ a w, a.tmps.size = N → a.defers = D → BelowBut S w1 w → (∀ t, (start.contains t = true ∨ ∃ (j : Nat) (p : Oper), ops[j]? = some p ∧ p.dst = some t) → V t (a.tmps.getD t undef) w) → (∀ s t, A.contains s = true → A.contains t = true → s ≠ t → (start.contains s = true ∨ ∃ (j : Nat) (p : Oper), ops[j]? = some p ∧ p.dst = some s) → (start.contains t = true ∨ ∃ (j : Nat) (p : Oper), ops[j]? = some p ∧ p.dst = some t) → a.tmps.getD s undef ≠ a.tmps.getD t undef) → (∀ j s, (j, s) ∈ puts → j < ops.size → ∀ b, a.tmps.getD s undef = .pointer (some ⟨b, 0, none⟩) → C j b w) → (∀ t, (regDsts ops).contains t = false → a.tmps.getD t undef = T0.getD t undef) → Q .normal a w) :
    ∀ (fuel : Nat) (listed : Array Bool) (a : Act) (w : World), listed.size = ops.size → listed.toList.count false ≤ fuel → BoxInv ops V C start A puts S N D T0 w1 listed a w → wpAny P .any ops Q fuel listed a w := by
  simp only [boxOk, Bool.and_eq_true] at hbox
  have hAs : ∀ s, A.contains s = true → ∀ (i j : Nat) (o p : Oper), ops[i]? = some o → ops[j]? = some p → o.dst = some s → p.dst = some s → i = j := by
    intro s hs i j o p hi hj ho hp
    have h1 := List.all_eq_true.1 hbox.1 s (List.contains_iff_mem.1 hs)
    simp only [Bool.and_eq_true] at h1
    have li : i < ops.size := by
      by_cases hh : i < ops.size
      · exact hh
      · rw [Array.getElem?_eq_none (by omega)] at hi; cases hi
    have lj : j < ops.size := by
      by_cases hh : j < ops.size
      · exact hh
      · rw [Array.getElem?_eq_none (by omega)] at hj; cases hj
    have h2 := List.all_eq_true.1 (List.all_eq_true.1 h1.2 i (List.mem_range.2 li)) j (List.mem_range.2 lj)
    rw [hi, hj] at h2
    simpa [ho, hp] using h2
  have hAst : ∀ s, A.contains s = true → ∀ (i : Nat) (o : Oper), ops[i]? = some o → o.dst = some s → start.contains s = false := by
    intro s hs i o hi ho
    have h1 := List.all_eq_true.1 hbox.1 s (List.contains_iff_mem.1 hs)
    simp only [Bool.and_eq_true] at h1
    have li : i < ops.size := by
      by_cases hh : i < ops.size
      · exact hh
      · rw [Array.getElem?_eq_none (by omega)] at hi; cases hi
    by_cases hc : start.contains s = true
    · exfalso
      have h2 := h1.1
      rw [hc] at h2
      simp only [Bool.not_true, Bool.false_or] at h2
      have h3 := List.all_eq_true.1 h2 i (List.mem_range.2 li)
      rw [hi] at h3
      simp [ho] at h3
    · simpa using hc
  have hPA : ∀ j s, (j, s) ∈ puts → A.contains s = true := by
    intro j s h
    have h1 := List.all_eq_true.1 hbox.2 (j, s) h
    simp only [Bool.and_eq_true] at h1
    exact h1.1
  have hPu : ∀ j k s, (j, s) ∈ puts → (k, s) ∈ puts → j = k := by
    intro j k s h h'
    have h1 := List.all_eq_true.1 hbox.2 (j, s) h
    simp only [Bool.and_eq_true] at h1
    have h2 := List.all_eq_true.1 h1.2 (k, s) h'
    simp only [Bool.and_eq_true] at h2
    simpa using h2.1
  have hPs : ∀ j s t, (j, s) ∈ puts → (j, t) ∈ puts → s = t := by
    intro j s t h h'
    have h1 := List.all_eq_true.1 hbox.2 (j, s) h
    simp only [Bool.and_eq_true] at h1
    have h2 := List.all_eq_true.1 h1.2 (j, t) h'
    simp only [Bool.and_eq_true] at h2
    simpa using h2.2
  have fin : ∀ (listed : Array Bool) (a : Act) (w : World), listed.size = ops.size → BoxInv ops V C start A puts S N D T0 w1 listed a w → Region.ready .any ops listed = [] → Q .normal a w := by
    intro listed a w hs hi hr
    have hall := bready_nil hchk hs hr
    have hF : ∀ t, (∃ (j : Nat) (p : Oper), ops[j]? = some p ∧ p.dst = some t) → Fill ops start listed t := by
      rintro t ⟨j, p, hj, hp⟩
      have hj' : j < ops.size := by
        by_cases hh : j < ops.size
        · exact hh
        · rw [Array.getElem?_eq_none (by omega)] at hj; cases hj
      have := hall j hj'
      rw [getD_in _ (by omega)] at this
      exact .inr ⟨j, p, hj, hp, by rw [getD_in _ (by omega)]; exact this⟩
    refine hend a w hi.1 hi.2.1 hi.2.2.1 (fun t ht => hi.2.2.2.1 t (ht.elim .inl (fun h => hF t h))) (fun s t h1 h2 h3 h4 h5 => hi.2.2.2.2.1 s t h1 h2 h3 (h4.elim .inl (hF s)) (h5.elim .inl (hF t))) (fun j s hp hj b hb => (hi.2.2.2.2.2.1 j s hp ?_).2 b hb) hi.2.2.2.2.2.2
    have := hall j hj
    rw [getD_in _ (by omega)] at this ⊢
    exact this
  intro fuel
  induction fuel with
  | zero =>
    intro listed a w hs hc hi
    have hr : Region.ready .any ops listed = [] := by
      apply List.eq_nil_iff_forall_not_mem.2
      intro i h
      obtain ⟨o, ho, hl, _⟩ := ready_mem h
      have hlt : i < listed.size := by
        by_cases hh : i < listed.size
        · exact hh
        · simp [Array.getD_eq_getD_getElem?, hh] at hl
      rw [getD_in _ hlt] at hl
      have : false ∈ listed.toList := by rw [← hl]; simp
      have := List.count_pos_iff.2 this
      omega
    exact ⟨hr, fin listed a w hs hi hr⟩
  | succ fuel ih =>
    intro listed a w hs hc hi
    refine ⟨fun hr => fin listed a w hs hi hr, fun i h => ?_⟩
    obtain ⟨o, ho, hl, haf⟩ := ready_mem h
    have hi' : i < ops.size := by
      by_cases hh : i < ops.size
      · exact hh
      · rw [Array.getElem?_eq_none (by omega)] at ho; cases ho
    have hk0 := hchk i hi'
    have hk := hk0
    simp only [bindOk, ho, Bool.and_eq_true] at hk
    have hlt : i < listed.size := by omega
    have hli : listed[i] = false := by rw [← getD_in true hlt]; exact hl
    have hlook : ∀ t ∈ o.looksAt ops, Fill ops start listed t := by
      intro t ht
      have h2 := List.all_eq_true.1 hk.1.2 t ht
      simp only [Bool.or_eq_true] at h2
      refine h2.imp id fun h3 => ?_
      obtain ⟨n, hn, h4⟩ := Array.any_eq_true.1 h3
      have he : o.after[n] ∈ o.after := Array.getElem_mem hn
      generalize o.after[n] = e at h4 he
      simp only [Bool.and_eq_true, decide_eq_true_eq] at h4
      have h5 := haf e he h4.1
      obtain ⟨p, hp, hd⟩ := Option.bind_eq_some_iff.1 h4.2
      exact ⟨e.on, p, hp, hd, h5⟩
    have hlookV : ∀ t ∈ o.looksAt ops, V t (a.tmps.getD t undef) w := fun t ht => hi.2.2.2.1 t (hlook t ht)
    have hcount : (listed.setIfInBounds i true).toList.count false ≤ fuel := by
      rw [Array.toList_setIfInBounds, List.count_set (by simpa using hlt)]
      have hpos : 0 < listed.toList.count false := List.count_pos_iff.2 (by rw [← hli]; simp)
      have e1 : listed.toList[i]'(by simpa using hlt) = false := by simpa using hli
      rw [e1]
      simp only [beq_self_eq_true, if_true]
      have e2 : (true == false) = false := rfl
      rw [e2]
      simp only [Bool.false_eq_true, if_false]
      omega
    have hnofill : ∀ s, A.contains s = true → o.dst = some s → ¬ Fill ops start listed s := by
      rintro s hs' hd (h1 | ⟨j, p, hj, hp, h7⟩)
      · rw [hAst s hs' i o ho hd] at h1; cases h1
      · have := hAs s hs' i j o p ho hj hd hp
        subst this
        rw [getD_in _ hlt, hli] at h7
        cases h7
    -- the invariant behind an operation with a value
    have hgo : ∀ v w', Below w.heap.size w w' → (∀ t, o.dst = some t → V t v w') → (∀ s, (i, s) ∉ puts) → (∀ s, A.contains s = true → o.dst = some s → ∃ g, v = .pointer (some ⟨g, 0, none⟩) ∧ w.heap.size ≤ g) → wpAny P .any ops Q fuel (listed.setIfInBounds i true) (a.put o.dst v) w' := by
      intro v w' hb hv hnp hnew
      refine ih _ _ _ (by simpa using hs) hcount ⟨by rw [put_size]; exact hi.1, by rw [put_defers]; exact hi.2.1, hi.2.2.1.next hb, fun t ht => ?_, fun s t h1 h2 h3 h4 h5 => ?_, fun j s hp hj => ?_, fun t ht => by rw [put_other (regDsts_not ho ht)]; exact hi.2.2.2.2.2.2 t ht⟩
      · by_cases hd : o.dst = some t
        · rw [hd, put_self (by rw [hi.1]; exact dst_lt hk0 ho hd)]
          exact hv t hd
        · rw [put_other hd]
          exact hV t _ w w' hb (hi.2.2.2.1 t (fill_set ho hd ht))
      · by_cases hds : o.dst = some s
        · have hdt : o.dst ≠ some t := by rw [hds]; intro e; cases e; exact h3 rfl
          have hft := fill_set ho hdt h5
          obtain ⟨b, hb1, hb2, hb3, hb4⟩ := hA t _ w h2 (hi.2.2.2.1 t hft)
          obtain ⟨g, hg1, hg2⟩ := hnew s h1 hds
          rw [put_other hdt, hb1, hds, put_self (by rw [hi.1]; exact dst_lt hk0 ho hds), hg1]
          intro e
          simp at e
        · by_cases hdt : o.dst = some t
          · have hfs := fill_set ho hds h4
            obtain ⟨b, hb1, hb2, hb3, hb4⟩ := hA s _ w h1 (hi.2.2.2.1 s hfs)
            obtain ⟨g, hg1, hg2⟩ := hnew t h2 hdt
            rw [put_other hds, hb1, hdt, put_self (by rw [hi.1]; exact dst_lt hk0 ho hdt), hg1]
            intro e
            simp at e
          · rw [put_other hds, put_other hdt]
            exact hi.2.2.2.2.1 s t h1 h2 h3 (fill_set ho hds h4) (fill_set ho hdt h5)
      · have hij : i ≠ j := by intro e; subst e; exact hnp s hp
        obtain ⟨hf, hc'⟩ := hi.2.2.2.2.2.1 j s hp (listed_set hj hij)
        have hds : o.dst ≠ some s := fun hd => hnofill s (hPA j s hp) hd hf
        refine ⟨fill_more hf, fun b hb' => ?_⟩
        rw [put_other hds] at hb'
        obtain ⟨b2, q1, q2, q3, q4⟩ := hA s _ w (hPA j s hp) (hi.2.2.2.1 s hf)
        have : b2 = b := by rw [q1] at hb'; simpa using hb'
        subst this
        exact hC j b2 w w' hb q4 (hc' b2 hb')
    have key : if Region.wanted o (yielded ops a.tmps) = true then o.wp P a w (wpAny P .any ops Q fuel (listed.setIfInBounds i true)) Q else wpAny P .any ops Q fuel (listed.setIfInBounds i true) (a.put o.dst undef) w := by
      rcases hstep i o ho with ⟨hp, hn, hq⟩ | ⟨hp, ⟨s0, hs1, hs2⟩, hq⟩ | ⟨s, hp, hq, hd, hlk⟩
      · exact hp a w hi.1 hi.2.2.1 hlookV _ fun v w' hb hv => hgo v w' hb hv hq fun s h1 h2 => by rw [hn s h2] at h1; cases h1
      · exact hp a w hi.1 hi.2.2.1 hlookV _ fun v w' g hg1 hg2 hb hv => hgo v w' hb hv hq fun s h1 h2 => ⟨g, hg1, hg2⟩
      · have hsA := hPA i s hq
        have hsm : s ∈ o.looksAt ops := List.contains_iff_mem.1 hlk
        obtain ⟨g, hg1, hg2, hg3, hg4⟩ := hA s _ w hsA (hlookV s hsm)
        refine hp a w hi.1 hi.2.2.1 hlookV g hg1 hg2 _ fun v w' hch hbx hcc => ?_
        have hne : ∀ t, o.dst ≠ some t := fun t h => by rw [hd] at h; cases h
        refine ih _ _ _ (by simpa using hs) hcount ⟨by rw [put_size]; exact hi.1, by rw [put_defers]; exact hi.2.1, hi.2.2.1.chg hch hg3, fun t ht => ?_, fun s t h1 h2 h3 h4 h5 => ?_, fun j s' hp' hj => ?_, fun t ht => by rw [put_other (regDsts_not ho ht)]; exact hi.2.2.2.2.2.2 t ht⟩
        · rw [put_other (hne t)]
          exact hV2 t _ w w' g hch hg2 hbx (hi.2.2.2.1 t (fill_set ho (hne t) ht))
        · rw [put_other (hne _), put_other (hne _)]
          exact hi.2.2.2.2.1 s t h1 h2 h3 (fill_set ho (hne _) h4) (fill_set ho (hne _) h5)
        · by_cases hij : i = j
          · subst hij
            have hss : s' = s := by
              by_cases e : s' = s
              · exact e
              · exfalso
                exact absurd hp' (by
                  intro hp''
                  exact e (hPs i s' s hp'' hq))
            subst hss
            refine ⟨fill_more (hlook s' hsm), fun b hb' => ?_⟩
            rw [put_other (hne _), hg1] at hb'
            have : g = b := by simpa using hb'
            subst this
            exact hcc
          · obtain ⟨hf, hc'⟩ := hi.2.2.2.2.2.1 j s' hp' (listed_set hj hij)
            refine ⟨fill_more hf, fun b hb' => ?_⟩
            rw [put_other (hne _)] at hb'
            have hss : s' ≠ s := fun e => by subst e; exact hij (hPu i j s' hq hp')
            have hdis := hi.2.2.2.2.1 s' s (hPA j s' hp') hsA hss hf (hlook s hsm)
            rw [hb', hg1] at hdis
            exact hC2 j b g w w' hch hg2 hbx (fun e => hdis (by rw [e])) (hc' b hb')
    unfold wpOp
    rw [ho]
    show if _ then _ else _
    split
    · rename_i hw
      rw [if_pos hw] at key
      exact .inl key
    · rename_i hw
      rw [if_neg hw] at key
      exact key
/-- A drawn region that makes variables, by what its slots hold. -/
theorem wp_region_boxes {id : Nat} {a : Act} {w : World} (V : Nat → Value → World → Prop) (Bx : World → Nat → Prop) (C : Nat → Nat → World → Prop) (start A S : List Nat) (puts : List (Nat × Nat)) (N : Nat) (hm : P.follows .mixedOrders = true) (hchk : boxCheck ops start A puts N = true) (hN : a.tmps.size = N)
    (hV : ∀ t v w w', Below w.heap.size w w' → V t v w → V t v w')
    (hV2 : ∀ t v w w' b, Chg b w w' → Bx w b → Bx w' b → V t v w → V t v w')
    (hA : ∀ s v w', A.contains s = true → V s v w' → ∃ b, v = .pointer (some ⟨b, 0, none⟩) ∧ Bx w' b ∧ (w.heap.size ≤ b ∨ b ∈ S) ∧ b < w'.heap.size)
    (hC : ∀ j b w w', Below w.heap.size w w' → b < w.heap.size → C j b w → C j b w')
    (hC2 : ∀ j b b' w w', Chg b' w w' → Bx w b' → Bx w' b' → b ≠ b' → C j b w → C j b w')
    (hstart : ∀ t ∈ start, V t (a.tmps.getD t undef) w.drew)
    (hdis0 : ∀ s t, A.contains s = true → A.contains t = true → s ≠ t → start.contains s = true → start.contains t = true → a.tmps.getD s undef ≠ a.tmps.getD t undef)
    (hstep : ∀ (i : Nat) (o : Oper), ops[i]? = some o → (PlainStep P ops Q V S N w o ∧ (∀ s, o.dst = some s → A.contains s = false) ∧ ∀ s, (i, s) ∉ puts) ∨ (NewStep P ops Q V S N w o ∧ (∃ s, o.dst = some s ∧ A.contains s = true) ∧ ∀ s, (i, s) ∉ puts) ∨ (∃ s, PutStep P ops Q V Bx C S N w i s o ∧ (i, s) ∈ puts ∧ o.dst = none ∧ (o.looksAt ops).contains s = true))
    (hend : ∀ b w', b.tmps.size = N → b.defers = a.defers → BelowBut S w w' → (∀ t, (start.contains t = true ∨ ∃ (j : Nat) (p : Oper), ops[j]? = some p ∧ p.dst = some t) → V t (b.tmps.getD t undef) w') → (∀ s t, A.contains s = true → A.contains t = true → s ≠ t → (start.contains s = true ∨ ∃ (j : Nat) (p : Oper), ops[j]? = some p ∧ p.dst = some s) → (start.contains t = true ∨ ∃ (j : Nat) (p : Oper), ops[j]? = some p ∧ p.dst = some t) → b.tmps.getD s undef ≠ b.tmps.getD t undef) → (∀ j s, (j, s) ∈ puts → j < ops.size → ∀ g, b.tmps.getD s undef = .pointer (some ⟨g, 0, none⟩) → C j g w') → (∀ t, (regDsts ops).contains t = false → b.tmps.getD t undef = a.tmps.getD t undef) → Q .normal b w') : (Code.region id ops true).wp P Q a w := by
  simp only [boxCheck, Bool.and_eq_true] at hchk
  refine wp_region_any hm ?_
  have hnone : ∀ t, Fill ops start (Array.replicate ops.size false) t → start.contains t = true := by
    rintro t (h | ⟨j, p, hj, hp, ht⟩)
    · exact h
    · have hjs : j < ops.size := by
        by_cases hh : j < ops.size
        · exact hh
        · rw [Array.getElem?_eq_none (by omega)] at hj; cases hj
      simp [Array.getD_eq_getD_getElem?, hjs] at ht
  refine wpAny_boxes (w1 := w) (V := V) (Bx := Bx) (C := C) (N := N) (start := start) (A := A) (S := S) (puts := puts) (D := a.defers) (T0 := a.tmps) (fun i hi => List.all_eq_true.1 hchk.1 i (List.mem_range.2 hi)) hchk.2 hV hV2 hA hC hC2 hstep hend ops.size _ a _ (by simp) (by simp) ⟨hN, rfl, BelowBut.of ((Below.refl _ _).drew), fun t ht => hstart t (List.contains_iff_mem.1 (hnone t ht)), fun s t h1 h2 h3 h4 h5 => ?_, fun j s hp hj => ?_, fun _ _ => rfl⟩
  · exact hdis0 s t h1 h2 h3 (hnone s h4) (hnone t h5)
  · exfalso
    by_cases hjs : j < ops.size
    · simp [Array.getD_eq_getD_getElem?, hjs] at hj
    · simp [Array.getD_eq_getD_getElem?, hjs] at hj
/-- The steps of a list of operations, by their places. -/
def StepAt (P : Program) (ops : Array Oper) (Q : Exit → Act → World → Prop) (V : Nat → Value → World → Prop) (Bx : World → Nat → Prop) (C : Nat → Nat → World → Prop) (A S : List Nat) (puts : List (Nat × Nat)) (N : Nat) (w : World) (i : Nat) (o : Oper) : Prop :=
  (PlainStep P ops Q V S N w o ∧ (∀ s, o.dst = some s → A.contains s = false) ∧ ∀ s, (i, s) ∉ puts) ∨ (NewStep P ops Q V S N w o ∧ (∃ s, o.dst = some s ∧ A.contains s = true) ∧ ∀ s, (i, s) ∉ puts) ∨ (∃ s, PutStep P ops Q V Bx C S N w i s o ∧ (i, s) ∈ puts ∧ o.dst = none ∧ (o.looksAt ops).contains s = true)
def StepsFrom (P : Program) (ops : Array Oper) (Q : Exit → Act → World → Prop) (V : Nat → Value → World → Prop) (Bx : World → Nat → Prop) (C : Nat → Nat → World → Prop) (A S : List Nat) (puts : List (Nat × Nat)) (N : Nat) (w : World) : Nat → List Oper → Prop
  | _, [] => True
  | i, o :: l => StepAt P ops Q V Bx C A S puts N w i o ∧ StepsFrom P ops Q V Bx C A S puts N w (i + 1) l
theorem StepsFrom.at {w : World} : ∀ {l : List Oper} {k : Nat}, StepsFrom P ops Q V Bx C A S puts N w k l → ∀ (i : Nat) (o : Oper), l[i]? = some o → StepAt P ops Q V Bx C A S puts N w (k + i) o
  | [], _, _, i, o, h => by simp at h
  | p :: l, k, hs, 0, o, h => by simp at h; subst h; exact hs.1
  | p :: l, k, hs, i + 1, o, h => by
    have := StepsFrom.at hs.2 i o (by simpa using h)
    rwa [show k + 1 + i = k + (i + 1) from by omega] at this
theorem StepsFrom.all {w : World} (h : StepsFrom P ops Q V Bx C A S puts N w 0 ops.toList) (i : Nat) (o : Oper) (ho : ops[i]? = some o) : StepAt P ops Q V Bx C A S puts N w i o := by
  have := h.at i o (by simpa using ho)
  rwa [Nat.zero_add] at this
theorem plain_at {w : World} {i : Nat} {o : Oper} (h : PlainStep P ops Q V S N w o) (hd : ∀ s, o.dst = some s → A.contains s = false) (hp : (puts.any fun p => decide (p.1 = i)) = false) : StepAt P ops Q V Bx C A S puts N w i o :=
  .inl ⟨h, hd, fun s hs => by
    have := List.any_eq_false.1 hp (i, s) hs
    simp at this⟩
theorem put_at {w : World} {i s : Nat} {o : Oper} (h : PutStep P ops Q V Bx C S N w i s o) (hp : puts.contains (i, s) = true) (hd : o.dst = none) (hl : (o.looksAt ops).contains s = true) : StepAt P ops Q V Bx C A S puts N w i o :=
  .inr (.inr ⟨s, h, List.contains_iff_mem.1 hp, hd, hl⟩)
/-- A frame whose slots, those of ds apart, are those of a list. -/
def mixed (ds : List Nat) (xs : List Value) : Nat → List Value → List Value
  | _, [] => []
  | i, x :: l => (if ds.contains i then xs.getD i undef else x) :: mixed ds xs (i + 1) l
end
end Go.Proofs.YtclokcoimdjaeaaGreatDoor
namespace Go.Proofs.YtclokcoimdjaeaaGreatDoor
open Go.RowKit
/-- A box of a number; one of a fraction. -/
def Box2 (w : World) (b : Nat) : Prop := ∃ m a l c T, w.heap[b]? = some (.cells #[.bool m, .slice a l c] T (0, 0)) ∧ T ≠ 139
def Box4 (w : World) (b : Nat) : Prop := ∃ m a l c m' a' l' c' T, w.heap[b]? = some (.cells #[.bool m, .slice a l c, .bool m', .slice a' l' c'] T (0, 0)) ∧ T ≠ 139
def Bxx (w : World) (b : Nat) : Prop := Box2 w b ∨ Box4 w b
section
variable {w w' : World} {b g : Nat}
theorem Box2.noint (h : Box2 w b) : NoInt w b := by
  obtain ⟨m, a, l, c, T, h, hT⟩ := h
  exact ⟨_, T, _, h, hT, two_notInt (notInt_bool _) (notInt_slice _ _ _)⟩
theorem Box4.noint (h : Box4 w b) : NoInt w b := by
  obtain ⟨m, a, l, c, m', a', l', c', T, h, hT⟩ := h
  exact ⟨_, T, _, h, hT, four_notInt (notInt_bool _) (notInt_slice _ _ _) (notInt_bool _) (notInt_slice _ _ _)⟩
theorem Bxx.noint (h : Bxx w b) : NoInt w b := h.elim Box2.noint Box4.noint
theorem Bxx.lt (h : Bxx w b) : b < w.heap.size := h.noint.lt
theorem Box2.same (h : Box2 w b) (e : w'.heap[b]? = w.heap[b]?) : Box2 w' b := by
  obtain ⟨m, a, l, c, T, h, hT⟩ := h
  exact ⟨m, a, l, c, T, e.trans h, hT⟩
theorem Box4.same (h : Box4 w b) (e : w'.heap[b]? = w.heap[b]?) : Box4 w' b := by
  obtain ⟨m, a, l, c, m', a', l', c', T, h, hT⟩ := h
  exact ⟨m, a, l, c, m', a', l', c', T, e.trans h, hT⟩
theorem Box2.next (h : Box2 w b) (hb : Below w.heap.size w w') : Box2 w' b := h.same (hb.block b h.noint.lt)
theorem Box4.next (h : Box4 w b) (hb : Below w.heap.size w w') : Box4 w' b := h.same (hb.block b h.noint.lt)
theorem Box2.cells (h : Box2 w b) : ∃ m a l c, w.cell? ⟨b, 0, none⟩ = some (.bool m) ∧ w.cell? ⟨b, 1, none⟩ = some (.slice a l c) ∧ (∀ o, w.frozen? ⟨b, o, none⟩ = false) := by
  obtain ⟨m, a, l, c, T, h, _⟩ := h
  exact ⟨m, a, l, c, by simp [World.cell?, h], by simp [World.cell?, h], fun o => by simp [World.frozen?, h]⟩
theorem Box4.cells (h : Box4 w b) : ∃ m a l c m' a' l' c', w.cell? ⟨b, 0, none⟩ = some (.bool m) ∧ w.cell? ⟨b, 1, none⟩ = some (.slice a l c) ∧ w.cell? ⟨b, 2, none⟩ = some (.bool m') ∧ w.cell? ⟨b, 3, none⟩ = some (.slice a' l' c') ∧ (∀ o, w.frozen? ⟨b, o, none⟩ = false) := by
  obtain ⟨m, a, l, c, m', a', l', c', T, h, _⟩ := h
  exact ⟨m, a, l, c, m', a', l', c', by simp [World.cell?, h], by simp [World.cell?, h], by simp [World.cell?, h], by simp [World.cell?, h], fun o => by simp [World.frozen?, h]⟩
theorem Box2.new (w : World) (m : Bool) (a : Option Addr) (l c : Nat) (T : TypeId) (hT : T ≠ 139) : Box2 (w.alloc (.cells #[.bool m, .slice a l c] T)) w.heap.size :=
  ⟨m, a, l, c, T, by show (w.heap.push _)[w.heap.size]? = _; simp, hT⟩
theorem Box2.put (h : Box2 w b) (m' : Bool) (a' : Option Addr) (l' c' : Nat) : Box2 ((w.setCell ⟨b, 0, none⟩ (.bool m')).setCell ⟨b, 1, none⟩ (.slice a' l' c')) b := by
  obtain ⟨m, a, l, c, T, h, hT⟩ := h
  exact ⟨m', a', l', c', T, by simp [World.setCell, Array.getElem?_modify, h], hT⟩
theorem Box4.put (h : Box4 w b) (m1 : Bool) (a1 : Option Addr) (l1 c1 : Nat) (m2 : Bool) (a2 : Option Addr) (l2 c2 : Nat) : Box4 ((((w.setCell ⟨b, 0, none⟩ (.bool m1)).setCell ⟨b, 1, none⟩ (.slice a1 l1 c1)).setCell ⟨b, 2, none⟩ (.bool m2)).setCell ⟨b, 3, none⟩ (.slice a2 l2 c2)) b := by
  obtain ⟨m, a, l, c, m', a', l', c', T, h, hT⟩ := h
  exact ⟨m1, a1, l1, c1, m2, a2, l2, c2, T, by simp [World.setCell, Array.getElem?_modify, h], hT⟩
theorem Row.chg {k : IntKind} {B : Int} {a : Option Addr} {cap : Nat} {ds : List Int} (h : Row w k B a cap ds) (hc : Chg b w w') (hb : NoInt w b) : Row w' k B a cap ds := by
  refine ⟨h.le, h.max, h.nil, fun x hx i hi => ?_, h.words⟩
  subst hx
  have hne := hb.apart h (by intro e; subst e; simp at hi)
  rw [← h.cell x rfl i hi]
  exact World.cell?_of_block (by rw [add_block]; exact hc.block x.block hne)
theorem Num.chg {v : Value} {z : Int} {n : Nat} (h : Num w v z n) (hc : Chg b w w') (hb : NoInt w b) : Num w' v z n := by
  obtain ⟨neg, a, cap, ds, hv, hr, r⟩ := h
  exact ⟨neg, a, cap, ds, hv, hr.chg hc hb, r⟩
theorem OutE.chg {v : Value} {z : Int} {n : Nat} (h : OutE w v z n) (hc : Chg b w w') (hb : NoInt w b) : OutE w' v z n := by
  obtain ⟨base, neg, a, cap, ds, hv, hr, r⟩ := h
  refine ⟨base, neg, a, cap, ds, hv, ?_, r⟩
  obtain ⟨hw, h | ⟨g, ha, hg, hbl⟩⟩ := hr
  · exact ⟨hw, .inl h⟩
  · refine ⟨hw, .inr ⟨g, ha, hg, hbl.same (hc.block g fun e => ?_)⟩⟩
    subst e
    obtain ⟨cur, h1, _⟩ := hbl
    obtain ⟨cur', T, fr, h2, hT, _⟩ := hb
    rw [h1] at h2
    simp at h2
    exact hT h2.2.1.symm
theorem Frac.chg {v : Value} {n d : Int} {m : Nat} (h : Frac w v n d m) (hc : Chg b w w') (hb : NoInt w b) : Frac w' v n d m := by
  obtain ⟨n1, a1, l1, c1, n2, a2, l2, c2, hv, h1, h2⟩ := h
  exact ⟨n1, a1, l1, c1, n2, a2, l2, c2, hv, h1.chg hc hb, h2.chg hc hb⟩
theorem FracE.chg {v : Value} {n d : Int} {m : Nat} (h : FracE w v n d m) (hc : Chg b w w') (hb : NoInt w b) : FracE w' v n d m := by
  obtain ⟨n1, a1, l1, c1, n2, a2, l2, c2, hv, h1, h2⟩ := h
  exact ⟨n1, a1, l1, c1, n2, a2, l2, c2, hv, h1.chg hc hb, h2.chg hc hb⟩
/-- A pointer to a box, new or one of S. -/
def Ptr2 (base : Nat) (S : List Nat) (v : Value) (w : World) : Prop := ∃ b, v = .pointer (some ⟨b, 0, none⟩) ∧ Box2 w b ∧ (base ≤ b ∨ b ∈ S)
def Ptr4 (base : Nat) (S : List Nat) (v : Value) (w : World) : Prop := ∃ b, v = .pointer (some ⟨b, 0, none⟩) ∧ Box4 w b ∧ (base ≤ b ∨ b ∈ S)
theorem Ptr2.next {base : Nat} {S : List Nat} {v : Value} (h : Ptr2 base S v w) (hb : Below w.heap.size w w') : Ptr2 base S v w' := by
  obtain ⟨g, h1, h2, h3⟩ := h
  exact ⟨g, h1, h2.next hb, h3⟩
theorem Ptr4.next {base : Nat} {S : List Nat} {v : Value} (h : Ptr4 base S v w) (hb : Below w.heap.size w w') : Ptr4 base S v w' := by
  obtain ⟨g, h1, h2, h3⟩ := h
  exact ⟨g, h1, h2.next hb, h3⟩
theorem Ptr2.chg {base : Nat} {S : List Nat} {v : Value} (h : Ptr2 base S v w) (hc : Chg b w w') (hk : Box2 w b → Box2 w' b) : Ptr2 base S v w' := by
  obtain ⟨g, h1, h2, h3⟩ := h
  refine ⟨g, h1, ?_, h3⟩
  by_cases e : g = b
  · subst e; exact hk h2
  · exact h2.same (hc.block g e)
theorem Ptr4.chg {base : Nat} {S : List Nat} {v : Value} (h : Ptr4 base S v w) (hc : Chg b w w') (hk : Box4 w b → Box4 w' b) : Ptr4 base S v w' := by
  obtain ⟨g, h1, h2, h3⟩ := h
  refine ⟨g, h1, ?_, h3⟩
  by_cases e : g = b
  · subst e; exact hk h2
  · exact h2.same (hc.block g e)
/-- What a filled box holds. -/
def Holds2 (w : World) (b : Nat) (p : Value → Prop) : Prop := ∃ m a l c, w.cell? ⟨b, 0, none⟩ = some (.bool m) ∧ w.cell? ⟨b, 1, none⟩ = some (.slice a l c) ∧ p (.agg #[.bool m, .slice a l c])
def Holds4 (w : World) (b : Nat) (p : Value → Prop) : Prop := ∃ m a l c m' a' l' c', w.cell? ⟨b, 0, none⟩ = some (.bool m) ∧ w.cell? ⟨b, 1, none⟩ = some (.slice a l c) ∧ w.cell? ⟨b, 2, none⟩ = some (.bool m') ∧ w.cell? ⟨b, 3, none⟩ = some (.slice a' l' c') ∧ p (.agg #[.bool m, .slice a l c, .bool m', .slice a' l' c'])
theorem Holds2.next {p p' : Value → Prop} (h : Holds2 w b p) (hb : Below w.heap.size w w') (hp : ∀ v, p v → p' v) : Holds2 w' b p' := by
  obtain ⟨m, a, l, c, h1, h2, h3⟩ := h
  exact ⟨m, a, l, c, keep_cell hb h1, keep_cell hb h2, hp _ h3⟩
theorem Holds4.next {p p' : Value → Prop} (h : Holds4 w b p) (hb : Below w.heap.size w w') (hp : ∀ v, p v → p' v) : Holds4 w' b p' := by
  obtain ⟨m, a, l, c, m', a', l', c', h1, h2, h3, h4, h5⟩ := h
  exact ⟨m, a, l, c, m', a', l', c', keep_cell hb h1, keep_cell hb h2, keep_cell hb h3, keep_cell hb h4, hp _ h5⟩
theorem Holds2.chg {p p' : Value → Prop} (h : Holds2 w b p) (hc : Chg g w w') (hne : b ≠ g) (hp : ∀ v, p v → p' v) : Holds2 w' b p' := by
  obtain ⟨m, a, l, c, h1, h2, h3⟩ := h
  exact ⟨m, a, l, c, (World.cell?_of_block (hc.block b hne)).trans h1, (World.cell?_of_block (hc.block b hne)).trans h2, hp _ h3⟩
theorem Holds4.chg {p p' : Value → Prop} (h : Holds4 w b p) (hc : Chg g w w') (hne : b ≠ g) (hp : ∀ v, p v → p' v) : Holds4 w' b p' := by
  obtain ⟨m, a, l, c, m', a', l', c', h1, h2, h3, h4, h5⟩ := h
  exact ⟨m, a, l, c, m', a', l', c', (World.cell?_of_block (hc.block b hne)).trans h1, (World.cell?_of_block (hc.block b hne)).trans h2, (World.cell?_of_block (hc.block b hne)).trans h3, (World.cell?_of_block (hc.block b hne)).trans h4, hp _ h5⟩
end
section
variable {P : Program} {ops : Array Oper} {Q : Exit → Act → World → Prop} {V : Nat → Value → World → Prop} {C : Nat → Nat → World → Prop} {S : List Nat} {N : Nat} {w : World}
theorem plain_of {o : Oper} (hg : GuardOk ops V o) (h : ∀ b w', b.tmps.size = N → BelowBut S w w' → (∀ t ∈ o.looksAt ops, V t (b.tmps.getD t undef) w') → ∀ K : Act → World → Prop, (∀ v w'', Below w'.heap.size w' w'' → (∀ t, o.dst = some t → V t v w'') → K (b.put o.dst v) w'') → o.wp P b w' K Q) : PlainStep P ops Q V S N w o := by
  intro b w' hs hb hl K hK
  rw [if_pos (hg b w' hl)]
  exact h b w' hs hb hl K hK
theorem pl_call1 {o : Oper} (f : FuncId) (t d : Nat) (ats : Array TypeId) (hf : goFn P f = true) (ho : o.op = .call { callee := .value (.func f), args := #[.tmp t], argTypes := ats }) (hd : o.dst = some d) (hg : GuardOk ops V o) (hl : (o.looksAt ops).contains t = true)
    (hc : ∀ v w', BelowBut S w w' → V t v w' → Calls P f #[v] w' fun e w'' => ∃ u, e = .returned u ∧ V d u w'' ∧ Below w'.heap.size w' w'') : PlainStep P ops Q V S N w o :=
  plain_of hg fun b w' _ hB hb K hK => by
    obtain ⟨dst, op, type, pos, after, guard⟩ := o
    dsimp only at ho hd
    subst ho
    unfold Oper.wp
    have e : (#[] ++ (#[Operand.tmp t]).map b.eval ++ #[] : Array Value) = #[b.tmps.getD t undef] := by simp [Act.eval]
    rw [execOp_call_go, run_callFunc_go hf, e, Oper.upon_enter]
    refine Calls.mono (hc _ _ hB (look hb t hl)) ?_
    rintro e w'' ⟨u, rfl, hu, hbl⟩
    exact hK _ _ hbl (dst_eq hd hu)
theorem pl_call2 {o : Oper} (f : FuncId) (s t d : Nat) (ats : Array TypeId) (hf : goFn P f = true) (ho : o.op = .call { callee := .value (.func f), args := #[.tmp s, .tmp t], argTypes := ats }) (hd : o.dst = some d) (hg : GuardOk ops V o) (hl : (o.looksAt ops).contains s = true) (hl' : (o.looksAt ops).contains t = true)
    (hc : ∀ u v w', BelowBut S w w' → V s u w' → V t v w' → Calls P f #[u, v] w' fun e w'' => ∃ x, e = .returned x ∧ V d x w'' ∧ Below w'.heap.size w' w'') : PlainStep P ops Q V S N w o :=
  plain_of hg fun b w' _ hB hb K hK => by
    obtain ⟨dst, op, type, pos, after, guard⟩ := o
    dsimp only at ho hd
    subst ho
    unfold Oper.wp
    have e : (#[] ++ (#[Operand.tmp s, Operand.tmp t]).map b.eval ++ #[] : Array Value) = #[b.tmps.getD s undef, b.tmps.getD t undef] := by simp [Act.eval]
    rw [execOp_call_go, run_callFunc_go hf, e, Oper.upon_enter]
    refine Calls.mono (hc _ _ _ hB (look hb s hl) (look hb t hl')) ?_
    rintro e w'' ⟨u, rfl, hu, hbl⟩
    exact hK _ _ hbl (dst_eq hd hu)
theorem st24 {w : World} {g : Nat} {m m' : Bool} {a a' : Option Addr} {l l' c c' : Nat} (c0 : w.cell? ⟨g, 0, none⟩ = some (.bool m)) (c1 : w.cell? ⟨g, 1, none⟩ = some (.slice a l c)) (f : ∀ o, w.frozen? ⟨g, o, none⟩ = false) {o : Oper} {b : Act} {K : Act → World → Prop} (s t : Nat) (ho : o.op = .store 28 (.tmp s) (.tmp t)) (hd : o.dst = none) (hs : b.tmps.getD s undef = .pointer (some ⟨g, 0, none⟩)) (ht : b.tmps.getD t undef = .agg #[.bool m', .slice a' l' c'])
    (h : K b ((w.setCell ⟨g, 0, none⟩ (.bool m')).setCell ⟨g, 1, none⟩ (.slice a' l' c'))) : o.wp Tryz.prog b w K Q := by
  obtain ⟨dst, op, type, pos, after, guard⟩ := o
  dsimp only at ho hd
  subst ho
  subst hd
  unfold Oper.wp
  have e : b.eval (.tmp s) = .pointer (some ⟨g, 0, none⟩) := hs
  have e' : b.eval (.tmp t) = .agg #[.bool m', .slice a' l' c'] := ht
  have f0 := f 0
  have f1 := f 1
  go_simp
  exact h
theorem st26 {w : World} {g : Nat} {m1 m2 m3 m4 : Bool} {a1 a2 a3 a4 : Option Addr} {l1 l2 l3 l4 c1 c2 c3 c4 : Nat} (k0 : w.cell? ⟨g, 0, none⟩ = some (.bool m1)) (k1 : w.cell? ⟨g, 1, none⟩ = some (.slice a1 l1 c1)) (k2 : w.cell? ⟨g, 2, none⟩ = some (.bool m2)) (k3 : w.cell? ⟨g, 3, none⟩ = some (.slice a2 l2 c2)) (f : ∀ o, w.frozen? ⟨g, o, none⟩ = false) {o : Oper} {b : Act} {K : Act → World → Prop} (s t : Nat) (ho : o.op = .store 30 (.tmp s) (.tmp t)) (hd : o.dst = none) (hs : b.tmps.getD s undef = .pointer (some ⟨g, 0, none⟩)) (ht : b.tmps.getD t undef = .agg #[.bool m3, .slice a3 l3 c3, .bool m4, .slice a4 l4 c4])
    (h : K b ((((w.setCell ⟨g, 0, none⟩ (.bool m3)).setCell ⟨g, 1, none⟩ (.slice a3 l3 c3)).setCell ⟨g, 2, none⟩ (.bool m4)).setCell ⟨g, 3, none⟩ (.slice a4 l4 c4))) : o.wp Tryz.prog b w K Q := by
  obtain ⟨dst, op, type, pos, after, guard⟩ := o
  dsimp only at ho hd
  subst ho
  subst hd
  unfold Oper.wp
  have e : b.eval (.tmp s) = .pointer (some ⟨g, 0, none⟩) := hs
  have e' : b.eval (.tmp t) = .agg #[.bool m3, .slice a3 l3 c3, .bool m4, .slice a4 l4 c4] := ht
  have f0 := f 0
  have f1 := f 1
  have f2 := f 2
  have f3 := f 3
  go_simp
  exact h
theorem bd26 {w : World} {m1 m2 : Bool} {a1 a2 : Option Addr} {l1 l2 c1 c2 : Nat} {o : Oper} {b : Act} {K : Act → World → Prop} (s t : Nat) (ho : o.op = .build 30 #[(0, .tmp s), (1, .tmp t)]) (hs : b.tmps.getD s undef = .agg #[.bool m1, .slice a1 l1 c1]) (ht : b.tmps.getD t undef = .agg #[.bool m2, .slice a2 l2 c2])
    (h : K (b.put o.dst (.agg #[.bool m1, .slice a1 l1 c1, .bool m2, .slice a2 l2 c2])) w) : o.wp Tryz.prog b w K Q := by
  obtain ⟨dst, op, type, pos, after, guard⟩ := o
  dsimp only at ho
  subst ho
  unfold Oper.wp
  have e : b.eval (.tmp s) = .agg #[.bool m1, .slice a1 l1 c1] := hs
  have e' : b.eval (.tmp t) = .agg #[.bool m2, .slice a2 l2 c2] := ht
  rw [Array.getD_eq_getD_getElem?] at hs ht
  go_simp
  exact h
end
end Go.Proofs.YtclokcoimdjaeaaGreatDoor
