/- Boxes of numbers and fractions in a drawn region: how they are made, read and filled. -/
import Derived.Test.YthiiglhecajhbaaGreatFp
import Derived.Test.YthiiglhecajhbaaGreatRge
namespace Go.Proofs.YthiiglhecajhbaaGreat
open Go.RowKit
/-- A box of a number; one of a fraction. -/
def Box2 (w : World) (b : Nat) : Prop := ∃ m a l c T, w.heap[b]? = some (.cells #[.bool m, .slice a l c] T (0, 0)) ∧ T ≠ 74
def Box4 (w : World) (b : Nat) : Prop := ∃ m a l c m' a' l' c' T, w.heap[b]? = some (.cells #[.bool m, .slice a l c, .bool m', .slice a' l' c'] T (0, 0)) ∧ T ≠ 74
def Bxx (w : World) (b : Nat) : Prop := Box2 w b ∨ Box4 w b
section
variable {w w' : World} {b g : Nat}
theorem Box2.noint (h : Box2 w b) : NoInt w b := by
  obtain ⟨m, a, l, c, T, h, hT⟩ := h
  exact ⟨_, T, _, h, hT, two_notInt (notInt_bool _) (notInt_slice _ _ _)⟩
theorem Box4.noint (h : Box4 w b) : NoInt w b := by
  obtain ⟨m, a, l, c, m', a', l', c', T, h, hT⟩ := h
  exact ⟨_, T, _, h, hT, four_notInt (notInt_bool _) (notInt_slice _ _ _) (notInt_bool _) (notInt_slice _ _ _)⟩
theorem Bxx.noint (h : Bxx w b) : NoInt w b := h.elim Box2.noint Box4.noint
theorem Bxx.lt (h : Bxx w b) : b < w.heap.size := h.noint.lt
theorem Box2.same (h : Box2 w b) (e : w'.heap[b]? = w.heap[b]?) : Box2 w' b := by
  obtain ⟨m, a, l, c, T, h, hT⟩ := h
  exact ⟨m, a, l, c, T, e.trans h, hT⟩
theorem Box4.same (h : Box4 w b) (e : w'.heap[b]? = w.heap[b]?) : Box4 w' b := by
  obtain ⟨m, a, l, c, m', a', l', c', T, h, hT⟩ := h
  exact ⟨m, a, l, c, m', a', l', c', T, e.trans h, hT⟩
theorem Box2.next (h : Box2 w b) (hb : Below w.heap.size w w') : Box2 w' b := h.same (hb.block b h.noint.lt)
theorem Box4.next (h : Box4 w b) (hb : Below w.heap.size w w') : Box4 w' b := h.same (hb.block b h.noint.lt)
theorem Box2.cells (h : Box2 w b) : ∃ m a l c, w.cell? ⟨b, 0, none⟩ = some (.bool m) ∧ w.cell? ⟨b, 1, none⟩ = some (.slice a l c) ∧ (∀ o, w.frozen? ⟨b, o, none⟩ = false) := by
  obtain ⟨m, a, l, c, T, h, _⟩ := h
  exact ⟨m, a, l, c, by simp [World.cell?, h], by simp [World.cell?, h], fun o => by simp [World.frozen?, h]⟩
theorem Box4.cells (h : Box4 w b) : ∃ m a l c m' a' l' c', w.cell? ⟨b, 0, none⟩ = some (.bool m) ∧ w.cell? ⟨b, 1, none⟩ = some (.slice a l c) ∧ w.cell? ⟨b, 2, none⟩ = some (.bool m') ∧ w.cell? ⟨b, 3, none⟩ = some (.slice a' l' c') ∧ (∀ o, w.frozen? ⟨b, o, none⟩ = false) := by
  obtain ⟨m, a, l, c, m', a', l', c', T, h, _⟩ := h
  exact ⟨m, a, l, c, m', a', l', c', by simp [World.cell?, h], by simp [World.cell?, h], by simp [World.cell?, h], by simp [World.cell?, h], fun o => by simp [World.frozen?, h]⟩
theorem Box2.new (w : World) (m : Bool) (a : Option Addr) (l c : Nat) (T : TypeId) (hT : T ≠ 74) : Box2 (w.alloc (.cells #[.bool m, .slice a l c] T)) w.heap.size :=
  ⟨m, a, l, c, T, by show (w.heap.push _)[w.heap.size]? = _; simp, hT⟩
theorem Box2.put (h : Box2 w b) (m' : Bool) (a' : Option Addr) (l' c' : Nat) : Box2 ((w.setCell ⟨b, 0, none⟩ (.bool m')).setCell ⟨b, 1, none⟩ (.slice a' l' c')) b := by
  obtain ⟨m, a, l, c, T, h, hT⟩ := h
  exact ⟨m', a', l', c', T, by simp [World.setCell, Array.getElem?_modify, h], hT⟩
theorem Box4.put (h : Box4 w b) (m1 : Bool) (a1 : Option Addr) (l1 c1 : Nat) (m2 : Bool) (a2 : Option Addr) (l2 c2 : Nat) : Box4 ((((w.setCell ⟨b, 0, none⟩ (.bool m1)).setCell ⟨b, 1, none⟩ (.slice a1 l1 c1)).setCell ⟨b, 2, none⟩ (.bool m2)).setCell ⟨b, 3, none⟩ (.slice a2 l2 c2)) b := by
  obtain ⟨m, a, l, c, m', a', l', c', T, h, hT⟩ := h
  exact ⟨m1, a1, l1, c1, m2, a2, l2, c2, T, by simp [World.setCell, Array.getElem?_modify, h], hT⟩
theorem Row.chg {k : IntKind} {B : Int} {a : Option Addr} {cap : Nat} {ds : List Int} (h : Row w k B a cap ds) (hc : Chg b w w') (hb : NoInt w b) : Row w' k B a cap ds := by
  refine ⟨h.le, h.max, h.nil, fun x hx i hi => ?_, h.words⟩
  subst hx
  have hne := hb.apart h (by intro e; subst e; simp at hi)
  rw [← h.cell x rfl i hi]
  exact World.cell?_of_block (by rw [add_block]; exact hc.block x.block hne)
theorem Num.chg {v : Value} {z : Int} {n : Nat} (h : Num w v z n) (hc : Chg b w w') (hb : NoInt w b) : Num w' v z n := by
  obtain ⟨neg, a, cap, ds, hv, hr, r⟩ := h
  exact ⟨neg, a, cap, ds, hv, hr.chg hc hb, r⟩
theorem OutE.chg {v : Value} {z : Int} {n : Nat} (h : OutE w v z n) (hc : Chg b w w') (hb : NoInt w b) : OutE w' v z n := by
  obtain ⟨base, neg, a, cap, ds, hv, hr, r⟩ := h
  refine ⟨base, neg, a, cap, ds, hv, ?_, r⟩
  obtain ⟨hw, h | ⟨g, ha, hg, hbl⟩⟩ := hr
  · exact ⟨hw, .inl h⟩
  · refine ⟨hw, .inr ⟨g, ha, hg, hbl.same (hc.block g fun e => ?_)⟩⟩
    subst e
    obtain ⟨cur, h1, _⟩ := hbl
    obtain ⟨cur', T, fr, h2, hT, _⟩ := hb
    rw [h1] at h2
    simp at h2
    exact hT h2.2.1.symm
theorem Frac.chg {v : Value} {n d : Int} {m : Nat} (h : Frac w v n d m) (hc : Chg b w w') (hb : NoInt w b) : Frac w' v n d m := by
  obtain ⟨n1, a1, l1, c1, n2, a2, l2, c2, hv, h1, h2⟩ := h
  exact ⟨n1, a1, l1, c1, n2, a2, l2, c2, hv, h1.chg hc hb, h2.chg hc hb⟩
theorem FracE.chg {v : Value} {n d : Int} {m : Nat} (h : FracE w v n d m) (hc : Chg b w w') (hb : NoInt w b) : FracE w' v n d m := by
  obtain ⟨n1, a1, l1, c1, n2, a2, l2, c2, hv, h1, h2⟩ := h
  exact ⟨n1, a1, l1, c1, n2, a2, l2, c2, hv, h1.chg hc hb, h2.chg hc hb⟩
/-- A pointer to a box, new or one of S. -/
def Ptr2 (base : Nat) (S : List Nat) (v : Value) (w : World) : Prop := ∃ b, v = .pointer (some ⟨b, 0, none⟩) ∧ Box2 w b ∧ (base ≤ b ∨ b ∈ S)
def Ptr4 (base : Nat) (S : List Nat) (v : Value) (w : World) : Prop := ∃ b, v = .pointer (some ⟨b, 0, none⟩) ∧ Box4 w b ∧ (base ≤ b ∨ b ∈ S)
theorem Ptr2.next {base : Nat} {S : List Nat} {v : Value} (h : Ptr2 base S v w) (hb : Below w.heap.size w w') : Ptr2 base S v w' := by
  obtain ⟨g, h1, h2, h3⟩ := h
  exact ⟨g, h1, h2.next hb, h3⟩
theorem Ptr4.next {base : Nat} {S : List Nat} {v : Value} (h : Ptr4 base S v w) (hb : Below w.heap.size w w') : Ptr4 base S v w' := by
  obtain ⟨g, h1, h2, h3⟩ := h
  exact ⟨g, h1, h2.next hb, h3⟩
theorem box_shape2 {m1 : Bool} {a1 : Option Addr} {l1 c1 : Nat} {m : Bool} {a : Option Addr} {l c : Nat} {m' : Bool} {a' : Option Addr} {l' c' : Nat} {T U : TypeId} (h : some (Obj.cells #[.bool m1, .slice a1 l1 c1] T (0, 0)) = some (.cells #[.bool m, .slice a l c, .bool m', .slice a' l' c'] U (0, 0))) : False := by simp at h
theorem Ptr2.chg {base : Nat} {S : List Nat} {v : Value} (h : Ptr2 base S v w) (hc : Chg b w w') (hk : Box2 w b → Box2 w' b) : Ptr2 base S v w' := by
  obtain ⟨g, h1, h2, h3⟩ := h
  refine ⟨g, h1, ?_, h3⟩
  by_cases e : g = b
  · subst e; exact hk h2
  · exact h2.same (hc.block g e)
theorem Ptr4.chg {base : Nat} {S : List Nat} {v : Value} (h : Ptr4 base S v w) (hc : Chg b w w') (hk : Box4 w b → Box4 w' b) : Ptr4 base S v w' := by
  obtain ⟨g, h1, h2, h3⟩ := h
  refine ⟨g, h1, ?_, h3⟩
  by_cases e : g = b
  · subst e; exact hk h2
  · exact h2.same (hc.block g e)
/-- What a filled box holds. -/
def Holds2 (w : World) (b : Nat) (p : Value → Prop) : Prop := ∃ m a l c, w.cell? ⟨b, 0, none⟩ = some (.bool m) ∧ w.cell? ⟨b, 1, none⟩ = some (.slice a l c) ∧ p (.agg #[.bool m, .slice a l c])
def Holds4 (w : World) (b : Nat) (p : Value → Prop) : Prop := ∃ m a l c m' a' l' c', w.cell? ⟨b, 0, none⟩ = some (.bool m) ∧ w.cell? ⟨b, 1, none⟩ = some (.slice a l c) ∧ w.cell? ⟨b, 2, none⟩ = some (.bool m') ∧ w.cell? ⟨b, 3, none⟩ = some (.slice a' l' c') ∧ p (.agg #[.bool m, .slice a l c, .bool m', .slice a' l' c'])
theorem Holds2.next {p p' : Value → Prop} (h : Holds2 w b p) (hb : Below w.heap.size w w') (hp : ∀ v, p v → p' v) : Holds2 w' b p' := by
  obtain ⟨m, a, l, c, h1, h2, h3⟩ := h
  exact ⟨m, a, l, c, keep_cell hb h1, keep_cell hb h2, hp _ h3⟩
theorem Holds4.next {p p' : Value → Prop} (h : Holds4 w b p) (hb : Below w.heap.size w w') (hp : ∀ v, p v → p' v) : Holds4 w' b p' := by
  obtain ⟨m, a, l, c, m', a', l', c', h1, h2, h3, h4, h5⟩ := h
  exact ⟨m, a, l, c, m', a', l', c', keep_cell hb h1, keep_cell hb h2, keep_cell hb h3, keep_cell hb h4, hp _ h5⟩
theorem Holds2.chg {p p' : Value → Prop} (h : Holds2 w b p) (hc : Chg g w w') (hne : b ≠ g) (hp : ∀ v, p v → p' v) : Holds2 w' b p' := by
  obtain ⟨m, a, l, c, h1, h2, h3⟩ := h
  exact ⟨m, a, l, c, (World.cell?_of_block (hc.block b hne)).trans h1, (World.cell?_of_block (hc.block b hne)).trans h2, hp _ h3⟩
theorem Holds4.chg {p p' : Value → Prop} (h : Holds4 w b p) (hc : Chg g w w') (hne : b ≠ g) (hp : ∀ v, p v → p' v) : Holds4 w' b p' := by
  obtain ⟨m, a, l, c, m', a', l', c', h1, h2, h3, h4, h5⟩ := h
  exact ⟨m, a, l, c, m', a', l', c', (World.cell?_of_block (hc.block b hne)).trans h1, (World.cell?_of_block (hc.block b hne)).trans h2, (World.cell?_of_block (hc.block b hne)).trans h3, (World.cell?_of_block (hc.block b hne)).trans h4, hp _ h5⟩
end
section
variable {P : Program} {ops : Array Oper} {Q : Exit → Act → World → Prop} {V : Nat → Value → World → Prop} {C : Nat → Nat → World → Prop} {S : List Nat} {N : Nat} {w : World}
theorem plain_of {o : Oper} (hg : GuardOk ops V o) (h : ∀ b w', b.tmps.size = N → BelowBut S w w' → (∀ t ∈ o.looksAt ops, V t (b.tmps.getD t undef) w') → ∀ K : Act → World → Prop, (∀ v w'', Below w'.heap.size w' w'' → (∀ t, o.dst = some t → V t v w'') → K (b.put o.dst v) w'') → o.wp P b w' K Q) : PlainStep P ops Q V S N w o := by
  intro b w' hs hb hl K hK
  rw [if_pos (hg b w' hl)]
  exact h b w' hs hb hl K hK
theorem pl_move {o : Oper} (t d : Nat) (ho : o.op = .move (.tmp t) ∨ o.op = .assign (.tmp t)) (hd : o.dst = some d) (hg : GuardOk ops V o) (hl : (o.looksAt ops).contains t = true) (hv : ∀ v w, V t v w → V d v w) : PlainStep P ops Q V S N w o :=
  plain_of hg fun b w' _ _ hb K hK => by
    unfold Oper.wp execOp
    rcases ho with ho | ho <;> simp only [ho] <;> exact hK _ _ (Below.refl _ _) (dst_eq hd (hv _ _ (look hb t hl)))
theorem pl_call1 {o : Oper} (f : FuncId) (t d : Nat) (ats : Array TypeId) (hf : goFn P f = true) (ho : o.op = .call { callee := .value (.func f), args := #[.tmp t], argTypes := ats }) (hd : o.dst = some d) (hg : GuardOk ops V o) (hl : (o.looksAt ops).contains t = true)
    (hc : ∀ v w', BelowBut S w w' → V t v w' → Calls P f #[v] w' fun e w'' => ∃ u, e = .returned u ∧ V d u w'' ∧ Below w'.heap.size w' w'') : PlainStep P ops Q V S N w o :=
  plain_of hg fun b w' _ hB hb K hK => by
    obtain ⟨dst, op, type, pos, after, guard⟩ := o
    dsimp only at ho hd
    subst ho
    unfold Oper.wp
    have e : (#[] ++ (#[Operand.tmp t]).map b.eval ++ #[] : Array Value) = #[b.tmps.getD t undef] := by simp [Act.eval]
    rw [execOp_call_go, run_callFunc_go hf, e, Oper.upon_enter]
    refine Calls.mono (hc _ _ hB (look hb t hl)) ?_
    rintro e w'' ⟨u, rfl, hu, hbl⟩
    exact hK _ _ hbl (dst_eq hd hu)
theorem pl_call2 {o : Oper} (f : FuncId) (s t d : Nat) (ats : Array TypeId) (hf : goFn P f = true) (ho : o.op = .call { callee := .value (.func f), args := #[.tmp s, .tmp t], argTypes := ats }) (hd : o.dst = some d) (hg : GuardOk ops V o) (hl : (o.looksAt ops).contains s = true) (hl' : (o.looksAt ops).contains t = true)
    (hc : ∀ u v w', BelowBut S w w' → V s u w' → V t v w' → Calls P f #[u, v] w' fun e w'' => ∃ x, e = .returned x ∧ V d x w'' ∧ Below w'.heap.size w' w'') : PlainStep P ops Q V S N w o :=
  plain_of hg fun b w' _ hB hb K hK => by
    obtain ⟨dst, op, type, pos, after, guard⟩ := o
    dsimp only at ho hd
    subst ho
    unfold Oper.wp
    have e : (#[] ++ (#[Operand.tmp s, Operand.tmp t]).map b.eval ++ #[] : Array Value) = #[b.tmps.getD s undef, b.tmps.getD t undef] := by simp [Act.eval]
    rw [execOp_call_go, run_callFunc_go hf, e, Oper.upon_enter]
    refine Calls.mono (hc _ _ _ hB (look hb s hl) (look hb t hl')) ?_
    rintro e w'' ⟨u, rfl, hu, hbl⟩
    exact hK _ _ hbl (dst_eq hd hu)
theorem st24 {w : World} {g : Nat} {m m' : Bool} {a a' : Option Addr} {l l' c c' : Nat} (c0 : w.cell? ⟨g, 0, none⟩ = some (.bool m)) (c1 : w.cell? ⟨g, 1, none⟩ = some (.slice a l c)) (f : ∀ o, w.frozen? ⟨g, o, none⟩ = false) {o : Oper} {b : Act} {K : Act → World → Prop} (s t : Nat) (ho : o.op = .store 24 (.tmp s) (.tmp t)) (hd : o.dst = none) (hs : b.tmps.getD s undef = .pointer (some ⟨g, 0, none⟩)) (ht : b.tmps.getD t undef = .agg #[.bool m', .slice a' l' c'])
    (h : K b ((w.setCell ⟨g, 0, none⟩ (.bool m')).setCell ⟨g, 1, none⟩ (.slice a' l' c'))) : o.wp Tryz.prog b w K Q := by
  obtain ⟨dst, op, type, pos, after, guard⟩ := o
  dsimp only at ho hd
  subst ho
  subst hd
  unfold Oper.wp
  have e : b.eval (.tmp s) = .pointer (some ⟨g, 0, none⟩) := hs
  have e' : b.eval (.tmp t) = .agg #[.bool m', .slice a' l' c'] := ht
  have f0 := f 0
  have f1 := f 1
  go_simp
  exact h
theorem st26 {w : World} {g : Nat} {m1 m2 m3 m4 : Bool} {a1 a2 a3 a4 : Option Addr} {l1 l2 l3 l4 c1 c2 c3 c4 : Nat} (k0 : w.cell? ⟨g, 0, none⟩ = some (.bool m1)) (k1 : w.cell? ⟨g, 1, none⟩ = some (.slice a1 l1 c1)) (k2 : w.cell? ⟨g, 2, none⟩ = some (.bool m2)) (k3 : w.cell? ⟨g, 3, none⟩ = some (.slice a2 l2 c2)) (f : ∀ o, w.frozen? ⟨g, o, none⟩ = false) {o : Oper} {b : Act} {K : Act → World → Prop} (s t : Nat) (ho : o.op = .store 26 (.tmp s) (.tmp t)) (hd : o.dst = none) (hs : b.tmps.getD s undef = .pointer (some ⟨g, 0, none⟩)) (ht : b.tmps.getD t undef = .agg #[.bool m3, .slice a3 l3 c3, .bool m4, .slice a4 l4 c4])
    (h : K b ((((w.setCell ⟨g, 0, none⟩ (.bool m3)).setCell ⟨g, 1, none⟩ (.slice a3 l3 c3)).setCell ⟨g, 2, none⟩ (.bool m4)).setCell ⟨g, 3, none⟩ (.slice a4 l4 c4))) : o.wp Tryz.prog b w K Q := by
  obtain ⟨dst, op, type, pos, after, guard⟩ := o
  dsimp only at ho hd
  subst ho
  subst hd
  unfold Oper.wp
  have e : b.eval (.tmp s) = .pointer (some ⟨g, 0, none⟩) := hs
  have e' : b.eval (.tmp t) = .agg #[.bool m3, .slice a3 l3 c3, .bool m4, .slice a4 l4 c4] := ht
  have f0 := f 0
  have f1 := f 1
  have f2 := f 2
  have f3 := f 3
  go_simp
  exact h
theorem bd26 {w : World} {m1 m2 : Bool} {a1 a2 : Option Addr} {l1 l2 c1 c2 : Nat} {o : Oper} {b : Act} {K : Act → World → Prop} (s t : Nat) (ho : o.op = .build 26 #[(0, .tmp s), (1, .tmp t)]) (hs : b.tmps.getD s undef = .agg #[.bool m1, .slice a1 l1 c1]) (ht : b.tmps.getD t undef = .agg #[.bool m2, .slice a2 l2 c2])
    (h : K (b.put o.dst (.agg #[.bool m1, .slice a1 l1 c1, .bool m2, .slice a2 l2 c2])) w) : o.wp Tryz.prog b w K Q := by
  obtain ⟨dst, op, type, pos, after, guard⟩ := o
  dsimp only at ho
  subst ho
  unfold Oper.wp
  have e : b.eval (.tmp s) = .agg #[.bool m1, .slice a1 l1 c1] := hs
  have e' : b.eval (.tmp t) = .agg #[.bool m2, .slice a2 l2 c2] := ht
  rw [Array.getD_eq_getD_getElem?] at hs ht
  go_simp
  exact h
end
end Go.Proofs.YthiiglhecajhbaaGreat
