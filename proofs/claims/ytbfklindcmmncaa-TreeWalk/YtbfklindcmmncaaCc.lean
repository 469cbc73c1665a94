/- Print: what an expression is made of. -/
import Derived.Test.YtbfklindcmmncaaCb
namespace Go.Proofs.Ytbfklindcmmncaa
open Go.RowKit Go.Shelf
attribute [local go_sem ↓] Go.wp_at_zero Go.wp_at_succ
theorem Below.upto {B : Nat} {a b c : World} (h : Below B a b) (k : Below b.heap.size b c) (hB : B ≤ b.heap.size) : Below B a c := h.trans (k.mono hB)
/-- A new node's box. -/
def Zc (w : World) (b : Nat) : Prop := w.cell? ⟨b, 0, none⟩ = some (.int .i64 0) ∧ w.cell? ⟨b, 1, none⟩ = some (.int .i64 0) ∧ w.cell? ⟨b, 2, none⟩ = some (.string ⟨#[]⟩) ∧ w.cell? ⟨b, 3, none⟩ = some (.slice none 0 0) ∧ w.frozen? ⟨b, 0, none⟩ = false ∧ w.frozen? ⟨b, 1, none⟩ = false ∧ w.frozen? ⟨b, 2, none⟩ = false ∧ w.frozen? ⟨b, 3, none⟩ = false
theorem zb {X w : World} {b : Nat} (ha : Below X.heap.size X w) (h : X.heap[b]? = some (.cells #[.int .i64 0, .int .i64 0, .string ⟨#[]⟩, .slice none 0 0] 24 (0, 0))) : Zc w b := by
  obtain ⟨c0, c1, c2, c3, cf⟩ := BoxN.cells (w := w) (b := b) (n := ⟨0, 0, ⟨#[]⟩, none, 0, 0⟩) ((ha.block b (Array.getElem?_eq_some_iff.1 h).1).trans h)
  exact ⟨c0, c1, c2, c3, cf 0, cf 1, cf 2, cf 3⟩
theorem new_at2 (w : World) (o o' : Obj) : ((w.alloc o).alloc o').heap[w.heap.size + 1]? = some o' := by
  have := new_at (w.alloc o) o'
  rw [World.size_alloc] at this
  exact this
theorem cell_block {w : World} {p : Addr} {v : Value} (h : w.cell? p = some v) : p.block < w.heap.size := by
  by_cases hp : p.block < w.heap.size
  · exact hp
  · simp [World.cell?, Array.getElem?_eq_none (Nat.le_of_not_lt hp)] at h
theorem Zc.next {w w' : World} {b : Nat} (hb : Below w.heap.size w w') (h : Zc w b) : Zc w' b := by
  have hl : b < w.heap.size := cell_block h.1
  have c := fun o => hb.cell (p := ⟨b, o, none⟩) hl
  have f := fun o => hb.frozen (p := ⟨b, o, none⟩) hl
  unfold Zc
  rw [c, c, c, c, f, f, f, f]
  exact h
theorem Zc.alloc {w : World} {b : Nat} {o : Obj} (h : Zc w b) : Zc (w.alloc o) b := h.next ((Below.refl _ _).alloc (Nat.le_refl _) _)
theorem Zc.new (w : World) : Zc (w.alloc (.cells #[.int .i64 0, .int .i64 0, .string ⟨#[]⟩, .slice none 0 0] 24)) w.heap.size := zb (Below.refl _ _) (new_at _ _)
theorem Zc.new2 (w : World) (o : Obj) : Zc ((w.alloc o).alloc (.cells #[.int .i64 0, .int .i64 0, .string ⟨#[]⟩, .slice none 0 0] 24)) (w.heap.size + 1) := zb (Below.refl _ _) (new_at2 _ _ _)
/-- Two nodes stored in two new boxes. -/
theorem fin8 {W X : World} {b3 b4 : Nat} {n m : NC} (hb : Below W.heap.size W X) (h3 : Zc X b3) (h4 : Zc X b4) (hne : b3 ≠ b4) (l3 : W.heap.size ≤ b3) (l4 : W.heap.size ≤ b4) {Y : World} (hY : Y = (((((((X.setCell ⟨b3, 0, none⟩ (.int .i64 n.k)).setCell ⟨b3, 1, none⟩ (.int .i64 n.a)).setCell ⟨b3, 2, none⟩ (.string n.s)).setCell ⟨b3, 3, none⟩ (.slice n.x n.l n.c)).setCell ⟨b4, 0, none⟩ (.int .i64 m.k)).setCell ⟨b4, 1, none⟩ (.int .i64 m.a)).setCell ⟨b4, 2, none⟩ (.string m.s)).setCell ⟨b4, 3, none⟩ (.slice m.x m.l m.c)) :
    (Y.cell? ⟨b3, 0, none⟩ = some (.int .i64 n.k) ∧ Y.cell? ⟨b3, 1, none⟩ = some (.int .i64 n.a) ∧ Y.cell? ⟨b3, 2, none⟩ = some (.string n.s) ∧ Y.cell? ⟨b3, 3, none⟩ = some (.slice n.x n.l n.c)) ∧ (Y.cell? ⟨b4, 0, none⟩ = some (.int .i64 m.k) ∧ Y.cell? ⟨b4, 1, none⟩ = some (.int .i64 m.a) ∧ Y.cell? ⟨b4, 2, none⟩ = some (.string m.s) ∧ Y.cell? ⟨b4, 3, none⟩ = some (.slice m.x m.l m.c)) ∧ Below W.heap.size W Y := by
  obtain ⟨c0, c1, c2, c3, _⟩ := h3
  obtain ⟨d0, d1, d2, d3, _⟩ := h4
  subst hY
  refine ⟨⟨?_, ?_, ?_, ?_⟩, ⟨?_, ?_, ?_, ?_⟩, (((((((hb.setCell l3 _).setCell l3 _).setCell l3 _).setCell l3 _).setCell l4 _).setCell l4 _).setCell l4 _).setCell l4 _⟩
  · simp [go_sem, c0]
  · simp [go_sem, c1]
  · simp [go_sem, c2]
  · simp [go_sem, c3]
  · simp [go_sem, d0]
  · simp [go_sem, d1]
  · simp [go_sem, d2]
  · simp [go_sem, d3]
/-- What a name, a number and a sum are made of. -/
def partsOf (v : NC) (ns : List NC) : List Value :=
  if v.k = 6 then [.iface 24 (kidN ns 0).val, .iface 9 (.string ⟨#[32]⟩), .iface 9 (.string v.s), .iface 9 (.string ⟨#[32]⟩), .iface 24 (kidN ns 1).val] else [.iface 9 (.string v.s)]
/-- The zero of a node. -/
def zN : Obj := .cells #[.int .i64 0, .int .i64 0, .string ⟨#[]⟩, .slice none 0 0] 24
/-- The six steps ahead of the stores, in any order that the statement allows. -/
def chk8 (ops : Array Oper) : Bool :=
  [false, true].all fun l5 => [false, true].all fun l6 => [false, true].all fun l7 => [false, true].all fun l8 => [false, true].all fun l3 => [false, true].all fun l4 =>
    !((!l6 || l5) && (!l8 || (l6 && l7))) || (Region.ready .any ops #[l5, l6, l7, l8, l3, l4, false, false] == (if l5 then [] else [0]) ++ (if l5 && !l6 then [1] else []) ++ (if l7 then [] else [2]) ++ (if l6 && l7 && !l8 then [3] else []) ++ (if l3 then [] else [4]) ++ (if l4 then [] else [5]) ++ (if l5 && l6 && l7 && l8 && l3 && l4 then [6] else []))
theorem chk8_ready {ops : Array Oper} (h : chk8 ops = true) (l5 l6 l7 l8 l3 l4 : Bool) (h6 : l6 = true → l5 = true) (h8 : l8 = true → l6 = true ∧ l7 = true) :
    Region.ready .any ops #[l5, l6, l7, l8, l3, l4, false, false] = (if l5 then [] else [0]) ++ (if l5 && !l6 then [1] else []) ++ (if l7 then [] else [2]) ++ (if l6 && l7 && !l8 then [3] else []) ++ (if l3 then [] else [4]) ++ (if l4 then [] else [5]) ++ (if l5 && l6 && l7 && l8 && l3 && l4 then [6] else []) := by
  have mem : ∀ b : Bool, b ∈ [false, true] := fun b => by cases b <;> simp
  unfold chk8 at h
  have h1 := List.all_eq_true.1 (List.all_eq_true.1 (List.all_eq_true.1 (List.all_eq_true.1 (List.all_eq_true.1 (List.all_eq_true.1 h l5 (mem _)) l6 (mem _)) l7 (mem _)) l8 (mem _)) l3 (mem _)) l4 (mem _)
  have hv : ((!l6 || l5) && (!l8 || (l6 && l7))) = true := by
    cases l6 <;> cases l5 <;> cases l8 <;> cases l7 <;> simp at h6 h8 ⊢
  rw [hv] at h1
  exact eq_of_beq h1
/-- A node's box. -/
def Nd (w : World) (b : Nat) (n : NC) : Prop :=
  w.cell? ⟨b, 0, none⟩ = some (.int .i64 n.k) ∧ w.cell? ⟨b, 1, none⟩ = some (.int .i64 n.a) ∧ w.cell? ⟨b, 2, none⟩ = some (.string n.s) ∧ w.cell? ⟨b, 3, none⟩ = some (.slice n.x n.l n.c)
def put8 (w : World) (b : Nat) (n : NC) : World := (((w.setCell ⟨b, 0, none⟩ (.int .i64 n.k)).setCell ⟨b, 1, none⟩ (.int .i64 n.a)).setCell ⟨b, 2, none⟩ (.string n.s)).setCell ⟨b, 3, none⟩ (.slice n.x n.l n.c)
theorem wpo_load {o : Oper} {a : Act} {w : World} {K : Act → World → Prop} {Q : Exit → Act → World → Prop} {b : Nat} {n : NC} (i : Nat) (ho : o.op = .load 24 (.tmp i)) (hx : a.tmps[i]?.getD undef = .pointer (some ⟨b, 0, none⟩)) (hN : Nd w b n) (hk : K (a.put o.dst n.val) w) : o.wp Try.prog a w K Q := by
  obtain ⟨h0, h1, h2, h3⟩ := hN
  have e : (execOp a.eval o).run Try.prog w = .ok (.value n.val) w := by
    rcases o with ⟨d, op, ty, ps, af, g⟩
    obtain rfl : op = .load 24 (.tmp i) := ho
    simp [go_sem, hx, h0, h1, h2, h3, NC.val]
  unfold Oper.wp
  rw [e]
  exact hk
theorem wpo_alloc {o : Oper} {a : Act} {w : World} {K : Act → World → Prop} {Q : Exit → Act → World → Prop} (ho : o.op = .alloc 24) (hk : K (a.put o.dst (.pointer (some ⟨w.heap.size, 0, none⟩))) (w.alloc zN)) : o.wp Try.prog a w K Q := by
  have e : (execOp a.eval o).run Try.prog w = .ok (.value (.pointer (some ⟨w.heap.size, 0, none⟩))) (w.alloc zN) := by
    rcases o with ⟨d, op, ty, ps, af, g⟩
    obtain rfl : op = .alloc 24 := ho
    unfold zN
    simp [go_sem]
  unfold Oper.wp
  rw [e]
  exact hk
theorem wpo_kid {o : Oper} {a : Act} {w : World} {K : Act → World → Prop} {Q : Exit → Act → World → Prop} {v n : NC} {c : Int} {ts : Array Nat} (i : Nat) (ho : o.op = .call { callee := .value (.func 34), args := #[.tmp i, .const (.int .i64 c)], argTypes := ts }) (hx : a.tmps[i]?.getD undef = v.val) (hc : Calls Try.prog 34 #[v.val, .int .i64 c] w fun e w' => e = .returned n.val ∧ Below w.heap.size w w') (hk : ∀ w', Below w.heap.size w w' → K (a.put o.dst n.val) w') : o.wp Try.prog a w K Q := by
  have hf : Sem.run Try.prog (callFunc 34 #[v.val, .int .i64 c]) w = .ok (.enter 34 #[v.val, .int .i64 c]) w := by rfl
  have e : (execOp a.eval o).run Try.prog w = .ok (.enter 34 #[v.val, .int .i64 c]) w := by
    rcases o with ⟨d, op, ty, ps, af, g⟩
    obtain rfl : op = .call { callee := .value (.func 34), args := #[.tmp i, .const (.int .i64 c)], argTypes := ts } := ho
    simp [go_sem, hx, hf]
  unfold Oper.wp
  rw [e, Oper.upon_enter]
  refine hc.mono ?_
  rintro e w' ⟨rfl, hb⟩
  exact hk w' hb
theorem wpo_store {o : Oper} {a : Act} {w : World} {K : Act → World → Prop} {Q : Exit → Act → World → Prop} {b : Nat} {n : NC} (i j : Nat) (ho : o.op = .store 24 (.tmp i) (.tmp j)) (hx : a.tmps[i]?.getD undef = .pointer (some ⟨b, 0, none⟩)) (hy : a.tmps[j]?.getD undef = n.val) (h : ∃ m : NC, Nd w b m ∧ w.frozen? ⟨b, 0, none⟩ = false ∧ w.frozen? ⟨b, 1, none⟩ = false ∧ w.frozen? ⟨b, 2, none⟩ = false ∧ w.frozen? ⟨b, 3, none⟩ = false) (hk : K (a.put o.dst undef) (put8 w b n)) : o.wp Try.prog a w K Q := by
  obtain ⟨m, ⟨h0, h1, h2, h3⟩, f0, f1, f2, f3⟩ := h
  have e : (execOp a.eval o).run Try.prog w = .ok .skip (put8 w b n) := by
    rcases o with ⟨d, op, ty, ps, af, g⟩
    obtain rfl : op = .store 24 (.tmp i) (.tmp j) := ho
    unfold put8
    simp [go_sem, hx, hy, h0, h1, h2, h3, f0, f1, f2, f3, NC.val]
  unfold Oper.wp
  rw [e]
  exact hk
theorem zc_store {w : World} {b : Nat} (h : Zc w b) : ∃ m : NC, Nd w b m ∧ w.frozen? ⟨b, 0, none⟩ = false ∧ w.frozen? ⟨b, 1, none⟩ = false ∧ w.frozen? ⟨b, 2, none⟩ = false ∧ w.frozen? ⟨b, 3, none⟩ = false :=
  ⟨⟨0, 0, ⟨#[]⟩, none, 0, 0⟩, ⟨h.1, h.2.1, h.2.2.1, h.2.2.2.1⟩, h.2.2.2.2⟩
theorem zc_put {w : World} {b c : Nat} {n : NC} (hne : c ≠ b) (h : Zc w c) : Zc (put8 w b n) c := by
  have hb : (put8 w b n).heap[c]? = w.heap[c]? := by
    unfold put8; rw [Below.heap_setCell _ _ _ _ hne, Below.heap_setCell _ _ _ _ hne, Below.heap_setCell _ _ _ _ hne, Below.heap_setCell _ _ _ _ hne]
  have k : ∀ o, (put8 w b n).cell? ⟨c, o, none⟩ = w.cell? ⟨c, o, none⟩ := fun o => World.cell?_of_block hb
  have f : ∀ o, (put8 w b n).frozen? ⟨c, o, none⟩ = w.frozen? ⟨c, o, none⟩ := fun o => World.frozen?_of_block hb
  unfold Zc
  rw [k, k, k, k, f, f, f, f]
  exact h
section
variable {ops : Array Oper} {Q : Exit → Act → World → Prop} {F : Value → Value → Value → Value → Value → Value → Act} {W : World} {bn : Nat} {v n0 n1 : NC} {o0 o1 o2 o3 o4 o5 o6 o7 : Oper} {ts1 ts3 : Array Nat}
/-- The eight steps of the statement, in any order that it allows. -/
theorem eight (q0 : ops[0]? = some o0) (q1 : ops[1]? = some o1) (q2 : ops[2]? = some o2) (q3 : ops[3]? = some o3) (q4 : ops[4]? = some o4) (q5 : ops[5]? = some o5) (q6 : ops[6]? = some o6) (q7 : ops[7]? = some o7)
    (hchk : chk8 ops = true) (hr7 : Region.ready .any ops #[true, true, true, true, true, true, true, false] = [7]) (hr8 : Region.ready .any ops #[true, true, true, true, true, true, true, true] = [])
    (a0 : o0.op = .load 24 (.tmp 1)) (a1 : o1.op = .call { callee := .value (.func 34), args := #[.tmp 5, .const (.int .i64 0)], argTypes := ts1 }) (a2 : o2.op = .load 24 (.tmp 1)) (a3 : o3.op = .call { callee := .value (.func 34), args := #[.tmp 7, .const (.int .i64 1)], argTypes := ts3 }) (a4 : o4.op = .alloc 24) (a5 : o5.op = .alloc 24) (a6 : o6.op = .store 24 (.tmp 3) (.tmp 6)) (a7 : o7.op = .store 24 (.tmp 4) (.tmp 8))
    (g0 : o0.guard = none) (g1 : o1.guard = none) (g2 : o2.guard = none) (g3 : o3.guard = none) (g4 : o4.guard = none) (g5 : o5.guard = none) (g6 : o6.guard = none) (g7 : o7.guard = none)
    (d0 : o0.dst = some 5) (d1 : o1.dst = some 6) (d2 : o2.dst = some 7) (d3 : o3.dst = some 8) (d4 : o4.dst = some 3) (d5 : o5.dst = some 4) (d6 : o6.dst = none) (d7 : o7.dst = none)
    (p3 : ∀ (s3 s4 s5 s6 s7 s8 x : Value), (F s3 s4 s5 s6 s7 s8).put (some 3) x = F x s4 s5 s6 s7 s8) (p4 : ∀ (s3 s4 s5 s6 s7 s8 x : Value), (F s3 s4 s5 s6 s7 s8).put (some 4) x = F s3 x s5 s6 s7 s8) (p5 : ∀ (s3 s4 s5 s6 s7 s8 x : Value), (F s3 s4 s5 s6 s7 s8).put (some 5) x = F s3 s4 x s6 s7 s8) (p6 : ∀ (s3 s4 s5 s6 s7 s8 x : Value), (F s3 s4 s5 s6 s7 s8).put (some 6) x = F s3 s4 s5 x s7 s8) (p7 : ∀ (s3 s4 s5 s6 s7 s8 x : Value), (F s3 s4 s5 s6 s7 s8).put (some 7) x = F s3 s4 s5 s6 x s8) (p8 : ∀ (s3 s4 s5 s6 s7 s8 x : Value), (F s3 s4 s5 s6 s7 s8).put (some 8) x = F s3 s4 s5 s6 s7 x)
    (t1 : ∀ (s3 s4 s5 s6 s7 s8 : Value), (F s3 s4 s5 s6 s7 s8).tmps[1]?.getD undef = .pointer (some ⟨bn, 0, none⟩)) (t3 : ∀ (s3 s4 s5 s6 s7 s8 : Value), (F s3 s4 s5 s6 s7 s8).tmps[3]?.getD undef = s3) (t4 : ∀ (s3 s4 s5 s6 s7 s8 : Value), (F s3 s4 s5 s6 s7 s8).tmps[4]?.getD undef = s4) (t5 : ∀ (s3 s4 s5 s6 s7 s8 : Value), (F s3 s4 s5 s6 s7 s8).tmps[5]?.getD undef = s5) (t6 : ∀ (s3 s4 s5 s6 s7 s8 : Value), (F s3 s4 s5 s6 s7 s8).tmps[6]?.getD undef = s6) (t7 : ∀ (s3 s4 s5 s6 s7 s8 : Value), (F s3 s4 s5 s6 s7 s8).tmps[7]?.getD undef = s7) (t8 : ∀ (s3 s4 s5 s6 s7 s8 : Value), (F s3 s4 s5 s6 s7 s8).tmps[8]?.getD undef = s8)
    (hN : ∀ w, Below W.heap.size W w → Nd w bn v)
    (k0 : ∀ w, Below W.heap.size W w → Calls Try.prog 34 #[v.val, .int .i64 0] w fun e w' => e = .returned n0.val ∧ Below w.heap.size w w')
    (k1 : ∀ w, Below W.heap.size W w → Calls Try.prog 34 #[v.val, .int .i64 1] w fun e w' => e = .returned n1.val ∧ Below w.heap.size w w')
    (hfin : ∀ b3 b4 w, (Nd w b3 n0 ∧ Nd w b4 n1 ∧ Below W.heap.size W w) → Q .normal (F (.pointer (some ⟨b3, 0, none⟩)) (.pointer (some ⟨b4, 0, none⟩)) v.val n0.val v.val n1.val) w) :
    ∀ (fuel : Nat) (l5 l6 l7 l8 l3 l4 : Bool), (l6 = true → l5 = true) → (l8 = true → l6 = true ∧ l7 = true) → fuel + l5.toNat + l6.toNat + l7.toNat + l8.toNat + l3.toNat + l4.toNat = 8 → ∀ (w : World) (b3 b4 : Nat), Below W.heap.size W w → (l3 = true → Zc w b3 ∧ W.heap.size ≤ b3) → (l4 = true → Zc w b4 ∧ W.heap.size ≤ b4) → (l3 = true → l4 = true → b3 ≠ b4) →
      wpAny Try.prog .any ops Q fuel #[l5, l6, l7, l8, l3, l4, false, false] (F (bif l3 then .pointer (some ⟨b3, 0, none⟩) else undef) (bif l4 then .pointer (some ⟨b4, 0, none⟩) else undef) (bif l5 then v.val else undef) (bif l6 then n0.val else undef) (bif l7 then v.val else undef) (bif l8 then n1.val else undef)) w := by
  have wop : ∀ {i : Nat} {o : Oper} {a : Act} {w : World} {K : Act → World → Prop}, ops[i]? = some o → o.guard = none → o.wp Try.prog a w K Q → wpOp Try.prog ops Q i K a w := by
    intro i o a w K h hg hh
    unfold wpOp
    rw [h]
    simp only
    rw [if_pos (by simp [Region.wanted, hg])]
    exact .inl hh
  have hzn : ∀ {w : World}, Below W.heap.size W w → Below W.heap.size W (w.alloc zN) := fun hb => hb.alloc hb.size _
  intro fuel
  induction fuel with
  | zero => intro l5 l6 l7 l8 l3 l4 _ _ h; cases l5 <;> cases l6 <;> cases l7 <;> cases l8 <;> cases l3 <;> cases l4 <;> simp at h
  | succ fuel ih =>
    intro l5 l6 l7 l8 l3 l4 h6 h8 hc w b3 b4 hb z3 z4 hne
    refine wpAny_all (chk8_ready hchk l5 l6 l7 l8 l3 l4 h6 h8) ?_ ?_
    · cases l5 <;> cases l6 <;> cases l7 <;> cases l8 <;> cases l3 <;> cases l4 <;> simp at h6 h8 ⊢
    · intro i hi
      have hi' : (i = 0 ∧ l5 = false) ∨ (i = 1 ∧ l5 = true ∧ l6 = false) ∨ (i = 2 ∧ l7 = false) ∨ (i = 3 ∧ l6 = true ∧ l7 = true ∧ l8 = false) ∨ (i = 4 ∧ l3 = false) ∨ (i = 5 ∧ l4 = false) ∨ (i = 6 ∧ l5 = true ∧ l6 = true ∧ l7 = true ∧ l8 = true ∧ l3 = true ∧ l4 = true) := by
        clear ih hfin k0 k1 hN hchk
        revert hi
        cases l5 <;> cases l6 <;> cases l7 <;> cases l8 <;> cases l3 <;> cases l4 <;> simp
      clear hi
      rcases hi' with ⟨rfl, rfl⟩ | ⟨rfl, rfl, rfl⟩ | ⟨rfl, rfl⟩ | ⟨rfl, rfl, rfl, rfl⟩ | ⟨rfl, rfl⟩ | ⟨rfl, rfl⟩ | ⟨rfl, rfl, rfl, rfl, rfl, rfl, rfl⟩
      · refine wop q0 g0 (wpo_load 1 a0 (t1 ..) (hN w hb) ?_)
        rw [d0, p5]
        exact ih true l6 l7 l8 l3 l4 (fun _ => rfl) h8 (by simp at hc ⊢; omega) w b3 b4 hb z3 z4 hne
      · refine wop q1 g1 (wpo_kid (v := v) (n := n0) 5 a1 (t5 ..) (k0 w hb) fun w' hw => ?_)
        rw [d1, p6]
        exact ih true true l7 l8 l3 l4 (fun _ => rfl) (fun h => ⟨rfl, (h8 h).2⟩) (by simp at hc ⊢; omega) w' b3 b4 (hb.trans (hw.mono hb.size)) (fun h => ⟨(z3 h).1.next hw, (z3 h).2⟩) (fun h => ⟨(z4 h).1.next hw, (z4 h).2⟩) hne
      · refine wop q2 g2 (wpo_load 1 a2 (t1 ..) (hN w hb) ?_)
        rw [d2, p7]
        exact ih l5 l6 true l8 l3 l4 h6 (fun h => ⟨(h8 h).1, rfl⟩) (by simp at hc ⊢; omega) w b3 b4 hb z3 z4 hne
      · refine wop q3 g3 (wpo_kid (v := v) (n := n1) 7 a3 (t7 ..) (k1 w hb) fun w' hw => ?_)
        rw [d3, p8]
        exact ih l5 true true true l3 l4 h6 (fun _ => ⟨rfl, rfl⟩) (by simp at hc ⊢; omega) w' b3 b4 (hb.trans (hw.mono hb.size)) (fun h => ⟨(z3 h).1.next hw, (z3 h).2⟩) (fun h => ⟨(z4 h).1.next hw, (z4 h).2⟩) hne
      · refine wop q4 g4 (wpo_alloc a4 ?_)
        rw [d4, p3]
        exact ih l5 l6 l7 l8 true l4 h6 h8 (by simp at hc ⊢; omega) (w.alloc zN) w.heap.size b4 (hzn hb) (fun _ => ⟨Zc.new w, hb.size⟩) (fun h => ⟨(z4 h).1.alloc, (z4 h).2⟩) (fun _ h e => by have := cell_block (z4 h).1.1; simp at this; omega)
      · refine wop q5 g5 (wpo_alloc a5 ?_)
        rw [d5, p4]
        exact ih l5 l6 l7 l8 l3 true h6 h8 (by simp at hc ⊢; omega) (w.alloc zN) b3 w.heap.size (hzn hb) (fun h => ⟨(z3 h).1.alloc, (z3 h).2⟩) (fun _ => ⟨Zc.new w, hb.size⟩) (fun h _ e => by have := cell_block (z3 h).1.1; simp at this; omega)
      · obtain ⟨z3, m3⟩ := z3 rfl
        obtain ⟨z4, m4⟩ := z4 rfl
        have hne := hne rfl rfl
        obtain rfl : fuel = 1 := by simp at hc; omega
        refine wop q6 g6 (wpo_store (n := n0) 3 6 a6 (t3 ..) (t6 ..) (zc_store z3) ?_)
        rw [d6]
        refine wpAny_all (rs := [7]) hr7 (by simp) fun i hi => ?_
        obtain rfl := List.mem_singleton.1 hi
        refine wop q7 g7 (wpo_store (n := n1) 4 8 a7 (t4 ..) (t8 ..) (zc_store (zc_put (Ne.symm hne) z4)) ?_)
        rw [d7]
        exact ⟨hr8, hfin b3 b4 _ (fin8 hb z3 z4 hne m3 m4 rfl)⟩
end
set_option maxRecDepth 20000 in
set_option maxHeartbeats 4000000 in
theorem expression_any (w : World) (v : NC) (ns : List NC) (hl : v.l = ns.length) (hlm : ns.length ≤ 1000) (hR : RowAt w v.x ns) (hk : v.k = 1 ∨ v.k = 8 ∨ v.k = 6) : Calls Try.prog 28 #[.agg #[.int .i64 v.k, .int .i64 v.a, .string v.s, .slice v.x v.l v.c]] w fun e w' => ∃ vr, e = .returned vr ∧ w'.ownsRow w.heap.size 20 1 vr (partsOf v ns).length (partsOf v ns) ∧ Below w.heap.size w w' := by
  obtain ⟨PS, hPS⟩ : ∃ PS, PS = partsOf v ns := ⟨_, rfl⟩
  rw [← hPS]
  have hPSh : Hid (PS = partsOf v ns) := hPS
  clear hPS
  obtain ⟨W, hW⟩ : ∃ W, W = w.alloc (.cells #[.int .i64 v.k, .int .i64 v.a, .string v.s, .slice v.x v.l v.c] 24) := ⟨_, rfl⟩
  have hbW : Below w.heap.size w W := by rw [hW]; exact (Below.refl _ _).alloc (Nat.le_refl _) _
  have hsW : W.heap.size = w.heap.size + 1 := by rw [hW]; simp
  obtain ⟨p0, p1, p2, p3, pf⟩ := BoxN.cells (w := W) (b := w.heap.size) (n := v) (by rw [hW]; exact new_at _ _)
  have hRW := hR.next hbW
  have hNh : Hid (∀ X, Below W.heap.size W X → Nd X w.heap.size v) := fun X hb => ⟨keep_cell hb p0, keep_cell hb p1, keep_cell hb p2, keep_cell hb p3⟩
  have k0 : Hid (∀ X, Below W.heap.size W X → Calls Try.prog 34 #[v.val, .int .i64 0] X fun e w' => e = .returned (kidN ns 0).val ∧ Below X.heap.size X w') := fun X hX => kid_any X v ns 0 (by decide) hl hlm (hRW.next hX)
  have k1 : Hid (∀ X, Below W.heap.size W X → Calls Try.prog 34 #[v.val, .int .i64 1] X fun e w' => e = .returned (kidN ns 1).val ∧ Below X.heap.size X w') := fun X hX => kid_any X v ns 1 (by decide) hl hlm (hRW.next hX)
  have hdr : Hid (Below W.heap.size W W.drew) := (Below.refl _ _).drew
  obtain ⟨bn, hbn⟩ : ∃ bn, bn = w.heap.size := ⟨_, rfl⟩
  have hbnl : bn < W.heap.size := by omega
  have hlh : Hid (v.l = ns.length) := hl
  have hkh : Hid (v.k = 1 ∨ v.k = 8 ∨ v.k = 6) := hk
  clear pf hRW hsW hl hk hR
  go_enter Try.func28, Try.ntmps28
  go_upto_region 1 with fail
  rw [← hW]
  rw [← hbn] at p0 p1 p2 p3 hNh ⊢
  clear hW hbn
  go_cut [3, 4] from 3 to 8 (fun t3 t4 wx => ∃ b3 b4, t3 = .pointer (some ⟨b3, 0, none⟩) ∧ t4 = .pointer (some ⟨b4, 0, none⟩) ∧ (wx.cell? ⟨b3, 0, none⟩ = some (.int .i64 (kidN ns 0).k) ∧ wx.cell? ⟨b3, 1, none⟩ = some (.int .i64 (kidN ns 0).a) ∧ wx.cell? ⟨b3, 2, none⟩ = some (.string (kidN ns 0).s) ∧ wx.cell? ⟨b3, 3, none⟩ = some (.slice (kidN ns 0).x (kidN ns 0).l (kidN ns 0).c)) ∧ (wx.cell? ⟨b4, 0, none⟩ = some (.int .i64 (kidN ns 1).k) ∧ wx.cell? ⟨b4, 1, none⟩ = some (.int .i64 (kidN ns 1).a) ∧ wx.cell? ⟨b4, 2, none⟩ = some (.string (kidN ns 1).s) ∧ wx.cell? ⟨b4, 3, none⟩ = some (.slice (kidN ns 1).x (kidN ns 1).l (kidN ns 1).c)) ∧ Below W.heap.size W wx)
  case first =>
    refine wp_region_any (by kernel_rfl) (eight (W := W) (bn := bn) (v := v) (n0 := kidN ns 0) (n1 := kidN ns 1) (F := (fun s3 s4 s5 s6 s7 s8 => { tmps := List.toArray (.agg #[.int .i64 v.k, .int .i64 v.a, .string v.s, .slice v.x v.l v.c] :: .pointer (some ⟨bn, 0, none⟩) :: .slice none 0 0 :: s3 :: s4 :: s5 :: s6 :: s7 :: s8 :: undef :: undef :: undef :: undef :: undef :: undef :: undef :: undef :: undef :: undef :: undef :: undef :: undef :: undef :: undef :: undef :: undef :: undef :: undef :: undef :: undef :: undef :: undef :: undef :: undef :: undef :: undef :: undef :: undef :: undef :: undef :: undef :: undef :: undef :: undef :: undef :: undef :: undef :: undef :: undef :: undef :: undef :: undef :: undef :: undef :: undef :: undef :: undef :: undef :: undef :: undef :: undef :: undef :: undef :: undef :: undef :: undef :: undef :: undef :: undef :: undef :: undef :: undef :: undef :: undef :: undef :: undef :: undef :: undef :: undef :: undef :: undef :: undef :: undef :: undef :: undef :: undef :: undef :: undef :: undef :: undef :: undef :: undef :: undef :: undef :: undef :: undef :: undef :: undef :: undef :: undef :: undef :: undef :: undef :: undef :: undef :: undef :: undef :: undef :: undef :: undef :: undef :: undef :: undef :: undef :: undef :: undef :: undef :: undef :: undef :: undef :: []), defers := [] })) rfl rfl rfl rfl rfl rfl rfl rfl (by kernel_rfl) (by kernel_rfl) (by kernel_rfl) rfl rfl rfl rfl rfl rfl rfl rfl rfl rfl rfl rfl rfl rfl rfl rfl rfl rfl rfl rfl rfl rfl rfl rfl (fun _ _ _ _ _ _ _ => rfl) (fun _ _ _ _ _ _ _ => rfl) (fun _ _ _ _ _ _ _ => rfl) (fun _ _ _ _ _ _ _ => rfl) (fun _ _ _ _ _ _ _ => rfl) (fun _ _ _ _ _ _ _ => rfl) (fun _ _ _ _ _ _ => rfl) (fun _ _ _ _ _ _ => rfl) (fun _ _ _ _ _ _ => rfl) (fun _ _ _ _ _ _ => rfl) (fun _ _ _ _ _ _ => rfl) (fun _ _ _ _ _ _ => rfl) (fun _ _ _ _ _ _ => rfl) hNh.out k0.out k1.out ?_ 8 false false false false false false (by simp) (by simp) (by simp) W.drew 0 0 hdr.out (by simp) (by simp) (by simp))
    intro b3 b4 wq hq
    replace hq : Hid _ := hq
    (try dsimp only)
    go_wp2_with fail
    go_meet
    case rel => exact ⟨b3, b4, rfl, rfl, hq.out.1, hq.out.2.1, hq.out.2.2⟩
  case rest =>
    obtain ⟨b3, b4, rfl, rfl, ⟨x0, x1, x2, x3⟩, ⟨y0, y1, y2, y3⟩, hbx⟩ := hcut
    have g0 := keep_cell hbx p0
    have g2 := keep_cell hbx p2
    have hBf := Below.upto hbW hbx hbW.size
    have hs := hbx.size
    have hsw := hbW.size
    clear p0 p1 p2 p3 k0 k1 hNh hdr
    have hk := hkh.out
    clear hkh
    have hmx : 10 ≤ maxLen := by decide
    have fin : ∀ cs : Array Value, cs.toList = PS → PS.length ≤ 10 → ∀ k, k = PS.length → (wc.alloc (.cells cs 20)).ownsRow w.heap.size 20 1 (.slice (some ⟨wc.heap.size, 0, none⟩) k k) PS.length PS ∧ Below w.heap.size w (wc.alloc (.cells cs 20)) := fun cs h1 h2 k hk => by
      subst hk
      have hcs : cs.size = PS.length := by rw [← h1]; simp
      refine ⟨⟨by omega, .inr ⟨wc.heap.size, PS.length, cs, rfl, by omega, new_at _ _, Nat.le_refl _, by omega, by omega, by rw [h1]; exact List.take_of_length_le (by omega)⟩⟩, hBf.alloc (by omega) _⟩
    have finh : Hid _ := fin
    clear fin
    rcases hk with hk | hk | hk
    · have hp : PS = [.iface 9 (.string v.s)] := by rw [hPSh.out]; unfold partsOf; rw [if_neg (by omega)]
      have f1 : Hid _ := finh.out #[.iface 9 (.string v.s)] (by rw [hp]) (by rw [hp]; simp) 1 (by rw [hp]; rfl)
      clear hp finh hPSh
      rw [hk] at g0
      clear hk
      go_wp2
      go_ret
      exact ⟨_, rfl, f1.out⟩
    · have hp : PS = [.iface 9 (.string v.s)] := by rw [hPSh.out]; unfold partsOf; rw [if_neg (by omega)]
      have f1 : Hid _ := finh.out #[.iface 9 (.string v.s)] (by rw [hp]) (by rw [hp]; simp) 1 (by rw [hp]; rfl)
      clear hp finh hPSh
      rw [hk] at g0
      clear hk
      go_wp2
      go_ret
      exact ⟨_, rfl, f1.out⟩
    · have hp : PS = [.iface 24 (kidN ns 0).val, .iface 9 (.string ⟨#[32]⟩), .iface 9 (.string v.s), .iface 9 (.string ⟨#[32]⟩), .iface 24 (kidN ns 1).val] := by rw [hPSh.out]; unfold partsOf; rw [if_pos hk]
      have f1 : Hid _ := finh.out #[.iface 24 (kidN ns 0).val, .iface 9 (.string ⟨#[32]⟩), .iface 9 (.string v.s), .iface 9 (.string ⟨#[32]⟩), .iface 24 (kidN ns 1).val] (by rw [hp]) (by rw [hp]; simp) 5 (by rw [hp]; rfl)
      clear hp finh hPSh
      rw [hk] at g0
      clear hk
      go_wp2
      go_ret
      exact ⟨_, rfl, f1.out⟩
end Go.Proofs.Ytbfklindcmmncaa
