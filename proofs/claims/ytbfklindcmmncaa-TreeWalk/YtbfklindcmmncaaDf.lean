/- trees: single steps of a region that only reads, in a class of worlds. -/
import Derived.Test.YtbfklindcmmncaaAg
import Derived.BigQuiet
namespace Go.Proofs.Ytbfklindcmmncaa
open Go.RowKit
attribute [local go_sem ↓] Go.wp_at_zero Go.wp_at_succ
/-- A region walked once, in a class of worlds of one's own. -/
theorem reg_class {P : Program} {C : World → Prop} {id : Nat} {Q : Exit → Act → World → Prop} {a : Act} {w : World} {l : List Oper} (hm : P.follows .mixedOrders = true) (hB : Region.lexB .any l.toArray = true) (hC : C w.drew) (h : wpQuiet P l.toArray C (fun a' => ∀ w', C w' → Q .normal a' w') l a) : (Code.region id l.toArray true).wp P Q a w :=
  wp_region_quiet (C := C) hm hB hC (by simpa using h)
theorem qs_load {C : World → Prop} {o : Oper} {a : Act} {K : Act → Prop} {p : Addr} {u : Value} (ty : Nat) (i : Nat) (hty : ty = 3 ∨ ty = 28 ∨ ty = 4 ∨ ty = 25) (ho : o.op = .load ty (.tmp i)) (hx : a.tmps[i]?.getD undef = .pointer (some p)) (hC : ∀ X, C X → X.cell? p = some u) (hk : K (a.put o.dst u)) : o.quiet Try.prog a C K := by
  refine ⟨u, fun X hX => ?_, hk⟩
  have h0 := hC X hX
  unfold Oper.quietAt
  rcases o with ⟨d, op, ty', ps, af, g⟩
  obtain rfl : op = .load ty (.tmp i) := ho
  rcases hty with rfl | rfl | rfl | rfl <;> simp [go_sem, hx, h0]
theorem qs_len {C : World → Prop} {o : Oper} {a : Act} {K : Act → Prop} (i : Nat) {x : Option Addr} {n c : Nat} (ho : o.op = .call { callee := .builtin .len, args := #[.tmp i], argTypes := #[28] }) (hty : o.type = 3) (hx : a.tmps[i]?.getD undef = .slice x n c) (hk : K (a.put o.dst (.int .i64 (n : Int)))) : o.quiet Try.prog a C K := by
  refine ⟨.int .i64 (n : Int), fun X hX => ?_, hk⟩
  unfold Oper.quietAt
  rcases o with ⟨d, op, ty', ps, af, g⟩
  obtain rfl : op = .call { callee := .builtin .len, args := #[.tmp i], argTypes := #[28] } := ho
  obtain rfl : ty' = 3 := hty
  simp [go_sem, hx]
theorem qs_geq {C : World → Prop} {o : Oper} {a : Act} {K : Act → Prop} (i j : Nat) {x y : Int} (ho : o.op = .binOp .geq 3 (.tmp i) (.tmp j) 3) (hx : a.tmps[i]?.getD undef = .int .i64 x) (hy : a.tmps[j]?.getD undef = .int .i64 y) (hlt : x < y) (hk : K (a.put o.dst (.bool false))) : o.quiet Try.prog a C K := by
  refine ⟨.bool false, fun X hX => ?_, hk⟩
  unfold Oper.quietAt
  rcases o with ⟨d, op, ty', ps, af, g⟩
  obtain rfl : op = .binOp .geq 3 (.tmp i) (.tmp j) 3 := ho
  simp [go_sem, hx, hy]
  omega
theorem qs_neq {C : World → Prop} {o : Oper} {a : Act} {K : Act → Prop} (i j : Nat) {x : Int} (ho : o.op = .binOp .neq 3 (.tmp i) (.tmp j) 3) (hx : a.tmps[i]?.getD undef = .int .i64 x) (hy : a.tmps[j]?.getD undef = .int .i64 x) (hk : K (a.put o.dst (.bool false))) : o.quiet Try.prog a C K := by
  refine ⟨.bool false, fun X hX => ?_, hk⟩
  unfold Oper.quietAt
  rcases o with ⟨d, op, ty', ps, af, g⟩
  obtain rfl : op = .binOp .neq 3 (.tmp i) (.tmp j) 3 := ho
  simp [go_sem, hx, hy]
theorem qs_eql {C : World → Prop} {o : Oper} {a : Act} {K : Act → Prop} (i j : Nat) {x : Int} (ho : o.op = .binOp .eql 3 (.tmp i) (.tmp j) 3) (hx : a.tmps[i]?.getD undef = .int .i64 x) (hy : a.tmps[j]?.getD undef = .int .i64 x) (hk : K (a.put o.dst (.bool true))) : o.quiet Try.prog a C K := by
  refine ⟨.bool true, fun X hX => ?_, hk⟩
  unfold Oper.quietAt
  rcases o with ⟨d, op, ty', ps, af, g⟩
  obtain rfl : op = .binOp .eql 3 (.tmp i) (.tmp j) 3 := ho
  simp [go_sem, hx, hy]
theorem qs_pickT {C : World → Prop} {o : Oper} {a : Act} {K : Act → Prop} (i j : Nat) {v : Value} (ho : o.op = .pick (.tmp i) (.const (.bool true)) (.tmp j)) (hx : a.tmps[i]?.getD undef = .bool false) (hy : a.tmps[j]?.getD undef = v) (hk : K (a.put o.dst v)) : o.quiet Try.prog a C K := by
  refine ⟨v, fun X hX => ?_, hk⟩
  unfold Oper.quietAt
  rcases o with ⟨d, op, ty, ps, af, g⟩
  obtain rfl : op = .pick (.tmp i) (.const (.bool true)) (.tmp j) := ho
  simp [go_sem, hx, hy]
theorem qs_pickF {C : World → Prop} {o : Oper} {a : Act} {K : Act → Prop} (i j : Nat) {v : Value} (ho : o.op = .pick (.tmp i) (.tmp j) (.const (.bool false))) (hx : a.tmps[i]?.getD undef = .bool true) (hy : a.tmps[j]?.getD undef = v) (hk : K (a.put o.dst v)) : o.quiet Try.prog a C K := by
  refine ⟨v, fun X hX => ?_, hk⟩
  unfold Oper.quietAt
  rcases o with ⟨d, op, ty, ps, af, g⟩
  obtain rfl : op = .pick (.tmp i) (.tmp j) (.const (.bool false)) := ho
  simp [go_sem, hx, hy]
theorem qs_index {C : World → Prop} {o : Oper} {a : Act} {K : Act → Prop} (i j : Nat) {g n c k : Nat} (ho : o.op = .indexAddr 28 (.tmp i) (.tmp j)) (hx : a.tmps[i]?.getD undef = .slice (some ⟨g, 0, none⟩) n c) (hy : a.tmps[j]?.getD undef = .int .i64 (k : Int)) (hlt : k < n) (hk : K (a.put o.dst (.pointer (some ⟨g, k * 6, none⟩)))) : o.quiet Try.prog a C K := by
  refine ⟨.pointer (some ⟨g, k * 6, none⟩), fun X hX => ?_, hk⟩
  unfold Oper.quietAt
  rcases o with ⟨d, op, ty, ps, af, g'⟩
  obtain rfl : op = .indexAddr 28 (.tmp i) (.tmp j) := ho
  simp [go_sem, hx, hy, hlt]
theorem qs_field {C : World → Prop} {o : Oper} {a : Act} {K : Act → Prop} (i f : Nat) {g p : Nat} (hf : f = 0 ∨ f = 1 ∨ f = 2) (ho : o.op = .fieldAddr 33 (.tmp i) f) (hx : a.tmps[i]?.getD undef = .pointer (some ⟨g, p, none⟩)) (hk : K (a.put o.dst (.pointer (some ⟨g, p + f, none⟩)))) : o.quiet Try.prog a C K := by
  refine ⟨.pointer (some ⟨g, p + f, none⟩), fun X hX => ?_, hk⟩
  unfold Oper.quietAt
  rcases o with ⟨d, op, ty, ps, af, g'⟩
  obtain rfl : op = .fieldAddr 33 (.tmp i) f := ho
  rcases hf with rfl | rfl | rfl <;> simp [go_sem, hx]
theorem qs_node {C : World → Prop} {o : Oper} {a : Act} {K : Act → Prop} {b p : Nat} {n : NC} (i : Nat) (ho : o.op = .load 24 (.tmp i)) (hx : a.tmps[i]?.getD undef = .pointer (some ⟨b, p, none⟩)) (hC : ∀ X, C X → X.cell? ⟨b, p, none⟩ = some (.int .i64 n.k) ∧ X.cell? ⟨b, p + 1, none⟩ = some (.int .i64 n.a) ∧ X.cell? ⟨b, p + 2, none⟩ = some (.string n.s) ∧ X.cell? ⟨b, p + 3, none⟩ = some (.slice n.x n.l n.c)) (hk : K (a.put o.dst n.val)) : o.quiet Try.prog a C K := by
  refine ⟨n.val, fun X hX => ?_, hk⟩
  obtain ⟨h0, h1, h2, h3⟩ := hC X hX
  unfold Oper.quietAt
  rcases o with ⟨d, op, ty, ps, af, g⟩
  obtain rfl : op = .load 24 (.tmp i) := ho
  simp [go_sem, hx, h0, h1, h2, h3, NC.val]
theorem qs_call2 {C : World → Prop} {o : Oper} {a : Act} {K : Act → Prop} (f i j : Nat) {v : Value} {va vb : Value} {ts : Array Nat} (ho : o.op = .call { callee := .value (.func f), args := #[.tmp i, .tmp j], argTypes := ts }) (hx : a.tmps[i]?.getD undef = va) (hy : a.tmps[j]?.getD undef = vb) (hf : ∀ X, Sem.run Try.prog (callFunc f #[va, vb]) X = .ok (.enter f #[va, vb]) X) (hC : ∀ X, C X → Calls Try.prog f #[va, vb] X fun e X' => e = .returned v ∧ C X') (hk : K (a.put o.dst v)) : o.quiet Try.prog a C K := by
  refine ⟨v, fun X hX => ?_, hk⟩
  have := hC X hX
  unfold Oper.quietAt
  rcases o with ⟨d, op, ty, ps, af, g⟩
  obtain rfl : op = .call { callee := .value (.func f), args := #[.tmp i, .tmp j], argTypes := ts } := ho
  simp [go_sem, hx, hy, hf]
  exact this
theorem qs_call1 {C : World → Prop} {o : Oper} {a : Act} {K : Act → Prop} (f i : Nat) {v : Value} {va : Value} {ts : Array Nat} (ho : o.op = .call { callee := .value (.func f), args := #[.tmp i], argTypes := ts }) (hx : a.tmps[i]?.getD undef = va) (hf : ∀ X, Sem.run Try.prog (callFunc f #[va]) X = .ok (.enter f #[va]) X) (hC : ∀ X, C X → Calls Try.prog f #[va] X fun e X' => e = .returned v ∧ C X') (hk : K (a.put o.dst v)) : o.quiet Try.prog a C K := by
  refine ⟨v, fun X hX => ?_, hk⟩
  have := hC X hX
  unfold Oper.quietAt
  rcases o with ⟨d, op, ty, ps, af, g⟩
  obtain rfl : op = .call { callee := .value (.func f), args := #[.tmp i], argTypes := ts } := ho
  simp [go_sem, hx, hf]
  exact this
theorem qs_not {C : World → Prop} {o : Oper} {a : Act} {K : Act → Prop} (i : Nat) (ho : o.op = .unOp .not 4 (.tmp i)) (hx : a.tmps[i]?.getD undef = .bool true) (hk : K (a.put o.dst (.bool false))) : o.quiet Try.prog a C K := by
  refine ⟨.bool false, fun X hX => ?_, hk⟩
  unfold Oper.quietAt
  rcases o with ⟨d, op, ty, ps, af, g⟩
  obtain rfl : op = .unOp .not 4 (.tmp i) := ho
  simp [go_sem, hx]
end Go.Proofs.Ytbfklindcmmncaa
