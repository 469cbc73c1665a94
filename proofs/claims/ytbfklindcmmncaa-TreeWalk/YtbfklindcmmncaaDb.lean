/- trees: the visits of a walk, as the second road lists them; Walk without a visitor. -/
import Derived.Test.YtbfklindcmmncaaBk
import Derived.Test.YtbfklindcmmncaaDa
namespace Go.Proofs.Ytbfklindcmmncaa
open Go.RowKit
attribute [local go_sem ↓] Go.wp_at_zero Go.wp_at_succ
mutual
/-- The visits of a tree: number, depth, tree; below what is refused nothing is visited. -/
def ovT (ans : Nat → Bool) (i d : Nat) : Tr → List (Nat × Nat × Tr)
  | .node k a s ks => (i, d, .node k a s ks) :: (if ans i then ovK ans (i + 1) (d + 1) ks else [])
def ovK (ans : Nat → Bool) (i d : Nat) : List Tr → List (Nat × Nat × Tr)
  | [] => []
  | t :: ts => ovT ans i d t ++ ovK ans (i + t.size) d ts
end
mutual
theorem len_pre : ∀ (t : Tr) (d : Nat), (pre0 d t).length = t.size
  | .node k a s ks, d => by unfold pre0 Tr.size; rw [List.length_cons, len_preK ks]; omega
theorem len_preK : ∀ (ts : List Tr) (d : Nat), (preK d ts).length = sizes ts
  | [], d => by unfold preK sizes; rfl
  | t :: ts, d => by unfold preK sizes; rw [List.length_append, len_pre t, len_preK ts]
end
mutual
theorem dep_ge : ∀ (t : Tr) (d : Nat), ∀ x ∈ pre0 d t, d ≤ x.1
  | .node k a s ks, d => by
    unfold pre0
    intro x hx
    rcases List.mem_cons.1 hx with rfl | hx
    · exact Nat.le_refl _
    · have := dep_geK ks (d + 1) x hx; omega
theorem dep_geK : ∀ (ts : List Tr) (d : Nat), ∀ x ∈ preK d ts, d ≤ x.1
  | [], d => by unfold preK; intro x hx; cases hx
  | t :: ts, d => by
    unfold preK
    intro x hx
    rcases List.mem_append.1 hx with hx | hx
    · exact dep_ge t d x hx
    · exact dep_geK ts d x hx
end
def Low (d : Nat) (l : List (Nat × Tr)) : Prop := ∀ x xs, l = x :: xs → x.1 ≤ d
theorem walk_skip (ans : Nat → Bool) (d : Nat) (rest : List (Nat × Tr)) : ∀ (xs : List (Nat × Tr)) (i : Nat), (∀ x ∈ xs, d < x.1) → walkV ans i (some d) (xs ++ rest) = walkV ans (i + xs.length) (some d) rest
  | [], i, _ => by simp
  | (e, t) :: xs, i, h => by
    have h0 : d < e := h (e, t) (by simp)
    rw [List.cons_append, walkV, if_pos (by simp [skips, h0]), walk_skip ans d rest xs (i + 1) (fun x hx => h x (by simp [hx])), List.length_cons]
    congr 1
    omega
theorem walk_low (ans : Nat → Bool) (d i : Nat) (rest : List (Nat × Tr)) (h : Low d rest) : walkV ans i (some d) rest = walkV ans i none rest := by
  cases rest with
  | nil => simp [walkV]
  | cons x xs =>
    obtain ⟨e, t⟩ := x
    have h0 : e ≤ d := h _ _ rfl
    rw [walkV, walkV, if_neg (show ¬ skips (some d) e = true by simp [skips]; omega), if_neg (show ¬ skips none e = true by simp [skips])]
theorem low_kids (d : Nat) (ts : List Tr) (rest : List (Nat × Tr)) (h : Low d rest) : Low d (preK d ts ++ rest) := by
  intro x xs e
  cases ts with
  | nil => unfold preK at e; exact h x xs (by simpa using e)
  | cons t ts =>
    obtain ⟨k, a, s, ks⟩ := t
    unfold preK pre0 at e
    simp at e
    rw [← e.1]
    exact Nat.le_refl _
mutual
theorem walk_ov (ans : Nat → Bool) : ∀ (t : Tr) (i d : Nat) (rest : List (Nat × Tr)), Low d rest → walkV ans i none (pre0 d t ++ rest) = ovT ans i d t ++ walkV ans (i + t.size) none rest
  | .node k a s ks, i, d, rest, h => by
    unfold pre0 ovT Tr.size
    rw [List.cons_append, walkV, if_neg (by simp [skips])]
    have h1 : Low (d + 1) rest := fun x xs e => by have := h x xs e; omega
    cases ha : ans i with
    | true =>
      simp only [if_true]
      rw [walk_ovK ans ks (i + 1) (d + 1) rest h1, List.cons_append, show i + (1 + sizes ks) = i + 1 + sizes ks by omega]
    | false =>
      simp only [Bool.false_eq_true, if_false]
      rw [walk_skip ans d rest (preK (d + 1) ks) (i + 1) (fun x hx => by have := dep_geK ks (d + 1) x hx; omega), len_preK, walk_low ans d _ rest h, show i + (1 + sizes ks) = i + 1 + sizes ks by omega]
      rfl
theorem walk_ovK (ans : Nat → Bool) : ∀ (ts : List Tr) (i d : Nat) (rest : List (Nat × Tr)), Low d rest → walkV ans i none (preK d ts ++ rest) = ovK ans i d ts ++ walkV ans (i + sizes ts) none rest
  | [], i, d, rest, h => by unfold preK ovK sizes; simp
  | t :: ts, i, d, rest, h => by
    unfold preK ovK sizes
    rw [List.append_assoc, walk_ov ans t i d _ (low_kids d ts rest h), walk_ovK ans ts (i + t.size) d rest h, List.append_assoc, show i + (t.size + sizes ts) = i + t.size + sizes ts by omega]
end
/-- What Walk visits is what the second road lists. -/
theorem walk_all (ans : Nat → Bool) (t : Tr) : walkV ans 0 none (pre0 0 t) = ovT ans 0 0 t := by
  have := walk_ov ans t 0 0 [] (fun _ _ e => by cases e)
  rw [List.append_nil] at this
  rw [this]
  simp [walkV]
set_option maxRecDepth 20000 in
set_option maxHeartbeats 2000000 in
theorem Walk_nil (w : World) (v : NC) : Calls Try.prog 8 #[v.val, .nilFunc] w fun e w' => (∃ u, e = .returned u) ∧ Below w.heap.size w w' := by
  rw [show #[v.val, Value.nilFunc] = #[Value.agg #[.int .i64 v.k, .int .i64 v.a, .string v.s, .slice v.x v.l v.c], Value.nilFunc] from rfl]
  have hb : Hid (Below w.heap.size w (w.alloc (.cells #[.int .i64 v.k, .int .i64 v.a, .string v.s, .slice v.x v.l v.c] 24))) := (Below.refl _ _).alloc (Nat.le_refl _) _
  have hn : ∀ X, Sem.run Try.prog (binOp .eql 35 .nilFunc .nilFunc) X = .ok (.bool true) X := fun X => by rfl
  go_enter Try.func8, Try.ntmps8
  go_wp2
  refine bodyPost_ret (results_none (by rfl) _ _ _) rfl ?_
  exact ⟨⟨_, rfl⟩, hb.out⟩
end Go.Proofs.Ytbfklindcmmncaa
