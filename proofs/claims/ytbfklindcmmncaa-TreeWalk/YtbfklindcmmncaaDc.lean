/- trees: rows of visits. -/
import Derived.Test.YtbfklindcmmncaaDb
namespace Go.Proofs.Ytbfklindcmmncaa
open Go.RowKit
/-- A visit: its number, its depth, its node's cells and tree. -/
structure VN where
  i : Nat
  d : Nat
  n : NC
  t : Tr
def VN.key (x : VN) : Nat × Nat × Tr := (x.i, x.d, x.t)
def VN.cells (x : VN) : List Value := .int .i64 (x.i : Int) :: .int .i64 (x.d : Int) :: x.n.cells
def flatV (xs : List VN) : List Value := xs.flatMap VN.cells
theorem flatV_len (xs : List VN) : (flatV xs).length = xs.length * 6 := by
  induction xs with
  | nil => rfl
  | cons n ns ih =>
    show (VN.cells n ++ flatV ns).length = _
    rw [List.length_append, ih, List.length_cons]
    show 6 + _ = _
    omega
theorem flatV_app (xs ys : List VN) : flatV (xs ++ ys) = flatV xs ++ flatV ys := by unfold flatV; rw [List.flatMap_append]
theorem flatV_one (x : VN) : flatV [x] = x.cells := by show x.cells ++ [] = _; rw [List.append_nil]
theorem flatV_cell (xs : List VN) : ∀ u ∈ flatV xs, u.oneCell' = true := by
  intro u hu
  unfold flatV at hu
  obtain ⟨n, _, hn⟩ := List.mem_flatMap.1 hu
  simp only [VN.cells, NC.cells, List.mem_cons, List.not_mem_nil, or_false] at hn
  rcases hn with rfl | rfl | rfl | rfl | rfl | rfl <;> rfl
theorem flatV_at {xs : List VN} {k j : Nat} (hk : k < xs.length) (hj : j < 6) : (flatV xs)[k * 6 + j]? = (xs[k]'hk).cells[j]? := by
  induction xs generalizing k with
  | nil => simp at hk
  | cons x xs ih =>
    show (x.cells ++ flatV xs)[k * 6 + j]? = _
    have hl : x.cells.length = 6 := rfl
    cases k with
    | zero => rw [List.getElem?_append_left (by omega)]; simp
    | succ k =>
      rw [List.getElem?_append_right (by omega), hl, show (k + 1) * 6 + j - 6 = k * 6 + j by omega, ih (by simpa using hk)]
      rfl
/-- Whether a number is among some. -/
def among (zs : List Int) (i : Nat) : Bool := zs.any fun z => z == (i : Int)
theorem among_take {zs : List Int} {j : Nat} (hj : j < zs.length) (i : Nat) : among (zs.take (j + 1)) i = (among (zs.take j) i || (zs[j]'hj == (i : Int))) := by
  unfold among
  rw [List.take_succ_eq_append_getElem hj, List.any_append]
  simp
mutual
theorem ov_len (ans : Nat → Bool) : ∀ (t : Tr) (i d : Nat), (ovT ans i d t).length ≤ t.size
  | .node k a s ks, i, d => by
    have := ovK_len ans ks (i + 1) (d + 1)
    unfold ovT Tr.size
    split
    · rw [List.length_cons]; omega
    · simp
theorem ovK_len (ans : Nat → Bool) : ∀ (ts : List Tr) (i d : Nat), (ovK ans i d ts).length ≤ sizes ts
  | [], i, d => by unfold ovK sizes; simp
  | t :: ts, i, d => by
    have h1 := ov_len ans t i d
    have h2 := ovK_len ans ts (i + t.size) d
    unfold ovK sizes
    rw [List.length_append]; omega
end
theorem ovK_take (ans : Nat → Bool) : ∀ (ks : List Tr) (j : Nat) (hj : j < ks.length) (i d : Nat), ovK ans i d (ks.take (j + 1)) = ovK ans i d (ks.take j) ++ ovT ans (i + sizes (ks.take j)) d (ks[j]'hj)
  | t :: ts, 0, _, i, d => by simp [ovK, sizes]
  | t :: ts, j + 1, hj, i, d => by
    simp only [List.take_succ_cons, ovK, sizes, List.getElem_cons_succ]
    rw [ovK_take ans ts j (by simpa using hj) (i + t.size) d, List.append_assoc, Nat.add_assoc]
end Go.Proofs.Ytbfklindcmmncaa
