/- trees: some at any depth, Cut. -/
import Derived.Test.YtbfklindcmmncaaAf
namespace Go.Proofs.Ytbfklindcmmncaa
open Go.RowKit
attribute [local go_sem ↓] Go.wp_at_zero Go.wp_at_succ
theorem some_any (d : Nat) : SomeSaid d := by
  induction d with
  | zero => exact some_step 0 (fun d' h => by omega)
  | succ d ih =>
    refine some_step (d + 1) (fun d' h => ?_)
    have e : d' = d := by omega
    rw [e]
    exact ih
set_option maxRecDepth 20000 in
set_option maxHeartbeats 4000000 in
/-- Cut answers a tree of at most 80 nodes, in new blocks. -/
theorem Cut_any (t : Tr) (w : World) (v : Value) (ht : TrV w (fun b => b < w.heap.size) v t) : Calls Try.prog 6 #[v] w fun e w' => ∃ v' t', e = .returned v' ∧ TrV w' (fun b => b < w'.heap.size) v' t' ∧ t'.size ≤ 80 ∧ Below w.heap.size w w' := by
  obtain ⟨k, a, s, x, l, c, rfl⟩ := trv_form ht
  obtain ⟨W, hW⟩ : ∃ W, W = ((w.alloc (.cells #[.int .i64 k, .int .i64 a, .string s, .slice x l c] 24)).alloc (.cells #[.int .i64 0, .int .i64 0, .string ⟨#[]⟩, .slice none 0 0] 24)).alloc (.cells #[.int .i64 80] 3) := ⟨_, rfl⟩
  have hbW : Below w.heap.size w W := by rw [hW]; exact (((Below.refl _ _).alloc (Nat.le_refl _) _).alloc (by simp) _).alloc (by simp; omega) _
  have hsz : W.heap.size = w.heap.size + 1 + 1 + 1 := by rw [hW]; simp
  have hG : GBox W (w.heap.size + 1 + 1) 80 := by
    show W.heap[_]? = _
    rw [hW]
    have := new_at ((w.alloc (.cells #[.int .i64 k, .int .i64 a, .string s, .slice x l c] 24)).alloc (.cells #[.int .i64 0, .int .i64 0, .string ⟨#[]⟩, .slice none 0 0] 24)) (.cells #[.int .i64 80] 3)
    rw [show ((w.alloc (.cells #[.int .i64 k, .int .i64 a, .string s, .slice x l c] 24)).alloc (.cells #[.int .i64 0, .int .i64 0, .string ⟨#[]⟩, .slice none 0 0] 24)).heap.size = w.heap.size + 1 + 1 by simp] at this
    exact this
  have hq1 : W.heap[w.heap.size]? = some (.cells #[.int .i64 k, .int .i64 a, .string s, .slice x l c] 24 (0, 0)) := by
    rw [hW, Below.heap_alloc _ _ _ (by simp; omega), Below.heap_alloc _ _ _ (by simp)]
    exact new_at _ _
  have hx2 : BoxN W (w.heap.size + 1) := by
    refine ⟨⟨0, 0, ⟨#[]⟩, none, 0, 0⟩, ?_⟩
    rw [hW, Below.heap_alloc _ _ _ (by simp)]
    have := new_at (w.alloc (.cells #[.int .i64 k, .int .i64 a, .string s, .slice x l c] 24)) (.cells #[.int .i64 0, .int .i64 0, .string ⟨#[]⟩, .slice none 0 0] 24)
    rw [show (w.alloc (.cells #[.int .i64 k, .int .i64 a, .string s, .slice x l c] 24)).heap.size = w.heap.size + 1 by simp] at this
    exact this
  obtain ⟨p0, p1, p2, p3, pf, pl⟩ := node_cells hq1
  have kS : Hid (Calls Try.prog 18 #[.agg #[.int .i64 k, .int .i64 a, .string s, .slice x l c], .int .i64 1, .pointer (some ⟨w.heap.size + 1 + 1, 0, none⟩)] W fun e w' => SomePost W (w.heap.size + 1 + 1) 80 e w') := some_any 11 t W _ w.heap.size (w.heap.size + 1 + 1) 80 1 (ht.next hbW) (by omega) hG (by decide) (by decide) (by decide) (by decide)
  clear ht hG hq1
  go_enter Try.func6, Try.ntmps6
  go_upto_region 2 with fail
  rw [← hW]
  clear hW
  go_wp2_with fail
  refine Calls.mono kS.out ?_
  rintro e w5 ⟨v5, t5, L5, rfl, hT5, hs5, hG5, hg5⟩
  clear kS
  obtain ⟨z1, z2, z3, z4, z5, z6, rfl⟩ := trv_form hT5
  have hs := hg5.size
  have hx5 : BoxN w5 (w.heap.size + 1) := hx2.same (hg5.block _ (by omega) (by simp))
  obtain ⟨q6, hq6⟩ := hx5
  obtain ⟨o0, o1, o2, o3, of⟩ := BoxN.cells hq6
  have of0 := of 0
  have of1 := of 1
  have of2 := of 2
  have of3 := of 3
  have hB5 : Below w.heap.size w w5 := hbW.grown hg5 hbW.size (by intro k hk; cases hk; omega)
  obtain ⟨W8, hW8⟩ : ∃ W8, W8 = (((w5.setCell ⟨w.heap.size + 1, 0, none⟩ (.int .i64 z1)).setCell ⟨w.heap.size + 1, 1, none⟩ (.int .i64 z2)).setCell ⟨w.heap.size + 1, 2, none⟩ (.string z3)).setCell ⟨w.heap.size + 1, 3, none⟩ (.slice z4 z5 z6) := ⟨_, rfl⟩
  have same : ∀ b, b ≠ w.heap.size + 1 → W8.heap[b]? = w5.heap[b]? := fun b hb => by
    rw [hW8, Below.heap_setCell _ _ _ _ hb, Below.heap_setCell _ _ _ _ hb, Below.heap_setCell _ _ _ _ hb, Below.heap_setCell _ _ _ _ hb]
  have hsz8 : W8.heap.size = w5.heap.size := by rw [hW8]; simp
  have hw1 : w.heap.size ≤ w.heap.size + 1 := by omega
  have hB8 : Below w.heap.size w W8 := by rw [hW8]; exact (((hB5.setCell hw1 _).setCell hw1 _).setCell hw1 _).setCell hw1 _
  have hfin : Hid (TrV W8 (fun b => b < W8.heap.size) (.agg #[.int .i64 z1, .int .i64 z2, .string z3, .slice z4 z5 z6]) t5) := TrV.same (fun p u hp hc => by rw [World.cell?_of_block (same p.block (by omega))]; exact hc) (fun b hb => by rw [hsz8]; exact hb.2) hT5
  have j0 : W8.cell? ⟨w.heap.size + 1, 0, none⟩ = some (.int .i64 z1) := by rw [hW8]; simp [go_sem, o0]
  have j1 : W8.cell? ⟨w.heap.size + 1, 1, none⟩ = some (.int .i64 z2) := by rw [hW8]; simp [go_sem, o1]
  have j2 : W8.cell? ⟨w.heap.size + 1, 2, none⟩ = some (.string z3) := by rw [hW8]; simp [go_sem, o2]
  have j3 : W8.cell? ⟨w.heap.size + 1, 3, none⟩ = some (.slice z4 z5 z6) := by rw [hW8]; simp [go_sem, o3]
  clear hT5 hG5 hg5 hq6 of
  go_wp2
  rw [← hW8]
  exact bodyPost_ret (v := .agg #[.int .i64 z1, .int .i64 z2, .string z3, .slice z4 z5 z6]) (by simp [results, Try.results6, go_sem, j0, j1, j2, j3]) rfl ⟨_, _, rfl, hfin.out, by omega, hB8⟩
end Go.Proofs.Ytbfklindcmmncaa
