/- trees: the opening check. -/
import Derived.Test.YtbfklindcmmncaaCh
namespace Go.Proofs.Ytbfklindcmmncaa
open Go.RowKit Go.Shelf
attribute [local go_sem ↓] Go.wp_at_zero Go.wp_at_succ
def sW (vs : List (Nat × Nat × Tr)) : Int := vs.foldl (fun a x => wrap64 (a + (10 * (x.1 : Int) + (x.2.1 : Int)))) 0
theorem sW_snoc (vs : List (Nat × Nat × Tr)) (i d : Nat) (t : Tr) : sW (vs ++ [(i, d, t)]) = wrap64 (sW vs + (10 * (i : Int) + (d : Int))) := by
  unfold sW; rw [List.foldl_append]; rfl
set_option maxRecDepth 20000 in
set_option maxHeartbeats 2000000 in
theorem begun1_any (kb : Nat) (vs : List (Nat × Nat × Tr)) (i d : Nat) (x : NC) (t' : Tr) (W : World) (hJ : Boxed W kb 3 (.int .i64 (sW vs))) (hi : i < 1000) (hd : d < 1000) :
    Calls Try.prog 16 #[.int .i64 (i : Int), .int .i64 (d : Int), .agg #[.int .i64 x.k, .int .i64 x.a, .string x.s, .slice x.x x.l x.c], .pointer (some ⟨kb, 0, none⟩)] W fun e W' => e = .returned (.bool true) ∧ Boxed W' kb 3 (.int .i64 (sW (vs ++ [(i, d, t')]))) ∧ Rnd (fun _ b => b = kb) W W' := by
  have hc := hJ.cell
  have hf := hJ.frozen
  have hl := hJ.lt
  have h1 : IntKind.i64.wrap (10 * (i : Int)) = 10 * (i : Int) := by rw [IntKind.wrap_i64]; omega
  have h2 : IntKind.i64.wrap (10 * (i : Int) + (d : Int)) = 10 * (i : Int) + (d : Int) := by rw [IntKind.wrap_i64]; omega
  have hs := sW_snoc vs i d t'
  obtain ⟨S', hS'⟩ : ∃ S', S' = sW (vs ++ [(i, d, t')]) := ⟨_, rfl⟩
  rw [← hS'] at hs ⊢
  have hsh : Hid (wrap64 (sW vs + (10 * (i : Int) + (d : Int))) = S') := hs.symm
  clear hS' hs
  go_enter Try.func16, Try.ntmps16
  go_wp2
  go_ret
  rw [hsh.out]
  refine ⟨rfl, ?_, ?_⟩
  · first | exact (hJ.alloc _).set _ | exact (hJ.set _).alloc _
  · refine ⟨rfl, rfl, rfl, by simp, fun b hb hne => ?_, fun _ h => .inl h⟩
    first
      | exact (Below.heap_setCell _ _ _ _ hne).trans (Below.heap_alloc _ _ _ hb)
      | exact (Below.heap_alloc _ _ _ (by simp; exact hb)).trans (Below.heap_setCell _ _ _ _ hne)
def tA : Tr := .node 1 0 ⟨#[97]⟩ []
def tB : Tr := .node 8 0 ⟨#[49]⟩ []
def tAB : Tr := .node 6 0 ⟨#[43]⟩ [tA, tB]
def nA : NC := ⟨1, 0, ⟨#[97]⟩, none, 0, 0⟩
def nB : NC := ⟨8, 0, ⟨#[49]⟩, none, 0, 0⟩
def nAB (r : Nat) : NC := ⟨6, 0, ⟨#[43]⟩, some ⟨r, 0, none⟩, 2, 2⟩
theorem pre_begun : pre0 0 tAB = [(0, tAB), (1, tA), (1, tB)] := by unfold tAB tA tB; simp [pre0, preK]
theorem walk_begun : walkV (fun _ => true) 0 none (pre0 0 tAB) = [(0, 0, tAB), (1, 1, tA), (2, 1, tB)] := by rw [pre_begun]; simp [walkV, skips]
theorem sW_begun : sW (walkV (fun _ => true) 0 none (pre0 0 tAB)) = 32 := by rw [walk_begun]; simp [sW, wrap64]
theorem size_begun : tAB.size = 3 := by unfold tAB tA tB; simp [Tr.size, sizes]
theorem depth_begun : maxD (pre0 0 tAB) + 1 = 2 := by rw [pre_begun]; rfl
theorem tree_begun {w : World} {r : Nat} {P : Nat → Prop} (hP : P r) (hr : w.heap[r]? = some (.cells #[.int .i64 1, .int .i64 0, .string ⟨#[97]⟩, .slice none 0 0, .int .i64 8, .int .i64 0, .string ⟨#[49]⟩, .slice none 0 0] 24 (0, 0))) : TrV w P (nAB r).val tAB ∧ RowAt w (nAB r).x [nA, nB] := by
  have cell : ∀ j v, #[Value.int .i64 1, .int .i64 0, .string ⟨#[97]⟩, .slice none 0 0, .int .i64 8, .int .i64 0, .string ⟨#[49]⟩, .slice none 0 0][j]? = some v → w.cell? ⟨r, j, none⟩ = some v := fun j v h => by simp [World.cell?, hr]; simpa using h
  have leaf : ∀ (n : NC) (t : Tr) (k a : Int) (s : ByteArray), n = ⟨k, a, s, none, 0, 0⟩ → t = .node k a s [] → TrV w P n.val t := fun n t k a s h1 h2 => by
    subst h1 h2
    unfold TrV
    exact ⟨none, 0, 0, rfl, rfl, Nat.le_refl _, by decide, by unfold KidsAt; trivial⟩
  have hrow : RowAt w (nAB r).x [nA, nB] := fun j hj => by
    refine ⟨⟨r, 0, none⟩, rfl, ?_⟩
    match j, hj with
    | 0, _ => exact ⟨cell 0 _ rfl, cell 1 _ rfl, cell 2 _ rfl, cell 3 _ rfl⟩
    | 1, _ => exact ⟨cell 4 _ rfl, cell 5 _ rfl, cell 6 _ rfl, cell 7 _ rfl⟩
  refine ⟨?_, hrow⟩
  unfold tAB TrV
  refine ⟨some ⟨r, 0, none⟩, 2, 2, rfl, rfl, Nat.le_refl _, by decide, ?_⟩
  unfold KidsAt
  refine ⟨⟨⟨r, 0, none⟩, _, _, _, _, _, _, rfl, hP, cell 0 _ rfl, cell 1 _ rfl, cell 2 _ rfl, cell 3 _ rfl, leaf nA tA _ _ _ rfl rfl⟩, ?_⟩
  unfold KidsAt
  refine ⟨⟨⟨r, 0, none⟩, _, _, _, _, _, _, rfl, hP, cell 4 _ rfl, cell 5 _ rfl, cell 6 _ rfl, cell 7 _ rfl, leaf nB tB _ _ _ rfl rfl⟩, ?_⟩
  unfold KidsAt
  trivial
/-- The sum that the opening check lays. -/
def Bgn (r : Nat) (X : World) : Prop :=
  X.heap[r]? = some (.cells #[.int .i64 1, .int .i64 0, .string ⟨#[97]⟩, .slice none 0 0, .int .i64 8, .int .i64 0, .string ⟨#[49]⟩, .slice none 0 0] 24 (0, 0)) ∧
  X.heap[r + 1]? = some (.cells #[.int .i64 6, .int .i64 0, .string ⟨#[43]⟩, .slice (some ⟨r, 0, none⟩) 2 2] 24 (0, 0))
theorem Bgn.lt {r : Nat} {X : World} (h : Bgn r X) : r + 1 < X.heap.size := by
  rcases Nat.lt_or_ge (r + 1) X.heap.size with h' | h'
  · exact h'
  · rw [Bgn, Array.getElem?_eq_none h'] at h; cases h.2
theorem Bgn.next {r : Nat} {X Y : World} (h : Bgn r X) (hb : Below X.heap.size X Y) : Bgn r Y :=
  ⟨(hb.block _ (by have := h.lt; omega)).trans h.1, (hb.block _ h.lt).trans h.2⟩
theorem Bgn.cells {r : Nat} {X : World} (h : Bgn r X) : X.cell? ⟨r + 1, 0, none⟩ = some (.int .i64 6) ∧ X.cell? ⟨r + 1, 0 + 1, none⟩ = some (.int .i64 0) ∧ X.cell? ⟨r + 1, 0 + 2, none⟩ = some (.string ⟨#[43]⟩) ∧ X.cell? ⟨r + 1, 0 + 3, none⟩ = some (.slice (some ⟨r, 0, none⟩) 2 2) := by
  obtain ⟨q0, q1, q2, q3, _⟩ := BoxN.cells (w := X) (b := r + 1) (n := nAB r) h.2
  exact ⟨q0, q1, q2, q3⟩
theorem Bgn.tree {r : Nat} {X : World} (h : Bgn r X) : TrV X (fun b => b < X.heap.size) (nAB r).val tAB := (tree_begun (P := fun b => b < X.heap.size) (by have := h.lt; omega) h.1).1
theorem bgn_walk (r : Nat) (X : World) (h : Bgn r X) (h2 : Boxed X (r + 1 + 1) 3 (.int .i64 0)) : Calls Try.prog 8 #[.agg #[.int .i64 6, .int .i64 0, .string ⟨#[43]⟩, .slice (some ⟨r, 0, none⟩) 2 2], .func (.func 16) #[] #[.pointer (some ⟨r + 1 + 1, 0, none⟩)]] X fun e X' => (∃ u, e = .returned u) ∧ Boxed X' (r + 1 + 1) 3 (.int .i64 32) ∧ Bgn r X' ∧ Below r X X' := by
  have hl := h2.lt
  have kW := Walk16_any (r + 1 + 1) (fun b => b = r + 1 + 1) (fun _ => true) (fun vs W => Boxed W (r + 1 + 1) 3 (.int .i64 (sW vs))) (fun b => b = r) tAB X (nAB r) (fun b hb => ⟨by omega, by omega⟩) (fun b hb => by omega) (tree_begun (P := fun b => b = r) rfl h.1).1 (by rw [size_begun]; decide)
    (fun vs W W' hj hs hst => (hst.block _ hj.lt (.inr rfl)).trans hj) (fun vs i d x t' W hj hs hi hd _ _ => begun1_any (r + 1 + 1) vs i d x t' W hj hi hd) h2
  rw [sW_begun] at kW
  refine Calls.mono kW ?_
  rintro e X' ⟨he, hx, hR⟩
  refine ⟨he, hx, ⟨(hR.block _ (by omega) (by omega)).trans h.1, (hR.block _ (by omega) (by omega)).trans h.2⟩, ⟨hR.os, hR.tape, hR.output, hR.size, fun b hb => hR.block b (by omega) (by omega)⟩⟩
theorem bgn_count (r : Nat) (X : World) (h : Bgn r X) : Calls Try.prog 11 #[.agg #[.int .i64 6, .int .i64 0, .string ⟨#[43]⟩, .slice (some ⟨r, 0, none⟩) 2 2]] X fun e X' => e = .returned (.int .i64 3) ∧ Bgn r X' ∧ Below r X X' := by
  refine Calls.mono (Count_any tAB X (nAB r) h.tree (by rw [size_begun]; decide)) ?_
  rintro e X' ⟨rfl, hb⟩
  exact ⟨by rw [size_begun]; rfl, h.next hb, hb.mono (by have := h.lt; omega)⟩
theorem bgn_depth (r : Nat) (X : World) (h : Bgn r X) : Calls Try.prog 13 #[.agg #[.int .i64 6, .int .i64 0, .string ⟨#[43]⟩, .slice (some ⟨r, 0, none⟩) 2 2]] X fun e X' => e = .returned (.int .i64 2) ∧ Bgn r X' ∧ Below r X X' := by
  refine Calls.mono (Depth_any tAB X (nAB r) h.tree (by rw [size_begun]; decide)) ?_
  rintro e X' ⟨rfl, hb⟩
  exact ⟨by rw [depth_begun]; rfl, h.next hb, hb.mono (by have := h.lt; omega)⟩
theorem bgn_eq (r : Nat) (X : World) (h : Bgn r X) : Calls Try.prog 15 #[.agg #[.int .i64 6, .int .i64 0, .string ⟨#[43]⟩, .slice (some ⟨r, 0, none⟩) 2 2], .agg #[.int .i64 6, .int .i64 0, .string ⟨#[43]⟩, .slice (some ⟨r, 0, none⟩) 2 2]] X fun e X' => e = .returned (.bool true) ∧ Bgn r X' ∧ Below r X X' := by
  have hs : tAB.size ≤ 1000 := by rw [size_begun]; decide
  refine Calls.mono (Eq_any tAB tAB X (nAB r).val (nAB r).val hs hs h.tree h.tree) ?_
  rintro e X' ⟨rfl, hb⟩
  exact ⟨by rw [eqT_refl], h.next hb, hb.mono (by have := h.lt; omega)⟩
theorem bgn_print (r : Nat) (X : World) (h : Bgn r X) : Calls Try.prog 17 #[.agg #[.int .i64 6, .int .i64 0, .string ⟨#[43]⟩, .slice (some ⟨r, 0, none⟩) 2 2]] X fun e X' => e = .returned (.string ⟨#[97, 32, 43, 32, 49]⟩) ∧ Bgn r X' ∧ Below r X X' := by
  have hl := h.lt
  refine Calls.mono (Print_bin X (nAB r) nA nB ⟨rfl, rfl, (tree_begun (P := fun b => b = r) rfl h.1).2, fun ad e => ?_, ⟨.inl rfl, rfl⟩, ⟨.inr rfl, rfl⟩⟩ (show 5 ≤ 5000 by decide) (fun h => by cases h)) ?_
  · cases e; show r < _; omega
  · rintro e X' ⟨rfl, hb⟩
    exact ⟨rfl, h.next hb, hb.mono (by omega)⟩
theorem Bgn.drew {r : Nat} {X : World} (h : Bgn r X) : Bgn r X.drew := h
set_option maxRecDepth 20000 in
set_option maxHeartbeats 4000000 in
/-- The opening check answers true. -/
theorem begun_any (w : World) : Calls Try.prog 5 #[] w fun e w' => e = .returned (.bool true) ∧ Below w.heap.size w w' := by
  obtain ⟨W, hW⟩ : ∃ W, W = ((w.alloc (.cells #[.int .i64 1, .int .i64 0, .string ⟨#[97]⟩, .slice none 0 0, .int .i64 8, .int .i64 0, .string ⟨#[49]⟩, .slice none 0 0] 24)).alloc (.cells #[.int .i64 6, .int .i64 0, .string ⟨#[43]⟩, .slice (some ⟨w.heap.size, 0, none⟩) 2 2] 24)).alloc (.cells #[.int .i64 0] 3) := ⟨_, rfl⟩
  have hb0 : Below w.heap.size w W := by rw [hW]; exact (((Below.refl _ w).alloc (Nat.le_refl _) _).alloc (by simp) _).alloc (by simp; omega) _
  have hB : Bgn w.heap.size W := by
    refine ⟨?_, ?_⟩
    · rw [hW, Below.heap_alloc _ _ _ (by simp; omega), Below.heap_alloc _ _ _ (by simp)]; exact new_at _ _
    · rw [hW, Below.heap_alloc _ _ _ (by simp)]; exact new_at2 _ _ _
  have h2 : Boxed W (w.heap.size + 1 + 1) 3 (.int .i64 0) := by
    have := Boxed.new ((w.alloc (.cells #[.int .i64 1, .int .i64 0, .string ⟨#[97]⟩, .slice none 0 0, .int .i64 8, .int .i64 0, .string ⟨#[49]⟩, .slice none 0 0] 24)).alloc (.cells #[.int .i64 6, .int .i64 0, .string ⟨#[43]⟩, .slice (some ⟨w.heap.size, 0, none⟩) 2 2] 24)) 3 (.int .i64 0)
    rw [World.size_alloc, World.size_alloc] at this
    rw [hW]; exact this
  go_enter Try.func5, Try.ntmps5
  go_upto_region 3 with fail
  rw [← hW]
  clear hW
  obtain ⟨r, hr⟩ : ∃ r, r = w.heap.size := ⟨_, rfl⟩
  rw [← hr] at hB h2 hb0 ⊢
  obtain ⟨q0, q1, q2, q3⟩ := hB.cells
  have hBh : Hid _ := hB
  have h2h : Hid _ := h2
  have hb0h : Hid _ := hb0
  have hrh : Hid _ := hr
  have hdW : Below r W W.drew := (Below.refl _ _).drew
  clear hB h2 hb0 hr
  go_wp2_with (go_at_call 8; refine Calls.mono (bgn_walk r _ hBh.out h2h.out) ?_; rintro e w3 ⟨⟨u, rfl⟩, hx3, hB3, hb3⟩; replace hx3 := hx3.cell; obtain ⟨a0, a1, a2, a3⟩ := hB3.cells; replace hB3 : Hid _ := hB3; replace hb3 : Hid _ := hb0h.out.trans hb3)
  go_wp2_with (go_at_call 11; refine Calls.mono (bgn_count r _ hB3.out) ?_; rintro e w4 ⟨rfl, hB4, hb4⟩; obtain ⟨b0, b1, b2, b3⟩ := hB4.cells; replace hB4 : Hid _ := hB4; replace hb4 : Hid _ := hb3.out.trans hb4)
  go_wp2_with (go_at_call 13; refine Calls.mono (bgn_depth r _ hB4.out) ?_; rintro e w5 ⟨rfl, hB5, hb5⟩; obtain ⟨c0, c1, c2, c3⟩ := hB5.cells; replace hB5 : Hid _ := hB5; replace hb5 : Hid _ := hb4.out.trans hb5)
  go_wp2_with (go_at_call 15; refine Calls.mono (bgn_eq r _ hB5.out) ?_; rintro e w6 ⟨rfl, hB6, hb6⟩; obtain ⟨d0, d1, d2, d3⟩ := hB6.cells; replace hB6 : Hid _ := hB6; replace hb6 : Hid _ := hb5.out.trans hb6)
  go_wp2_with (go_at_call 17; refine Calls.mono (bgn_print r _ hB6.out) ?_; rintro e w7 ⟨rfl, hB7, hb7⟩; replace hB7 : Hid _ := hB7; replace hb7 : Hid _ := hb6.out.trans hb7)
  go_wp2
  go_ret
  exact ⟨rfl, hrh.out ▸ hb7.out⟩
end Go.Proofs.Ytbfklindcmmncaa
