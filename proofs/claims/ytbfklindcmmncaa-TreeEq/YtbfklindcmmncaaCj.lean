/- trees: TreeEq. -/
import Derived.Test.YtbfklindcmmncaaCi
import Derived.BigQuiet
namespace Go.Proofs.Ytbfklindcmmncaa
open Go.RowKit Go.Shelf
attribute [local go_sem ↓] Go.wp_at_zero Go.wp_at_succ
set_option maxRecDepth 20000 in
set_option maxHeartbeats 4000000 in
/-- Cut answers a tree of at most 80 nodes, in new blocks. -/
theorem Cut_new (t : Tr) (w : World) (v : Value) (ht : TrV w (fun b => b < w.heap.size) v t) : Calls Try.prog 6 #[v] w fun e w' => ∃ v' t', e = .returned v' ∧ TrV w' (fun b => w.heap.size ≤ b ∧ b < w'.heap.size) v' t' ∧ t'.size ≤ 80 ∧ Below w.heap.size w w' := by
  obtain ⟨k, a, s, x, l, c, rfl⟩ := trv_form ht
  obtain ⟨W, hW⟩ : ∃ W, W = ((w.alloc (.cells #[.int .i64 k, .int .i64 a, .string s, .slice x l c] 24)).alloc (.cells #[.int .i64 0, .int .i64 0, .string ⟨#[]⟩, .slice none 0 0] 24)).alloc (.cells #[.int .i64 80] 3) := ⟨_, rfl⟩
  have hbW : Below w.heap.size w W := by rw [hW]; exact (((Below.refl _ _).alloc (Nat.le_refl _) _).alloc (by simp) _).alloc (by simp; omega) _
  have hsz : W.heap.size = w.heap.size + 1 + 1 + 1 := by rw [hW]; simp
  have hG : GBox W (w.heap.size + 1 + 1) 80 := by
    show W.heap[_]? = _
    rw [hW]
    have := new_at ((w.alloc (.cells #[.int .i64 k, .int .i64 a, .string s, .slice x l c] 24)).alloc (.cells #[.int .i64 0, .int .i64 0, .string ⟨#[]⟩, .slice none 0 0] 24)) (.cells #[.int .i64 80] 3)
    rw [show ((w.alloc (.cells #[.int .i64 k, .int .i64 a, .string s, .slice x l c] 24)).alloc (.cells #[.int .i64 0, .int .i64 0, .string ⟨#[]⟩, .slice none 0 0] 24)).heap.size = w.heap.size + 1 + 1 by simp] at this
    exact this
  have hq1 : W.heap[w.heap.size]? = some (.cells #[.int .i64 k, .int .i64 a, .string s, .slice x l c] 24 (0, 0)) := by
    rw [hW, Below.heap_alloc _ _ _ (by simp; omega), Below.heap_alloc _ _ _ (by simp)]
    exact new_at _ _
  have hx2 : BoxN W (w.heap.size + 1) := by
    refine ⟨⟨0, 0, ⟨#[]⟩, none, 0, 0⟩, ?_⟩
    rw [hW, Below.heap_alloc _ _ _ (by simp)]
    have := new_at (w.alloc (.cells #[.int .i64 k, .int .i64 a, .string s, .slice x l c] 24)) (.cells #[.int .i64 0, .int .i64 0, .string ⟨#[]⟩, .slice none 0 0] 24)
    rw [show (w.alloc (.cells #[.int .i64 k, .int .i64 a, .string s, .slice x l c] 24)).heap.size = w.heap.size + 1 by simp] at this
    exact this
  obtain ⟨p0, p1, p2, p3, pf, pl⟩ := node_cells hq1
  have kS : Hid (Calls Try.prog 18 #[.agg #[.int .i64 k, .int .i64 a, .string s, .slice x l c], .int .i64 1, .pointer (some ⟨w.heap.size + 1 + 1, 0, none⟩)] W fun e w' => SomePost W (w.heap.size + 1 + 1) 80 e w') := some_any 11 t W _ w.heap.size (w.heap.size + 1 + 1) 80 1 (ht.next hbW) (by omega) hG (by decide) (by decide) (by decide) (by decide)
  clear ht hG hq1
  go_enter Try.func6, Try.ntmps6
  go_upto_region 2 with fail
  rw [← hW]
  clear hW
  go_wp2_with fail
  refine Calls.mono kS.out ?_
  rintro e w5 ⟨v5, t5, L5, rfl, hT5, hs5, hG5, hg5⟩
  clear kS
  obtain ⟨z1, z2, z3, z4, z5, z6, rfl⟩ := trv_form hT5
  have hs := hg5.size
  have hx5 : BoxN w5 (w.heap.size + 1) := hx2.same (hg5.block _ (by omega) (by simp))
  obtain ⟨q6, hq6⟩ := hx5
  obtain ⟨o0, o1, o2, o3, of⟩ := BoxN.cells hq6
  have of0 := of 0
  have of1 := of 1
  have of2 := of 2
  have of3 := of 3
  have hB5 : Below w.heap.size w w5 := hbW.grown hg5 hbW.size (by intro k hk; cases hk; omega)
  obtain ⟨W8, hW8⟩ : ∃ W8, W8 = (((w5.setCell ⟨w.heap.size + 1, 0, none⟩ (.int .i64 z1)).setCell ⟨w.heap.size + 1, 1, none⟩ (.int .i64 z2)).setCell ⟨w.heap.size + 1, 2, none⟩ (.string z3)).setCell ⟨w.heap.size + 1, 3, none⟩ (.slice z4 z5 z6) := ⟨_, rfl⟩
  have same : ∀ b, b ≠ w.heap.size + 1 → W8.heap[b]? = w5.heap[b]? := fun b hb => by
    rw [hW8, Below.heap_setCell _ _ _ _ hb, Below.heap_setCell _ _ _ _ hb, Below.heap_setCell _ _ _ _ hb, Below.heap_setCell _ _ _ _ hb]
  have hsz8 : W8.heap.size = w5.heap.size := by rw [hW8]; simp
  have hw1 : w.heap.size ≤ w.heap.size + 1 := by omega
  have hB8 : Below w.heap.size w W8 := by rw [hW8]; exact (((hB5.setCell hw1 _).setCell hw1 _).setCell hw1 _).setCell hw1 _
  have hfin : Hid (TrV W8 (fun b => w.heap.size ≤ b ∧ b < W8.heap.size) (.agg #[.int .i64 z1, .int .i64 z2, .string z3, .slice z4 z5 z6]) t5) := TrV.same (fun p u hp hc => by rw [World.cell?_of_block (same p.block (by omega))]; exact hc) (fun b hb => by rw [hsz8]; exact ⟨by omega, hb.2⟩) hT5
  have j0 : W8.cell? ⟨w.heap.size + 1, 0, none⟩ = some (.int .i64 z1) := by rw [hW8]; simp [go_sem, o0]
  have j1 : W8.cell? ⟨w.heap.size + 1, 1, none⟩ = some (.int .i64 z2) := by rw [hW8]; simp [go_sem, o1]
  have j2 : W8.cell? ⟨w.heap.size + 1, 2, none⟩ = some (.string z3) := by rw [hW8]; simp [go_sem, o2]
  have j3 : W8.cell? ⟨w.heap.size + 1, 3, none⟩ = some (.slice z4 z5 z6) := by rw [hW8]; simp [go_sem, o3]
  clear hT5 hG5 hg5 hq6 of
  go_wp2
  rw [← hW8]
  exact bodyPost_ret (v := .agg #[.int .i64 z1, .int .i64 z2, .string z3, .slice z4 z5 z6]) (by simp [results, Try.results6, go_sem, j0, j1, j2, j3]) rfl ⟨_, _, rfl, hfin.out, by omega, hB8⟩

/-- A region walked once, in a class of worlds of one's own. -/
theorem wp_region_class {P : Program} {C : World → Prop} {id : Nat} {Q : Exit → Act → World → Prop} {a : Act} {w : World} {l : List Oper} (hm : P.follows .mixedOrders = true) (hB : Region.lexB .any l.toArray = true) (hC : C w.drew) (h : wpQuiet P l.toArray C (fun a' => ∀ w', C w' → Q .normal a' w') l a) : (Code.region id l.toArray true).wp P Q a w :=
  wp_region_quiet (C := C) hm hB hC (by simpa using h)
/-- The four cells of a node's box. -/
def NodeAt (w : World) (b : Nat) (n : NC) : Prop :=
  w.cell? ⟨b, 0, none⟩ = some (.int .i64 n.k) ∧ w.cell? ⟨b, 1, none⟩ = some (.int .i64 n.a) ∧ w.cell? ⟨b, 2, none⟩ = some (.string n.s) ∧ w.cell? ⟨b, 3, none⟩ = some (.slice n.x n.l n.c)
theorem NodeAt.next {w w' : World} {b : Nat} {n : NC} (h : NodeAt w b n) (hb : Below w.heap.size w w') : NodeAt w' b n :=
  ⟨keep_cell hb h.1, keep_cell hb h.2.1, keep_cell hb h.2.2.1, keep_cell hb h.2.2.2⟩
theorem trv_next {w w' : World} {v : Value} {t : Tr} (h : TrV w (fun b => b < w.heap.size) v t) (hb : Below w.heap.size w w') : TrV w' (fun b => b < w'.heap.size) v t :=
  TrV.same (fun p u hp hc => by rw [World.cell?_of_block (hb.block _ hp)]; exact hc) (fun b h => Nat.lt_of_lt_of_le h hb.size) h
/-- A node stored in a box. -/
def putN (w : World) (b : Nat) (n : NC) : World := (((w.setCell ⟨b, 0, none⟩ (.int .i64 n.k)).setCell ⟨b, 1, none⟩ (.int .i64 n.a)).setCell ⟨b, 2, none⟩ (.string n.s)).setCell ⟨b, 3, none⟩ (.slice n.x n.l n.c)
theorem putN_same {w : World} {b c : Nat} {n : NC} (hb : c ≠ b) : (putN w b n).heap[c]? = w.heap[c]? := by
  unfold putN; rw [Below.heap_setCell _ _ _ _ hb, Below.heap_setCell _ _ _ _ hb, Below.heap_setCell _ _ _ _ hb, Below.heap_setCell _ _ _ _ hb]
theorem putN_size {w : World} {b : Nat} {n : NC} : (putN w b n).heap.size = w.heap.size := by unfold putN; simp
theorem putN_at {w : World} {b : Nat} {n n' : NC} (h : NodeAt w b n) : NodeAt (putN w b n') b n' := by
  obtain ⟨o0, o1, o2, o3⟩ := h
  unfold putN
  refine ⟨?_, ?_, ?_, ?_⟩
  · simp [go_sem, o0]
  · simp [go_sem, o1]
  · simp [go_sem, o2]
  · simp [go_sem, o3]
theorem putN_below {B : Nat} {w w' : World} {b : Nat} {n : NC} (h : Below B w w') (hb : B ≤ b) : Below B w (putN w' b n) := by
  unfold putN; exact (((h.setCell hb _).setCell hb _).setCell hb _).setCell hb _
/-- Two trees at hand, in the boxes b and b'. -/
def TwoAt (w : World) (b b' : Nat) (n m : NC) (t u : Tr) : Prop :=
  NodeAt w b n ∧ NodeAt w b' m ∧ TrV w (fun b => b < w.heap.size) n.val t ∧ TrV w (fun b => b < w.heap.size) m.val u ∧ t.size ≤ 80 ∧ u.size ≤ 80
theorem TwoAt.next {w w' : World} {b b' : Nat} {n m : NC} {t u : Tr} (h : TwoAt w b b' n m t u) (hb : Below w.heap.size w w') : TwoAt w' b b' n m t u :=
  ⟨h.1.next hb, h.2.1.next hb, trv_next h.2.2.1 hb, trv_next h.2.2.2.1 hb, h.2.2.2.2⟩
theorem two_put {w : World} {b b' : Nat} {n m n0 m0 : NC} {t u : Tr} {Q : Nat → Prop} (hne : b ≠ b') (h : NodeAt w b n0) (h' : NodeAt w b' m0) (hQ : ∀ c, Q c → c ≠ b ∧ c ≠ b' ∧ c < w.heap.size) (ht : TrV w Q n.val t) (hu : TrV w Q m.val u) (hts : t.size ≤ 80) (hus : u.size ≤ 80) : TwoAt (putN (putN w b n) b' m) b b' n m t u := by
  have same : ∀ c, Q c → (putN (putN w b n) b' m).heap[c]? = w.heap[c]? := fun c hc => (putN_same (hQ c hc).2.1).trans (putN_same (hQ c hc).1)
  have hs : (putN (putN w b n) b' m).heap.size = w.heap.size := putN_size.trans putN_size
  have tr : ∀ {v : Value} {t : Tr}, TrV w Q v t → TrV (putN (putN w b n) b' m) (fun c => c < (putN (putN w b n) b' m).heap.size) v t := fun h => TrV.same (fun p u hp hc => by rw [World.cell?_of_block (same _ hp)]; exact hc) (fun c hc => by rw [hs]; exact (hQ c hc).2.2) h
  have k : ∀ {x : NC} {y z : Nat} {W : World}, y ≠ z → NodeAt W y x → ∀ q, NodeAt (putN W z q) y x := fun hyz hn q => ⟨(World.cell?_of_block (putN_same hyz)).trans hn.1, (World.cell?_of_block (putN_same hyz)).trans hn.2.1, (World.cell?_of_block (putN_same hyz)).trans hn.2.2.1, (World.cell?_of_block (putN_same hyz)).trans hn.2.2.2⟩
  exact ⟨k hne (putN_at h) _, putN_at (k hne.symm h' _), tr ht, tr hu, hts, hus⟩
theorem quiet_node {C : World → Prop} {o : Oper} {a : Act} {K : Act → Prop} {b : Nat} {n : NC} (i : Nat) (ho : o.op = .load 24 (.tmp i)) (hx : a.tmps[i]?.getD undef = .pointer (some ⟨b, 0, none⟩)) (hC : ∀ X, C X → NodeAt X b n) (hk : K (a.put o.dst n.val)) : o.quiet Try.prog a C K := by
  refine ⟨n.val, fun X hX => ?_, hk⟩
  obtain ⟨h0, h1, h2, h3⟩ := hC X hX
  unfold Oper.quietAt
  rcases o with ⟨d, op, ty, ps, af, g⟩
  obtain rfl : op = .load 24 (.tmp i) := ho
  simp [go_sem, hx, h0, h1, h2, h3, NC.val]
theorem quiet_call {C : World → Prop} {o : Oper} {a : Act} {K : Act → Prop} (f i j : Nat) {v : Value} {va vb : Value} {ts : Array Nat} (ho : o.op = .call { callee := .value (.func f), args := #[.tmp i, .tmp j], argTypes := ts }) (hx : a.tmps[i]?.getD undef = va) (hy : a.tmps[j]?.getD undef = vb) (hf : ∀ X, Sem.run Try.prog (callFunc f #[va, vb]) X = .ok (.enter f #[va, vb]) X) (hC : ∀ X, C X → Calls Try.prog f #[va, vb] X fun e X' => e = .returned v ∧ C X') (hk : K (a.put o.dst v)) : o.quiet Try.prog a C K := by
  refine ⟨v, fun X hX => ?_, hk⟩
  have := hC X hX
  unfold Oper.quietAt
  rcases o with ⟨d, op, ty, ps, af, g⟩
  obtain rfl : op = .call { callee := .value (.func f), args := #[.tmp i, .tmp j], argTypes := ts } := ho
  simp [go_sem, hx, hy, hf]
  exact this
theorem quiet_eql {C : World → Prop} {o : Oper} {a : Act} {K : Act → Prop} (i j : Nat) {p : Bool} (ho : o.op = .binOp .eql 4 (.tmp i) (.tmp j) 4) (hx : a.tmps[i]?.getD undef = .bool p) (hy : a.tmps[j]?.getD undef = .bool p) (hk : K (a.put o.dst (.bool true))) : o.quiet Try.prog a C K := by
  refine ⟨.bool true, fun X hX => ?_, hk⟩
  unfold Oper.quietAt
  rcases o with ⟨d, op, ty, ps, af, g⟩
  obtain rfl : op = .binOp .eql 4 (.tmp i) (.tmp j) 4 := ho
  simp [go_sem, hx, hy]
theorem quiet_pick {C : World → Prop} {o : Oper} {a : Act} {K : Act → Prop} (i j : Nat) {v : Value} (ho : o.op = .pick (.tmp i) (.tmp j) (.const (.bool false))) (hx : a.tmps[i]?.getD undef = .bool true) (hy : a.tmps[j]?.getD undef = v) (hk : K (a.put o.dst v)) : o.quiet Try.prog a C K := by
  refine ⟨v, fun X hX => ?_, hk⟩
  unfold Oper.quietAt
  rcases o with ⟨d, op, ty, ps, af, g⟩
  obtain rfl : op = .pick (.tmp i) (.tmp j) (.const (.bool false)) := ho
  simp [go_sem, hx, hy]
set_option maxRecDepth 20000 in
set_option maxHeartbeats 4000000 in
/-- TreeEq answers true. -/
theorem law4_any (t u : Tr) (w : World) (n m : NC) (ht : TrV w (fun b => b < w.heap.size) n.val t) (hu : TrV w (fun b => b < w.heap.size) m.val u) : Calls Try.prog 4 #[n.val, m.val] w fun e w' => e = .returned (.bool true) ∧ Below w.heap.size w w' := by
  obtain ⟨W, hW⟩ : ∃ W, W = (w.alloc (.cells #[.int .i64 n.k, .int .i64 n.a, .string n.s, .slice n.x n.l n.c] 24)).alloc (.cells #[.int .i64 m.k, .int .i64 m.a, .string m.s, .slice m.x m.l m.c] 24) := ⟨_, rfl⟩
  have hbW : Below w.heap.size w W := by rw [hW]; exact ((Below.refl _ _).alloc (Nat.le_refl _) _).alloc (by simp) _
  have hsz : W.heap.size = w.heap.size + 1 + 1 := by rw [hW]; simp
  have hq2 : W.heap[w.heap.size]? = some (.cells #[.int .i64 n.k, .int .i64 n.a, .string n.s, .slice n.x n.l n.c] 24 (0, 0)) := by
    rw [hW, Below.heap_alloc _ _ _ (by simp)]; exact new_at _ _
  have hq3 : W.heap[w.heap.size + 1]? = some (.cells #[.int .i64 m.k, .int .i64 m.a, .string m.s, .slice m.x m.l m.c] 24 (0, 0)) := by
    rw [hW]; exact new_at2 _ _ _
  have htW : Hid _ := ht.next hbW
  have huW : Hid _ := hu.next hbW
  have hbWh : Hid _ := hbW
  rw [show #[n.val, m.val] = #[Value.agg #[.int .i64 n.k, .int .i64 n.a, .string n.s, .slice n.x n.l n.c], Value.agg #[.int .i64 m.k, .int .i64 m.a, .string m.s, .slice m.x m.l m.c]] from rfl]
  go_enter Try.func4, Try.ntmps4
  go_upto_region 1 with fail
  rw [← hW]
  clear hW ht hu
  obtain ⟨r, hr⟩ : ∃ r, r = w.heap.size := ⟨_, rfl⟩
  have hrh : Hid _ := hr
  rw [← hr] at hq2 hq3 hsz ⊢
  clear hr
  go_wp2_with (go_at_call 5; refine Calls.mono (begun_any W) ?_; rintro e W1 ⟨rfl, hb1⟩)
  have hsW := hb1.size
  have hq2' := (hb1.block r (by omega)).trans hq2
  have hq3' := (hb1.block (r + 1) (by omega)).trans hq3
  have htD : TrV W1.drew (fun b => b < W1.drew.heap.size) n.val t := TrV.same (fun p u hp hc => by rw [World.cell?_of_block (show W1.drew.heap[p.block]? = W.heap[p.block]? from hb1.block _ (by have := hrh.out; omega))]; exact hc) (fun b h => by show b < W1.heap.size; have := hrh.out; omega) htW.out
  have huD : TrV W1 (fun b => b < W1.heap.size) m.val u := TrV.same (fun p u hp hc => by rw [World.cell?_of_block (hb1.block _ (by have := hrh.out; omega))]; exact hc) (fun b h => by have := hrh.out; omega) huW.out
  have kA : Hid (Calls Try.prog 6 #[.agg #[.int .i64 n.k, .int .i64 n.a, .string n.s, .slice n.x n.l n.c]] W1.drew _) := Cut_new t W1.drew n.val htD
  have kB : Hid (∀ X, Below W1.heap.size W1 X → Calls Try.prog 6 #[.agg #[.int .i64 m.k, .int .i64 m.a, .string m.s, .slice m.x m.l m.c]] X _) := fun X hX => Cut_new u X m.val (trv_next huD hX)
  have hbW1 : Hid (Below r w W1) := by show Below _ _ _; rw [hrh.out]; exact hbWh.out.trans (hb1.mono (by have := hrh.out; omega))
  have hr1 : Hid (r + 1 < W1.heap.size) := by show _ < _; omega
  have hdr : Below W1.heap.size W1 W1.drew := (Below.refl _ _).drew
  obtain ⟨p0, p1, p2, p3, _, _⟩ := node_cells hq2'
  obtain ⟨s0, s1, s2, s3, _, _⟩ := node_cells hq3'
  have hq2h : Hid _ := hq2'
  have hq3h : Hid _ := hq3'
  have hdh : Hid _ := hdr
  clear hq2 hq3 hq2' hq3' htD huD hdr hsW hsz htW huW hb1 hbWh hbW
  go_cut [8] from 7 to 10 (fun _ wx => Hid (∃ n' m' t' u', TwoAt wx r (r + 1) n' m' t' u' ∧ Below r w wx))
  case first =>
    go_region_with (first
      | (go_at_call 6; refine Calls.mono kA.out ?_; rintro e w5 ⟨v5, t5, rfl, hT5, hs5, hb5⟩; clear kA
         replace hb5 : Below W1.heap.size W1 w5 := hdh.out.trans hb5
         replace hT5 : Hid _ := hT5
         obtain ⟨z1, z2, z3, z4, z5, z6, rfl⟩ := trv_form hT5.out
         have hq5 : Hid _ := (hb5.block (r + 1) hr1.out).trans hq3h.out
         obtain ⟨e0, e1, e2, e3, _, _⟩ := node_cells hq5.out
         have hb5h : Hid _ := hb5
         clear hb5)
      | (go_at_call 6; refine Calls.mono (kB.out _ hb5h.out) ?_; rintro e w6 ⟨v6, t6, rfl, hT6, hs6, hb6⟩; clear kB
         replace hT6 : Hid _ := hT6
         obtain ⟨y1, y2, y3, y4, y5, y6, rfl⟩ := trv_form hT6.out
         have hq6 : w6.heap[r + 1]? = _ := (hb6.block (r + 1) (Nat.lt_of_lt_of_le hr1.out hb5h.out.size)).trans hq5.out
         have hq7 : w6.heap[r]? = _ := (hb6.block r (by have := hr1.out; have := hb5h.out.size; omega)).trans ((hb5h.out.block r (by have := hr1.out; omega)).trans hq2h.out)
         obtain ⟨f0, f1, f2, f3, ff, fl⟩ := node_cells hq6
         obtain ⟨g0, g1, g2, g3, gf, gl⟩ := node_cells hq7
         have ff0 := ff 0
         have ff1 := ff 1
         have ff2 := ff 2
         have ff3 := ff 3
         have gf0 := gf 0
         have gf1 := gf 1
         have gf2 := gf 2
         have gf3 := gf 3
         clear hq6 hq7 ff gf
         have hb6h : Hid _ := hb6
         clear hb6))
    all_goals
      go_wp2_with fail
      go_meet
      case rel =>
        have hs5' := hb5h.out.size
        have hs6' := hb6h.out.size
        have h1 := hr1.out
        have hU5 : TrV w6 (fun c => W1.heap.size ≤ c ∧ c < w6.heap.size) (NC.val ⟨z1, z2, z3, z4, z5, z6⟩) t5 := TrV.same (fun p u hp hc => by rw [World.cell?_of_block (hb6h.out.block _ hp.2)]; exact hc) (fun b h => ⟨h.1, Nat.lt_of_lt_of_le h.2 hs6'⟩) hT5.out
        have hU6 : TrV w6 (fun c => W1.heap.size ≤ c ∧ c < w6.heap.size) (NC.val ⟨y1, y2, y3, y4, y5, y6⟩) t6 := TrV.same (fun p u hp hc => hc) (fun b h => ⟨Nat.le_trans hs5' h.1, h.2⟩) hT6.out
        have hT := two_put (w := w6) (b := r) (b' := r + 1) (n := ⟨z1, z2, z3, z4, z5, z6⟩) (m := ⟨y1, y2, y3, y4, y5, y6⟩) (n0 := n) (m0 := m) (by omega) ⟨g0, g1, g2, g3⟩ ⟨f0, f1, f2, f3⟩ (fun c hc => ⟨by omega, by omega, hc.2⟩) hU5 hU6 hs5 hs6
        have hB : Below r w w6 := hbW1.out.trans ((hb5h.out.mono (by omega)).trans (hb6h.out.mono (by omega)))
        have hB2 := putN_below (n := ⟨y1, y2, y3, y4, y5, y6⟩) (b := r + 1) (putN_below (n := ⟨z1, z2, z3, z4, z5, z6⟩) hB (Nat.le_refl _)) (by omega)
        unfold putN at hT hB2
        exact ⟨_, _, t5, t6, hT, hB2⟩
  case rest =>
    obtain ⟨n', m', t', u', hT, hbx⟩ := hcut.out
    have hTh : ∀ X, Below wc.heap.size wc X → TwoAt X r (r + 1) n' m' t' u' := fun X hX => hT.next hX
    have hS : Hid (t'.size ≤ 80 ∧ u'.size ≤ 80) := hT.2.2.2.2
    have l2 : ∀ X, Below wc.heap.size wc X → NodeAt X r n' := fun X hX => (hTh X hX).1
    have l3 : ∀ X, Below wc.heap.size wc X → NodeAt X (r + 1) m' := fun X hX => (hTh X hX).2.1
    have thn : ∀ {X X' : World}, Below wc.heap.size wc X → Below X.heap.size X X' → Below wc.heap.size wc X' := fun h h' => h.trans (h'.mono h.size)
    have c1 : ∀ X, Below wc.heap.size wc X → Calls Try.prog 15 #[n'.val, m'.val] X fun e X' => e = .returned (.bool (eqT t' u')) ∧ Below wc.heap.size wc X' := fun X hX => (Eq_any t' u' X _ _ (by have := hS.out; omega) (by have := hS.out; omega) (hTh X hX).2.2.1 (hTh X hX).2.2.2.1).mono fun e X' h => ⟨h.1, thn hX h.2⟩
    have c2 : ∀ X, Below wc.heap.size wc X → Calls Try.prog 10 #[n'.val, m'.val] X fun e X' => e = .returned (.bool (eqT t' u')) ∧ Below wc.heap.size wc X' := fun X hX => (refEq_any t'.size t' u' (Nat.le_refl _) X _ _ _ (hTh X hX).2.2.1 (hTh X hX).2.2.2.1).mono fun e X' h => ⟨h.1, thn hX h.2⟩
    have c3 : ∀ X, Below wc.heap.size wc X → Calls Try.prog 15 #[n'.val, n'.val] X fun e X' => e = .returned (.bool true) ∧ Below wc.heap.size wc X' := fun X hX => (Eq_any t' t' X _ _ (by have := hS.out; omega) (by have := hS.out; omega) (hTh X hX).2.2.1 (hTh X hX).2.2.1).mono fun e X' h => ⟨by rw [h.1, eqT_refl], thn hX h.2⟩
    have c4 : ∀ X, Below wc.heap.size wc X → Calls Try.prog 15 #[m'.val, n'.val] X fun e X' => e = .returned (.bool (eqT t' u')) ∧ Below wc.heap.size wc X' := fun X hX => (Eq_any u' t' X _ _ (by have := hS.out; omega) (by have := hS.out; omega) (hTh X hX).2.2.2.1 (hTh X hX).2.2.1).mono fun e X' h => ⟨by rw [h.1, eqT_symm], thn hX h.2⟩
    generalize eqT t' u' = EQ at *
    have hfn : Hid _ := hbx
    clear hbx hT hTh hcut
    go_upto_region 3 with fail
    refine wp_region_class (C := fun X => Below wc.heap.size wc X) (by kernel_rfl) (by kernel_rfl) (Below.refl _ _).drew ?_
    refine BigFrame.wpQuiet_want rfl (fun K hK => BigFrame.quiet_move _ rfl (hK ⟨List.toArray (_ :: _ :: _ :: _ :: _ :: _ :: _ :: _ :: _ :: _ :: _ :: _ :: _ :: _ :: _ :: _ :: _ :: _ :: _ :: _ :: _ :: _ :: _ :: _ :: _ :: _ :: _ :: _ :: _ :: _ :: _ :: _ :: _ :: _ :: _ :: []), _⟩ ?_)); clear hK K
    refine BigFrame.wpQuiet_want rfl (fun K hK => BigFrame.quiet_move _ rfl (hK ⟨List.toArray (_ :: _ :: _ :: _ :: _ :: _ :: _ :: _ :: _ :: _ :: _ :: _ :: _ :: _ :: _ :: _ :: _ :: _ :: _ :: _ :: _ :: _ :: _ :: _ :: _ :: _ :: _ :: _ :: _ :: _ :: _ :: _ :: _ :: _ :: _ :: []), _⟩ ?_)); clear hK K
    refine BigFrame.wpQuiet_want rfl (fun K hK => quiet_node 2 rfl rfl l2 (hK ⟨List.toArray (_ :: _ :: _ :: _ :: _ :: _ :: _ :: _ :: _ :: _ :: _ :: _ :: _ :: _ :: _ :: _ :: _ :: _ :: _ :: _ :: _ :: _ :: _ :: _ :: _ :: _ :: _ :: _ :: _ :: _ :: _ :: _ :: _ :: _ :: _ :: []), _⟩ ?_)); clear hK K
    refine BigFrame.wpQuiet_want rfl (fun K hK => quiet_node 3 rfl rfl l3 (hK ⟨List.toArray (_ :: _ :: _ :: _ :: _ :: _ :: _ :: _ :: _ :: _ :: _ :: _ :: _ :: _ :: _ :: _ :: _ :: _ :: _ :: _ :: _ :: _ :: _ :: _ :: _ :: _ :: _ :: _ :: _ :: _ :: _ :: _ :: _ :: _ :: _ :: []), _⟩ ?_)); clear hK K
    refine BigFrame.wpQuiet_want rfl (fun K hK => quiet_call 15 13 14 rfl rfl rfl (fun X => by rfl) c1 (hK ⟨List.toArray (_ :: _ :: _ :: _ :: _ :: _ :: _ :: _ :: _ :: _ :: _ :: _ :: _ :: _ :: _ :: _ :: _ :: _ :: _ :: _ :: _ :: _ :: _ :: _ :: _ :: _ :: _ :: _ :: _ :: _ :: _ :: _ :: _ :: _ :: _ :: []), _⟩ ?_)); clear hK K
    refine BigFrame.wpQuiet_want rfl (fun K hK => quiet_node 2 rfl rfl l2 (hK ⟨List.toArray (_ :: _ :: _ :: _ :: _ :: _ :: _ :: _ :: _ :: _ :: _ :: _ :: _ :: _ :: _ :: _ :: _ :: _ :: _ :: _ :: _ :: _ :: _ :: _ :: _ :: _ :: _ :: _ :: _ :: _ :: _ :: _ :: _ :: _ :: _ :: []), _⟩ ?_)); clear hK K
    refine BigFrame.wpQuiet_want rfl (fun K hK => quiet_node 3 rfl rfl l3 (hK ⟨List.toArray (_ :: _ :: _ :: _ :: _ :: _ :: _ :: _ :: _ :: _ :: _ :: _ :: _ :: _ :: _ :: _ :: _ :: _ :: _ :: _ :: _ :: _ :: _ :: _ :: _ :: _ :: _ :: _ :: _ :: _ :: _ :: _ :: _ :: _ :: _ :: []), _⟩ ?_)); clear hK K
    refine BigFrame.wpQuiet_want rfl (fun K hK => quiet_call 10 16 17 rfl rfl rfl (fun X => by rfl) c2 (hK ⟨List.toArray (_ :: _ :: _ :: _ :: _ :: _ :: _ :: _ :: _ :: _ :: _ :: _ :: _ :: _ :: _ :: _ :: _ :: _ :: _ :: _ :: _ :: _ :: _ :: _ :: _ :: _ :: _ :: _ :: _ :: _ :: _ :: _ :: _ :: _ :: _ :: []), _⟩ ?_)); clear hK K
    refine BigFrame.wpQuiet_want rfl (fun K hK => quiet_eql (p := EQ) 15 18 rfl rfl rfl (hK ⟨List.toArray (_ :: _ :: _ :: _ :: _ :: _ :: _ :: _ :: _ :: _ :: _ :: _ :: _ :: _ :: _ :: _ :: _ :: _ :: _ :: _ :: _ :: _ :: _ :: _ :: _ :: _ :: _ :: _ :: _ :: _ :: _ :: _ :: _ :: _ :: _ :: []), _⟩ ?_)); clear hK K
    refine BigFrame.wpQuiet_want rfl (fun K hK => quiet_pick 12 19 rfl rfl rfl (hK ⟨List.toArray (_ :: _ :: _ :: _ :: _ :: _ :: _ :: _ :: _ :: _ :: _ :: _ :: _ :: _ :: _ :: _ :: _ :: _ :: _ :: _ :: _ :: _ :: _ :: _ :: _ :: _ :: _ :: _ :: _ :: _ :: _ :: _ :: _ :: _ :: _ :: []), _⟩ ?_)); clear hK K
    refine BigFrame.wpQuiet_want rfl (fun K hK => BigFrame.quiet_move _ rfl (hK ⟨List.toArray (_ :: _ :: _ :: _ :: _ :: _ :: _ :: _ :: _ :: _ :: _ :: _ :: _ :: _ :: _ :: _ :: _ :: _ :: _ :: _ :: _ :: _ :: _ :: _ :: _ :: _ :: _ :: _ :: _ :: _ :: _ :: _ :: _ :: _ :: _ :: []), _⟩ ?_)); clear hK K
    refine BigFrame.wpQuiet_want rfl (fun K hK => quiet_node 2 rfl rfl l2 (hK ⟨List.toArray (_ :: _ :: _ :: _ :: _ :: _ :: _ :: _ :: _ :: _ :: _ :: _ :: _ :: _ :: _ :: _ :: _ :: _ :: _ :: _ :: _ :: _ :: _ :: _ :: _ :: _ :: _ :: _ :: _ :: _ :: _ :: _ :: _ :: _ :: _ :: []), _⟩ ?_)); clear hK K
    refine BigFrame.wpQuiet_want rfl (fun K hK => quiet_node 2 rfl rfl l2 (hK ⟨List.toArray (_ :: _ :: _ :: _ :: _ :: _ :: _ :: _ :: _ :: _ :: _ :: _ :: _ :: _ :: _ :: _ :: _ :: _ :: _ :: _ :: _ :: _ :: _ :: _ :: _ :: _ :: _ :: _ :: _ :: _ :: _ :: _ :: _ :: _ :: _ :: []), _⟩ ?_)); clear hK K
    refine BigFrame.wpQuiet_want rfl (fun K hK => quiet_call 15 22 23 rfl rfl rfl (fun X => by rfl) c3 (hK ⟨List.toArray (_ :: _ :: _ :: _ :: _ :: _ :: _ :: _ :: _ :: _ :: _ :: _ :: _ :: _ :: _ :: _ :: _ :: _ :: _ :: _ :: _ :: _ :: _ :: _ :: _ :: _ :: _ :: _ :: _ :: _ :: _ :: _ :: _ :: _ :: _ :: []), _⟩ ?_)); clear hK K
    refine BigFrame.wpQuiet_want rfl (fun K hK => quiet_pick 21 24 rfl rfl rfl (hK ⟨List.toArray (_ :: _ :: _ :: _ :: _ :: _ :: _ :: _ :: _ :: _ :: _ :: _ :: _ :: _ :: _ :: _ :: _ :: _ :: _ :: _ :: _ :: _ :: _ :: _ :: _ :: _ :: _ :: _ :: _ :: _ :: _ :: _ :: _ :: _ :: _ :: []), _⟩ ?_)); clear hK K
    refine BigFrame.wpQuiet_want rfl (fun K hK => BigFrame.quiet_move _ rfl (hK ⟨List.toArray (_ :: _ :: _ :: _ :: _ :: _ :: _ :: _ :: _ :: _ :: _ :: _ :: _ :: _ :: _ :: _ :: _ :: _ :: _ :: _ :: _ :: _ :: _ :: _ :: _ :: _ :: _ :: _ :: _ :: _ :: _ :: _ :: _ :: _ :: _ :: []), _⟩ ?_)); clear hK K
    refine BigFrame.wpQuiet_want rfl (fun K hK => quiet_node 2 rfl rfl l2 (hK ⟨List.toArray (_ :: _ :: _ :: _ :: _ :: _ :: _ :: _ :: _ :: _ :: _ :: _ :: _ :: _ :: _ :: _ :: _ :: _ :: _ :: _ :: _ :: _ :: _ :: _ :: _ :: _ :: _ :: _ :: _ :: _ :: _ :: _ :: _ :: _ :: _ :: []), _⟩ ?_)); clear hK K
    refine BigFrame.wpQuiet_want rfl (fun K hK => quiet_node 3 rfl rfl l3 (hK ⟨List.toArray (_ :: _ :: _ :: _ :: _ :: _ :: _ :: _ :: _ :: _ :: _ :: _ :: _ :: _ :: _ :: _ :: _ :: _ :: _ :: _ :: _ :: _ :: _ :: _ :: _ :: _ :: _ :: _ :: _ :: _ :: _ :: _ :: _ :: _ :: _ :: []), _⟩ ?_)); clear hK K
    refine BigFrame.wpQuiet_want rfl (fun K hK => quiet_call 15 27 28 rfl rfl rfl (fun X => by rfl) c1 (hK ⟨List.toArray (_ :: _ :: _ :: _ :: _ :: _ :: _ :: _ :: _ :: _ :: _ :: _ :: _ :: _ :: _ :: _ :: _ :: _ :: _ :: _ :: _ :: _ :: _ :: _ :: _ :: _ :: _ :: _ :: _ :: _ :: _ :: _ :: _ :: _ :: _ :: []), _⟩ ?_)); clear hK K
    refine BigFrame.wpQuiet_want rfl (fun K hK => quiet_node 3 rfl rfl l3 (hK ⟨List.toArray (_ :: _ :: _ :: _ :: _ :: _ :: _ :: _ :: _ :: _ :: _ :: _ :: _ :: _ :: _ :: _ :: _ :: _ :: _ :: _ :: _ :: _ :: _ :: _ :: _ :: _ :: _ :: _ :: _ :: _ :: _ :: _ :: _ :: _ :: _ :: []), _⟩ ?_)); clear hK K
    refine BigFrame.wpQuiet_want rfl (fun K hK => quiet_node 2 rfl rfl l2 (hK ⟨List.toArray (_ :: _ :: _ :: _ :: _ :: _ :: _ :: _ :: _ :: _ :: _ :: _ :: _ :: _ :: _ :: _ :: _ :: _ :: _ :: _ :: _ :: _ :: _ :: _ :: _ :: _ :: _ :: _ :: _ :: _ :: _ :: _ :: _ :: _ :: _ :: []), _⟩ ?_)); clear hK K
    refine BigFrame.wpQuiet_want rfl (fun K hK => quiet_call 15 30 31 rfl rfl rfl (fun X => by rfl) c4 (hK ⟨List.toArray (_ :: _ :: _ :: _ :: _ :: _ :: _ :: _ :: _ :: _ :: _ :: _ :: _ :: _ :: _ :: _ :: _ :: _ :: _ :: _ :: _ :: _ :: _ :: _ :: _ :: _ :: _ :: _ :: _ :: _ :: _ :: _ :: _ :: _ :: _ :: []), _⟩ ?_)); clear hK K
    refine BigFrame.wpQuiet_want rfl (fun K hK => quiet_eql (p := EQ) 29 32 rfl rfl rfl (hK ⟨List.toArray (_ :: _ :: _ :: _ :: _ :: _ :: _ :: _ :: _ :: _ :: _ :: _ :: _ :: _ :: _ :: _ :: _ :: _ :: _ :: _ :: _ :: _ :: _ :: _ :: _ :: _ :: _ :: _ :: _ :: _ :: _ :: _ :: _ :: _ :: _ :: []), _⟩ ?_)); clear hK K
    refine BigFrame.wpQuiet_want rfl (fun K hK => quiet_pick 26 33 rfl rfl rfl (hK ⟨List.toArray (_ :: _ :: _ :: _ :: _ :: _ :: _ :: _ :: _ :: _ :: _ :: _ :: _ :: _ :: _ :: _ :: _ :: _ :: _ :: _ :: _ :: _ :: _ :: _ :: _ :: _ :: _ :: _ :: _ :: _ :: _ :: _ :: _ :: _ :: _ :: []), _⟩ ?_)); clear hK K
    refine BigFrame.wpQuiet_want rfl (fun K hK => BigFrame.quiet_assign _ rfl (hK ⟨List.toArray (_ :: _ :: _ :: _ :: _ :: _ :: _ :: _ :: _ :: _ :: _ :: _ :: _ :: _ :: _ :: _ :: _ :: _ :: _ :: _ :: _ :: _ :: _ :: _ :: _ :: _ :: _ :: _ :: _ :: _ :: _ :: _ :: _ :: _ :: _ :: []), _⟩ ?_)); clear hK K
    refine wpQuiet_nil ?_
    intro w9 h9
    go_wp2

    go_ret
    exact ⟨rfl, by rw [← hrh.out]; exact hfn.out.trans (h9.mono (by have := hfn.out.size; have := hrh.out; omega))⟩
end Go.Proofs.Ytbfklindcmmncaa
