/- a tree's nodes counted, how deep it is. -/
import Derived.Test.YtbfklindcmmncaaBe
namespace Go.Proofs.Ytbfklindcmmncaa
open Go.RowKit Go.Shelf
attribute [local go_sem] Oper.semAt_some
set_option maxHeartbeats 1000000 in
theorem inOrder_in (n : Nat) (v : NC) (w : World) : CallsIn Fw n Try.prog 20 #[.agg #[.int .i64 v.k, .int .i64 v.a, .string v.s, .slice v.x v.l v.c]] w fun e w' => e = .returned (.func (.func 24) #[] #[.pointer (some ⟨w.heap.size, 0, none⟩)]) ∧ w' = w.alloc (.cells #[.int .i64 v.k, .int .i64 v.a, .string v.s, .slice v.x v.l v.c] 24) := by
  refine callsIn_of_wp Try.func20 rfl trivial ?_ rfl
  simp only [Try.ntmps20, List.size_toArray, List.length_cons, List.length_nil, Nat.reduceAdd, Nat.reduceSub, Array.replicate_succ, Array.replicate_zero, List.push_toArray, List.append_toArray, List.nil_append, List.cons_append]
  gi_wp2
  go_ret
  exact ⟨rfl, rfl⟩
/-- One box of the caller's. -/
theorem box_side {w0 w : World} {bx : Nat} {T : TypeId} {f : List XN → Value} (hw : w.heap.size ≤ bx) (hbx : bx < w0.heap.size) (ys : List XN) (W W' : World) (h : Boxed W bx T (f ys) ∧ Below w.heap.size w W) (hs : Still w0.heap.size (fun _ b => b = bx) W W') : (Boxed W' bx T (f ys) ∧ Below w.heap.size w W') ∧ ∀ b, b = bx → b = bx := by
  refine ⟨⟨(hs.block bx h.1.lt (.inr rfl)).trans h.1, ⟨hs.os.trans h.2.os, hs.tape.trans h.2.tape, hs.output.trans h.2.output, Nat.le_trans h.2.size hs.size, fun b hb => ?_⟩⟩, fun _ h => h⟩
  exact (hs.block b (Nat.lt_of_lt_of_le hb h.2.size) (.inl (by omega))).trans (h.2.block b hb)
/-- The iterator over a tree that lies below. -/
theorem order_seq {C : World → Nat → Prop} {w0 : World} {nb : Nat} {v : NC} {t : Tr} {N : Nat → Prop} (hN : ∀ b, N b → b < w0.heap.size ∧ ¬ C w0 b) (hnb : w0.heap[nb]? = some (.cells #[.int .i64 v.k, .int .i64 v.a, .string v.s, .slice v.x v.l v.c] 24 (0, 0))) (ht : TrV w0 N v.val t) (hts : t.size ≤ 1000) (G : XN → Prop) (hG : ∀ x, TrV w0 N x.n.val x.t → G x) :
    ∀ (W1 : World) (J : List XN → World → Prop), W1.heap.size = w0.heap.size + 2 → Below w0.heap.size w0 W1 → Side (w0.heap.size + 2) (Cx C w0.heap.size) J → (∀ b, C W1 b → C w0 b) →
      (∀ ys x W, J ys W → G x → ys.length < t.size → YieldAt Fw 0 Try.prog (w0.heap.size + 1) #[.int .i64 (x.d : Int), x.n.val] W fun e W' => e = .returned (.bool true) ∧ J (ys ++ [x]) W' ∧ Rnd (Cx C w0.heap.size) W W') →
      J [] W1 → CallsIn Fw 0 Try.prog 24 (#[.func (.yield (w0.heap.size + 1)) #[] #[]] ++ #[.pointer (some ⟨nb, 0, none⟩)]) W1 fun e W' => (∃ v, e = .returned v) ∧ ∃ xs, xs.map XN.key = pre0 0 t ∧ J xs W' ∧ Rnd (Cx C w0.heap.size) W1 W' := by
  intro W1 J hs hb hSide hC hY h0
  have hnl := (Array.getElem?_eq_some_iff.1 hnb).1
  refine inOrder1_in (N := N) (w0.heap.size + 1) nb (w0.heap.size + 2) W1 v t hs hSide (fun b hb' => ?_) ((hb.block nb hnl).trans hnb) ?_ hts (fun ys x W hj hx hl => hY ys x W hj (hG x ?_) hl) h0
  · obtain ⟨h1, h2⟩ := hN b hb'
    refine ⟨by omega, fun h => ?_⟩
    rcases h with h | h | h
    · exact h2 (hC b h)
    · omega
    · omega
  · exact TrV.same (fun p u hp hc => by rw [World.cell?_of_block (hb.block _ (hN _ hp).1)]; exact hc) (fun _ h => h) ht
  · exact TrV.same (fun p u hp hc => by rw [← World.cell?_of_block (hb.block _ (hN _ hp).1)]; exact hc) (fun _ h => h) hx
theorem Rnd.box {W : World} {bx : Nat} (u : Value) : Rnd (fun _ b => b = bx) W (W.setCell ⟨bx, 0, none⟩ u) :=
  ⟨rfl, rfl, rfl, by simp, fun b _ hc => Below.heap_setCell _ _ _ _ hc, fun _ h => .inl h⟩
set_option maxRecDepth 100000 in
set_option maxHeartbeats 4000000 in
theorem Count_any (t : Tr) (w : World) (v : NC) (ht : TrV w (fun b => b < w.heap.size) v.val t) (hts : t.size ≤ 1000) : Calls Try.prog 11 #[v.val] w fun e w' => e = .returned (.int .i64 (t.size : Int)) ∧ Below w.heap.size w w' := by
  refine (callsIn_wide (n := 0)).1 ?_
  refine callsIn_of_wp_marks Try.func11 rfl trivial ?_ rfl
  rw [show #[v.val] = #[Value.agg #[.int .i64 v.k, .int .i64 v.a, .string v.s, .slice v.x v.l v.c]] from rfl]
  simp only [Try.ntmps11, List.size_toArray, List.length_cons, List.length_nil, Nat.reduceAdd, Nat.reduceSub, Array.replicate_succ, Array.replicate_zero, List.push_toArray, List.append_toArray, List.nil_append, List.cons_append]
  gi_wp2_with (refine ⟨trivial, rfl, (inOrder_in 0 v _).mono ?_⟩; rintro e w' ⟨rfl, rfl⟩)
  obtain ⟨w0, hw0⟩ : ∃ w0, w0 = ((w.alloc (.cells #[.int .i64 v.k, .int .i64 v.a, .string v.s, .slice v.x v.l v.c] 24)).alloc (.cells #[.int .i64 0] 3)).alloc (.cells #[.int .i64 v.k, .int .i64 v.a, .string v.s, .slice v.x v.l v.c] 24) := ⟨_, rfl⟩
  have hb0 : Below w.heap.size w w0 := by rw [hw0]; exact (((Below.refl _ w).alloc (Nat.le_refl _) _).alloc (by simp) _).alloc (by simp; omega) _
  have hs0 : w0.heap.size = w.heap.size + 1 + 1 + 1 := by rw [hw0]; simp
  have hbx0 : Boxed w0 (w.heap.size + 1) 3 (.int .i64 0) := by
    have := (Boxed.new (w.alloc (.cells #[.int .i64 v.k, .int .i64 v.a, .string v.s, .slice v.x v.l v.c] 24)) 3 (.int .i64 0)).alloc (.cells #[.int .i64 v.k, .int .i64 v.a, .string v.s, .slice v.x v.l v.c] 24)
    rw [World.size_alloc] at this
    rw [hw0]; exact this
  have hnb : w0.heap[w.heap.size + 1 + 1]? = some (.cells #[.int .i64 v.k, .int .i64 v.a, .string v.s, .slice v.x v.l v.c] 24 (0, 0)) := by
    have := new_at ((w.alloc (.cells #[.int .i64 v.k, .int .i64 v.a, .string v.s, .slice v.x v.l v.c] 24)).alloc (.cells #[.int .i64 0] 3)) (.cells #[.int .i64 v.k, .int .i64 v.a, .string v.s, .slice v.x v.l v.c] 24)
    rw [World.size_alloc, World.size_alloc] at this
    rw [hw0]; exact this
  rw [← hw0]
  clear hw0
  obtain ⟨bx, hbx⟩ : ∃ bx, bx = w.heap.size + 1 := ⟨_, rfl⟩
  have hx1 : w.heap.size ≤ bx := by omega
  have hx2 : bx < w0.heap.size := by omega
  have ht0 : TrV w0 (fun b => b < w.heap.size) v.val t := TrV.same (fun p u hp hc => by rw [World.cell?_of_block (hb0.block _ hp)]; exact hc) (fun _ h => h) ht
  have hN : ∀ b, b < w.heap.size → b < w0.heap.size ∧ ¬ b = bx := fun b hb => ⟨by omega, by omega⟩
  rw [← hbx] at hbx0 hnb ⊢
  clear hbx hs0
  refine range_side (w := w0) (gf := 24) (lb := #[.pointer (some ⟨bx + 1, 0, none⟩)]) rfl (enters_of Try.func24 (by kernel_rfl) rfl) (encs := fun x : XN => #[.int .i64 (x.d : Int), x.n.val]) (fun _ => rfl) (fun _ b => b = bx) (fun ys W => Boxed W bx 3 (.int .i64 (ys.length : Int)) ∧ Below w.heap.size w W) (fun _ => True) (fun xs => xs.map XN.key = pre0 0 t) t.size
    (fun _ _ _ h hc => ⟨.inl (hc ▸ hx2), hc ▸ h.1.lt⟩) (fun ys W W' h hs => box_side (f := fun ys => .int .i64 (ys.length : Int)) hx1 hx2 ys W W' h hs) ⟨hbx0, hb0⟩
    (fun x a' _ => ∃ (v0 v1 v2 v4 v5 v6 v7 v8 v9 v10 : Value), a' = { tmps := #[v0, v1, v2, .pointer (some ⟨bx, 0, none⟩), v4, v5, v6, v7, v8, v9, v10], defers := [] }) (fun x a' W r o h _ => h) (order_seq hN hnb ht0 hts _ (fun _ _ => trivial)) ?hassign ?hbody ?hdone
  case hassign =>
    rintro ys x W K hI _ hlen hsz hK
    dsimp only [NC.val]
    gi_wp2
    exact hK _ _ (Rnd.refl _ _) hI ⟨.agg #[.int .i64 v.k, .int .i64 v.a, .string v.s, .slice v.x v.l v.c], .pointer (some ⟨w.heap.size, 0, none⟩), .int .i64 0, .agg #[.int .i64 v.k, .int .i64 v.a, .string v.s, .slice v.x v.l v.c], .func (.func 24) #[] #[.pointer (some ⟨bx + 1, 0, none⟩)], .int .i64 (x.d : Int), .agg #[.int .i64 x.n.k, .int .i64 x.n.a, .string x.n.s, .slice x.n.x x.n.l x.n.c], undef, undef, undef, by first | rfl | simp⟩
  case hbody =>
    rintro ys x a' W ⟨hI, hB⟩ _ hlen ⟨v0, v1, v2, v4, v5, v6, v7, v8, v9, v10, rfl⟩ hsz
    have hc := hI.cell
    have hf := hI.frozen
    have hw : IntKind.i64.wrap ((ys.length : Int) + 1) = (ys.length : Int) + 1 := by rw [IntKind.wrap_i64]; omega
    gi_wp2
    exact ⟨Rnd.box _, by rw [List.length_append]; exact hI.set _, hB.setCell (p := ⟨bx, 0, none⟩) hx1 _⟩
  case hdone =>
    rintro xs W hxs ⟨hI, hB⟩ hK hsz
    have hc := hI.cell
    have hsW : w.heap.size ≤ w0.heap.size := by omega
    have hxl : xs.length = t.size := by have := congrArg List.length hxs; rw [pre0_len, List.length_map] at this; exact this
    rw [hxl] at hc
    gi_wp2
    refine ⟨by simp, .inl ⟨_, _, rfl, run_takeDeferred hK, ?_⟩⟩
    refine ⟨_, results_tmp rfl _ _ _, ?_, hB.trans (belowK_b (w := w) (Nat.le_refl _) W w0.heap.size _ _ hsW hK rfl rfl)⟩
    rfl
/-- The deepest of some. -/
def maxD : List (Nat × Tr) → Nat
  | [] => 0
  | x :: xs => max x.1 (maxD xs)
theorem maxD_app (xs ys : List (Nat × Tr)) : maxD (xs ++ ys) = max (maxD xs) (maxD ys) := by
  induction xs with
  | nil => simp [maxD]
  | cons x xs ih => show max x.1 (maxD (xs ++ ys)) = max (max x.1 (maxD xs)) (maxD ys); rw [ih]; omega
mutual
theorem maxD_le : ∀ (t : Tr) (d : Nat), maxD (pre0 d t) + 1 ≤ d + t.size
  | .node k a s ks, d => by
    unfold pre0 Tr.size maxD
    have := maxK_le ks (d + 1)
    show max d (maxD (preK (d + 1) ks)) + 1 ≤ _
    omega
theorem maxK_le : ∀ (ts : List Tr) (d : Nat), maxD (preK d ts) + 1 ≤ max 1 (d + sizes ts)
  | [], d => by unfold preK maxD; omega
  | t :: ts, d => by
    unfold preK sizes
    rw [maxD_app]
    have h1 := maxD_le t d
    have h2 := maxK_le ts d
    omega
end
set_option maxRecDepth 100000 in
set_option maxHeartbeats 4000000 in
theorem Depth_any (t : Tr) (w : World) (v : NC) (ht : TrV w (fun b => b < w.heap.size) v.val t) (hts : t.size ≤ 1000) : Calls Try.prog 13 #[v.val] w fun e w' => e = .returned (.int .i64 ((maxD (pre0 0 t) + 1 : Nat) : Int)) ∧ Below w.heap.size w w' := by
  refine (callsIn_wide (n := 0)).1 ?_
  refine callsIn_of_wp_marks Try.func13 rfl trivial ?_ rfl
  rw [show #[v.val] = #[Value.agg #[.int .i64 v.k, .int .i64 v.a, .string v.s, .slice v.x v.l v.c]] from rfl]
  simp only [Try.ntmps13, List.size_toArray, List.length_cons, List.length_nil, Nat.reduceAdd, Nat.reduceSub, Array.replicate_succ, Array.replicate_zero, List.push_toArray, List.append_toArray, List.nil_append, List.cons_append]
  gi_wp2_with (refine ⟨trivial, rfl, (inOrder_in 0 v _).mono ?_⟩; rintro e w' ⟨rfl, rfl⟩)
  obtain ⟨w0, hw0⟩ : ∃ w0, w0 = ((w.alloc (.cells #[.int .i64 v.k, .int .i64 v.a, .string v.s, .slice v.x v.l v.c] 24)).alloc (.cells #[.int .i64 0] 3)).alloc (.cells #[.int .i64 v.k, .int .i64 v.a, .string v.s, .slice v.x v.l v.c] 24) := ⟨_, rfl⟩
  have hb0 : Below w.heap.size w w0 := by rw [hw0]; exact (((Below.refl _ w).alloc (Nat.le_refl _) _).alloc (by simp) _).alloc (by simp; omega) _
  have hs0 : w0.heap.size = w.heap.size + 1 + 1 + 1 := by rw [hw0]; simp
  have hbx0 : Boxed w0 (w.heap.size + 1) 3 (.int .i64 0) := by
    have := (Boxed.new (w.alloc (.cells #[.int .i64 v.k, .int .i64 v.a, .string v.s, .slice v.x v.l v.c] 24)) 3 (.int .i64 0)).alloc (.cells #[.int .i64 v.k, .int .i64 v.a, .string v.s, .slice v.x v.l v.c] 24)
    rw [World.size_alloc] at this
    rw [hw0]; exact this
  have hnb : w0.heap[w.heap.size + 1 + 1]? = some (.cells #[.int .i64 v.k, .int .i64 v.a, .string v.s, .slice v.x v.l v.c] 24 (0, 0)) := by
    have := new_at ((w.alloc (.cells #[.int .i64 v.k, .int .i64 v.a, .string v.s, .slice v.x v.l v.c] 24)).alloc (.cells #[.int .i64 0] 3)) (.cells #[.int .i64 v.k, .int .i64 v.a, .string v.s, .slice v.x v.l v.c] 24)
    rw [World.size_alloc, World.size_alloc] at this
    rw [hw0]; exact this
  rw [← hw0]
  clear hw0
  obtain ⟨bx, hbx⟩ : ∃ bx, bx = w.heap.size + 1 := ⟨_, rfl⟩
  have hx1 : w.heap.size ≤ bx := by omega
  have hx2 : bx < w0.heap.size := by omega
  have ht0 : TrV w0 (fun b => b < w.heap.size) v.val t := TrV.same (fun p u hp hc => by rw [World.cell?_of_block (hb0.block _ hp)]; exact hc) (fun _ h => h) ht
  have hN : ∀ b, b < w.heap.size → b < w0.heap.size ∧ ¬ b = bx := fun b hb => ⟨by omega, by omega⟩
  rw [← hbx] at hbx0 hnb ⊢
  clear hbx hs0
  refine range_side (w := w0) (gf := 24) (lb := #[.pointer (some ⟨bx + 1, 0, none⟩)]) rfl (enters_of Try.func24 (by kernel_rfl) rfl) (encs := fun x : XN => #[.int .i64 (x.d : Int), x.n.val]) (fun _ => rfl) (fun _ b => b = bx) (fun ys W => Boxed W bx 3 (.int .i64 (maxD (ys.map XN.key) : Int)) ∧ Below w.heap.size w W) (fun _ => True) (fun xs => xs.map XN.key = pre0 0 t) t.size
    (fun _ _ _ h hc => ⟨.inl (hc ▸ hx2), hc ▸ h.1.lt⟩) (fun ys W W' h hs => box_side (f := fun ys => .int .i64 (maxD (ys.map XN.key) : Int)) hx1 hx2 ys W W' h hs) ⟨hbx0, hb0⟩
    (fun x a' _ => ∃ (v0 v1 v2 v5 v6 v7 v8 v9 v10 v11 v12 v13 : Value), a' = { tmps := #[v0, v1, v2, .pointer (some ⟨bx, 0, none⟩), .int .i64 (x.d : Int), v5, v6, v7, v8, v9, v10, v11, v12, v13], defers := [] }) (fun x a' W r o h _ => h) (order_seq hN hnb ht0 hts _ (fun _ _ => trivial)) ?hassign ?hbody ?hdone
  case hassign =>
    rintro ys x W K hI _ hlen hsz hK
    dsimp only [NC.val]
    gi_wp2
    exact hK _ _ (Rnd.refl _ _) hI ⟨_, _, _, _, _, _, _, _, _, _, _, _, by first | rfl | simp⟩
  case hbody =>
    rintro ys x a' W ⟨hI, hB⟩ _ hlen ⟨v0, v1, v2, v5, v6, v7, v8, v9, v10, v11, v12, v13, rfl⟩ hsz
    have hc := hI.cell
    have hf := hI.frozen
    have hmx : ((maxD ((ys ++ [x]).map XN.key) : Nat) : Int) = max ((maxD (ys.map XN.key) : Nat) : Int) (x.d : Int) := by
      rw [List.map_append, maxD_app]
      show ((max _ (max x.d 0) : Nat) : Int) = _
      omega
    gi_wp2
    all_goals (refine ⟨Rnd.box _, ?_, hB.setCell (p := ⟨bx, 0, none⟩) hx1 _⟩; rw [hmx]; first | (rw [Int.max_eq_left (by omega)]; exact hI.set _) | (rw [Int.max_eq_right (by omega)]; exact hI.set _))
  case hdone =>
    rintro xs W hxs ⟨hI, hB⟩ hK hsz
    have hc := hI.cell
    have hsW : w.heap.size ≤ w0.heap.size := by omega
    have hml := maxD_le t 0
    rw [hxs] at hc
    have hw : IntKind.i64.wrap ((maxD (pre0 0 t) : Int) + 1) = (maxD (pre0 0 t) : Int) + 1 := by rw [IntKind.wrap_i64]; omega
    gi_wp2
    refine ⟨by simp, .inl ⟨_, _, rfl, run_takeDeferred hK, ?_⟩⟩
    refine ⟨_, results_tmp rfl _ _ _, ?_, hB.trans (belowK_b (w := w) (Nat.le_refl _) W w0.heap.size _ _ hsW hK rfl rfl)⟩
    simp
end Go.Proofs.Ytbfklindcmmncaa
