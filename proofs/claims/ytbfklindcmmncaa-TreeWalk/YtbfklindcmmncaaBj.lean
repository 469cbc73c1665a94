/- snapshot: a tree's nodes in a row. -/
import Derived.Test.YtbfklindcmmncaaBi
namespace Go.Proofs.Ytbfklindcmmncaa
open Go.RowKit Go.Shelf
attribute [local go_sem] Oper.semAt_some
/-- The caller's own: the row's box, the row in it. -/
def C1 (bx : Nat) : World → Nat → Prop := fun W b => b = bx ∨ ∃ k c, W.cell? ⟨bx, 0, none⟩ = some (.slice (some ⟨b, 0, none⟩) k c)
theorem C1_row {bx : Nat} {W : World} {v : Value} {b base k : Nat} {xs : List Value} (hb : Boxed W bx 40 v) (ho : W.ownsRow base 43 5 v k xs) : C1 bx W b ↔ b = bx ∨ v.ownBlock = some b := by
  unfold C1
  rw [hb.cell]
  constructor
  · rintro (h | ⟨k, c, h⟩)
    · exact .inl h
    · cases h; exact .inr rfl
  · rintro (h | h)
    · exact .inl h
    · obtain ⟨_, h2 | ⟨g, c, cur, h2, _⟩⟩ := ho
      · rw [h2.1] at h; cases h
      · subst h2
        have : g = b := by simpa [Value.ownBlock] using h
        subst this
        exact .inr ⟨_, _, rfl⟩
structure Sn (w w0 : World) (bx : Nat) (N : Nat → Prop) (ys : List XN) (W : World) : Prop where
  ex : ∃ v, Boxed W bx 40 v ∧ W.ownsRow w.heap.size 43 5 v ys.length (flatP (ys.map XN.pn)) ∧ (∀ g, v.ownBlock = some g → w0.heap.size + 2 ≤ g)
  rd : ∀ y ∈ ys, TrV w0 N y.n.val y.t
  r : Rnd (C1 bx) w0 W
theorem own_keep {w w' : World} {base e sz n : Nat} {v : Value} {xs : List Value} (h : w.ownsRow base e sz v n xs) (he : ∀ g, v.ownBlock = some g → w'.heap[g]? = w.heap[g]?) : w'.ownsRow base e sz v n xs := by
  obtain ⟨h1, h2⟩ := h
  refine ⟨h1, ?_⟩
  rcases h2 with h2 | ⟨g', cap, cur, rfl, h3, h4, h5⟩
  · exact .inl h2
  · exact .inr ⟨g', cap, cur, rfl, h3, (he g' rfl).trans h4, h5⟩
theorem Sn.keep {w w0 : World} {bx : Nat} {N : Nat → Prop} {ys : List XN} {W W' : World} (h : Sn w w0 bx N ys W) (hs : Still w0.heap.size (C1 bx) W W') : Sn w w0 bx N ys W' ∧ ∀ b, C1 bx W' b → C1 bx W b := by
  obtain ⟨v, hbx, hrow, hg⟩ := h.ex
  have hb' : Boxed W' bx 40 v := (hs.block bx hbx.lt (.inr (.inl rfl))).trans hbx
  have hr' : W'.ownsRow w.heap.size 43 5 v ys.length (flatP (ys.map XN.pn)) := own_keep hrow fun g e => hs.block g (hrow.lt g e).2 (.inr ((C1_row hbx hrow).2 (.inr e)))
  have hc : ∀ b, C1 bx W' b → C1 bx W b := fun b hb => (C1_row hbx hrow).2 ((C1_row hb' hr').1 hb)
  refine ⟨⟨⟨v, hb', hr', hg⟩, h.rd, ⟨hs.os.trans h.r.os, hs.tape.trans h.r.tape, hs.output.trans h.r.output, Nat.le_trans h.r.size hs.size, fun b hb hcc => ?_, fun b hb => h.r.own b (hc b hb)⟩⟩, hc⟩
  exact (hs.block b (Nat.lt_of_lt_of_le hb h.r.size) (.inl hb)).trans (h.r.block b hb hcc)
theorem Sn.apart {w w0 : World} {bx : Nat} {N : Nat → Prop} {ys : List XN} {W : World} {b : Nat} (hbx : bx < w0.heap.size) (h : Sn w w0 bx N ys W) (hc : C1 bx W b) : (b < w0.heap.size ∨ w0.heap.size + 2 ≤ b) ∧ b < W.heap.size := by
  obtain ⟨v, hb, hrow, hg⟩ := h.ex
  have := h.r.size
  rcases (C1_row hb hrow).1 hc with h1 | h1
  · exact ⟨.inl (by omega), by omega⟩
  · exact ⟨.inr (hg b h1), (hrow.lt b h1).2⟩
theorem Sn.more {w w0 : World} {bx : Nat} {N : Nat → Prop} {ys : List XN} {W w1 : World} {x : XN} {v : Value} {g' cap' : Nat} {tmp : Obj} (hw0 : w.heap.size ≤ w0.heap.size) (hwb : w.heap.size ≤ bx) (hx : TrV w0 N x.n.val x.t) (hs4 : w0.heap.size + 2 ≤ W.heap.size) (h : Sn w w0 bx N ys W) (hbx : Boxed W bx 40 v) (hrow : W.ownsRow w.heap.size 43 5 v ys.length (flatP (ys.map XN.pn))) (hg : ∀ g, v.ownBlock = some g → w0.heap.size + 2 ≤ g)
    (hown' : w1.ownsRow w.heap.size 43 5 (.slice (some ⟨g', 0, none⟩) (ys.length + 1) cap') (ys.length + 1) (flatP (ys.map XN.pn) ++ pcells x.pn)) (hgrow : (W.alloc tmp).grownBy w1 v.ownBlock) (hat : some g' = v.ownBlock ∨ some g' = some (W.alloc tmp).heap.size) :
    Sn w w0 bx N (ys ++ [x]) (w1.setCell ⟨bx, 0, none⟩ (.slice (some ⟨g', 0, none⟩) (ys.length + 1) cap')) ∧ Rnd (C1 bx) W (w1.setCell ⟨bx, 0, none⟩ (.slice (some ⟨g', 0, none⟩) (ys.length + 1) cap')) := by
  have hsz := h.r.size
  obtain ⟨a1, a2, a3, a4, a5⟩ := hbx.appended (e := 43) (by decide) hrow (Nat.le_trans hw0 hsz) hwb hown' hgrow
  have hset : ∀ b, b ≠ bx → (w1.setCell ⟨bx, 0, none⟩ (.slice (some ⟨g', 0, none⟩) (ys.length + 1) cap')).heap[b]? = w1.heap[b]? := fun b hb => Below.heap_setCell _ _ _ _ hb
  have hsa : (W.alloc tmp).heap.size = W.heap.size + 1 := by simp
  generalize (w1.setCell ⟨bx, 0, none⟩ (.slice (some ⟨g', 0, none⟩) (ys.length + 1) cap')) = U at *
  have hr : Rnd (C1 bx) W U := by
    refine ⟨a5.os, a5.tape, a5.output, a5.size, fun b hb hc => ?_, fun b hb => ?_⟩
    · have hc' := fun h' => hc ((C1_row hbx hrow).2 h')
      exact (hset b (fun e => hc' (.inl e))).trans ((hgrow.block b (by omega) (fun e => hc' (.inr e.symm))).trans (Below.heap_alloc _ _ _ hb))
    · rcases (C1_row a2 a3).1 hb with h1 | h1
      · exact .inl (.inl h1)
      · have e1 : g' = b := by simpa [Value.ownBlock] using h1
        subst e1
        rcases hat with e | e
        · exact .inl ((C1_row hbx hrow).2 (.inr e.symm))
        · cases e; exact .inr (by omega)
  refine ⟨⟨⟨_, a2, ?_, ?_⟩, ?_, h.r.trans hr⟩, hr⟩
  · rw [List.length_append, List.map_append, flatP_app]
    show U.ownsRow w.heap.size 43 5 _ _ (_ ++ flatP [x.pn])
    rw [flatP_one]
    exact a3
  · intro g e
    have e1 : g' = g := by simpa [Value.ownBlock] using e
    subst e1
    rcases hat with e | e
    · exact hg _ e.symm
    · cases e; omega
  · intro y hy
    rcases List.mem_append.1 hy with hy | hy
    · exact h.rd y hy
    · rw [List.mem_singleton.1 hy]; exact hx
set_option maxRecDepth 100000 in
set_option maxHeartbeats 4000000 in
theorem snapshot_any (P0 : Nat → Prop) (t : Tr) (w : World) (v : NC) (hP : ∀ b, P0 b → b < w.heap.size) (ht : TrV w P0 v.val t) (hts : t.size ≤ 1000) : Calls Try.prog 19 #[v.val] w fun e w' => ∃ (vr : Value) (xs : List XN), e = .returned vr ∧ xs.map XN.key = pre0 0 t ∧ w'.ownsRow w.heap.size 43 5 vr xs.length (flatP (xs.map XN.pn)) ∧ (∀ x ∈ xs, TrV w' (fun b => (P0 b ∨ w.heap.size ≤ b) ∧ b < w'.heap.size ∧ vr.ownBlock ≠ some b) x.n.val x.t) ∧ Below w.heap.size w w' := by
  obtain ⟨Wa, hWa⟩ : ∃ Wa, Wa = (w.alloc (.cells #[.int .i64 v.k, .int .i64 v.a, .string v.s, .slice v.x v.l v.c] 24)).alloc (.cells #[.slice none 0 0] 40) := ⟨_, rfl⟩
  have hba : Below w.heap.size w Wa := by rw [hWa]; exact ((Below.refl _ w).alloc (Nat.le_refl _) _).alloc (by simp) _
  have hsa : Wa.heap.size = w.heap.size + 2 := by rw [hWa]; simp
  have hbxa : Boxed Wa (w.heap.size + 1) 40 (.slice none 0 0) := by
    have := Boxed.new (w.alloc (.cells #[.int .i64 v.k, .int .i64 v.a, .string v.s, .slice v.x v.l v.c] 24)) 40 (.slice none 0 0)
    rw [World.size_alloc] at this
    rw [hWa]; exact this
  have q := BoxN.cells (w := Wa) (b := w.heap.size) (n := v) (by rw [hWa, Below.heap_alloc _ _ _ (by simp)]; exact new_at _ _)
  obtain ⟨q0, q1, q2, q3, _⟩ := q
  have kC : Hid (Calls Try.prog 23 #[.agg #[.int .i64 v.k, .int .i64 v.a, .string v.s, .slice v.x v.l v.c]] Wa _) := clone_any P0 t Wa v (fun b hb => by have := hP b hb; omega) (TrV.same (fun p u hp hc => by rw [World.cell?_of_block (hba.block _ (hP _ hp))]; exact hc) (fun _ h => h) ht) hts
  obtain ⟨i0, hi, hz0, hz1, hz2⟩ := info_parts info43
  have hmx : 2000 ≤ maxLen := by decide
  refine (callsIn_wide (n := 0)).1 ?_
  refine callsIn_of_wp_marks Try.func19 rfl trivial ?_ rfl
  rw [show #[v.val] = #[Value.agg #[.int .i64 v.k, .int .i64 v.a, .string v.s, .slice v.x v.l v.c]] from rfl]
  simp only [Try.ntmps19, List.size_toArray, List.length_cons, List.length_nil, Nat.reduceAdd, Nat.reduceSub, Array.replicate_succ, Array.replicate_zero, List.push_toArray, List.append_toArray, List.nil_append, List.cons_append]
  gi_upto_region 2 with fail
  rw [← hWa]
  clear hWa
  gi_wp2
  refine ⟨trivial, rfl, (callsIn_wide (n := 0)).2 (Calls.mono kC.out ?_)⟩
  rintro e wb ⟨vc, rfl, hTc, hbb⟩
  clear kC
  dsimp only [NC.val]
  gi_wp2
  refine ⟨trivial, rfl, (inOrder_in 0 vc _).mono ?_⟩
  rintro e w' ⟨rfl, rfl⟩
  obtain ⟨w0, hw0⟩ : ∃ w0, w0 = wb.alloc (.cells #[.int .i64 vc.k, .int .i64 vc.a, .string vc.s, .slice vc.x vc.l vc.c] 24) := ⟨_, rfl⟩
  have hbw : Below wb.heap.size wb w0 := by rw [hw0]; exact (Below.refl _ _).alloc (Nat.le_refl _) _
  have hs0 : w0.heap.size = wb.heap.size + 1 := by rw [hw0]; simp
  have hnb : w0.heap[wb.heap.size]? = some (.cells #[.int .i64 vc.k, .int .i64 vc.a, .string vc.s, .slice vc.x vc.l vc.c] 24 (0, 0)) := by rw [hw0]; exact new_at _ _
  rw [← hw0]
  clear hw0
  obtain ⟨bx, hbx⟩ : ∃ bx, bx = w.heap.size + 1 := ⟨_, rfl⟩
  rw [← hbx] at hbxa ⊢
  have hsb := hbb.size
  have hb0 : Below w.heap.size w w0 := (hba.trans (hbb.mono (by omega))).trans (hbw.mono (by omega))
  have hbx0 : Boxed w0 bx 40 (.slice none 0 0) := (hbw.block bx (by omega)).trans ((hbb.block bx (by omega)).trans hbxa)
  have hnc : ∀ b, b ≠ bx → ¬ C1 bx w0 b := fun b hne hc => by
    rcases (C1_row (base := 0) hbx0 (World.ownsRow_nil _ _ _ _)).1 hc with h | h
    · exact hne h
    · cases h
  have hN : ∀ b, ((P0 b ∨ Wa.heap.size ≤ b) ∧ b < wb.heap.size) → b < w0.heap.size ∧ ¬ C1 bx w0 b := fun b hb => ⟨by omega, hnc b (by rcases hb.1 with h | h; have := hP b h; omega; omega)⟩
  have ht0 : TrV w0 (fun b => (P0 b ∨ Wa.heap.size ≤ b) ∧ b < wb.heap.size) vc.val t := TrV.same (fun p u hp hc => by rw [World.cell?_of_block (hbw.block _ hp.2)]; exact hc) (fun _ h => h) hTc
  have hx1 : w.heap.size ≤ bx := by omega
  have hx2 : bx < w0.heap.size := by omega
  have hw0 : w.heap.size ≤ w0.heap.size := by omega
  have hWaw : w.heap.size ≤ Wa.heap.size := by omega
  have hwbx : Hid (∀ b, b < w.heap.size → b ≠ bx) := fun b hb => by omega
  clear hbx hsa hsb hs0
  gi_wp2
  refine range_side (w := w0) (gf := 24) (lb := #[.pointer (some ⟨wb.heap.size, 0, none⟩)]) rfl (enters_of Try.func24 (by kernel_rfl) rfl) (encs := fun x : XN => #[.int .i64 (x.d : Int), x.n.val]) (fun _ => rfl) (C1 bx) (fun ys W => Sn w w0 bx (fun b => (P0 b ∨ Wa.heap.size ≤ b) ∧ b < wb.heap.size) ys W) (fun x => TrV w0 (fun b => (P0 b ∨ Wa.heap.size ≤ b) ∧ b < wb.heap.size) x.n.val x.t) (fun xs => xs.map XN.key = pre0 0 t) t.size
    (fun _ _ _ h hc => Sn.apart hx2 h hc) (fun ys W W' h hs => Sn.keep h hs) ⟨⟨_, hbx0, World.ownsRow_nil _ _ _ _, fun g e => by cases e⟩, (fun y hy => by cases hy), Rnd.refl _ _⟩
    (fun x a' W => ∃ (kb : Nat) (v0 v1 v2 v6 v7 v8 v9 v10 v11 v12 v13 v14 v15 v16 v17 : Value), W.heap[kb]? = some (.cells #[.int .i64 x.n.k, .int .i64 x.n.a, .string x.n.s, .slice x.n.x x.n.l x.n.c] 24 (0, 0)) ∧ a' = { tmps := #[v0, v1, v2, .pointer (some ⟨bx, 0, none⟩), .int .i64 (x.d : Int), .pointer (some ⟨kb, 0, none⟩), v6, v7, v8, v9, v10, v11, v12, v13, v14, v15, v16, v17], defers := [] }) ?hAx (order_seq hN hnb ht0 hts _ (fun _ h => h)) ?hassign ?hbody ?hdone
  case hAx =>
    rintro x a' W r o ⟨kb, v0, v1, v2, v6, v7, v8, v9, v10, v11, v12, v13, v14, v15, v16, v17, hkc, rfl⟩ hl
    exact ⟨kb, _, _, _, _, _, _, _, _, _, _, _, _, _, _, _, (World.putObj_heap_other (fun e => by rw [e, hl] at hkc; cases hkc)).trans hkc, rfl⟩
  case hassign =>
    rintro ys x W K hI _ hlen hsz hK
    have hk := Sn.keep (W' := W.alloc (.cells #[.int .i64 x.n.k, .int .i64 x.n.a, .string x.n.s, .slice x.n.x x.n.l x.n.c] 24)) hI ⟨rfl, rfl, rfl, by simp, fun b hb _ => Below.heap_alloc _ _ _ hb⟩
    dsimp only [NC.val]
    gi_wp2
    exact hK _ _ ⟨rfl, rfl, rfl, by simp, fun b hb _ => Below.heap_alloc _ _ _ hb, fun b hb => .inl (hk.2 b hb)⟩ hk.1 ⟨W.heap.size, _, _, _, _, _, _, _, _, _, _, _, _, _, _, _, new_at _ _, rfl⟩
  case hbody =>
    rintro ys x a' W hI hG hlen ⟨kb, v0, v1, v2, v6, v7, v8, v9, v10, v11, v12, v13, v14, v15, v16, v17, hkc, rfl⟩ hsz
    obtain ⟨vv, hbxW, hrow, hg⟩ := hI.ex
    have k0 := (cell_of_row W kb 0 _ _ _ hkc).trans rfl
    have k1 := (cell_of_row W kb 1 _ _ _ hkc).trans rfl
    have k2 := (cell_of_row W kb 2 _ _ _ hkc).trans rfl
    have k3 := (cell_of_row W kb 3 _ _ _ hkc).trans rfl
    have hc1 := hbxW.cell
    have hnew := new_at W (.cells #[.int .i64 x.n.k, .int .i64 x.n.a, .string x.n.s, .slice x.n.x x.n.l x.n.c, .int .i64 (x.d : Int)] 43)
    have hmore := fun w1 g' cap' => Sn.more (w1 := w1) (g' := g') (cap' := cap') (tmp := .cells #[.int .i64 x.n.k, .int .i64 x.n.a, .string x.n.s, .slice x.n.x x.n.l x.n.c, .int .i64 (x.d : Int)] 43) hw0 hx1 hG hsz hI hbxW hrow hg
    have hBW : w.heap.size ≤ W.heap.size := by omega
    gi_wp2_with (gi_at_builtin; refine wpListIn_append_own_at _ rfl _ _ 40 rfl w.heap.size 43 i0 _ 5 64 Try.underlying40 hi hz0 hz1 hz2 rfl (by decide) _ _ _ rfl (hrow.alloc _) ⟨W.heap.size, 0, none⟩ 1 1 [.int .i64 x.n.k, .int .i64 x.n.a, .string x.n.s, .slice x.n.x x.n.l x.n.c, .int .i64 (x.d : Int)] rfl rfl (World.news_of_block hnew) (by intro u hu; simp only [List.mem_cons, List.not_mem_nil, or_false] at hu; rcases hu with rfl | rfl | rfl | rfl | rfl <;> rfl) (by omega) (by omega) (by simp; omega) ?_; intro v' w1 hown' hgrow hnil hat; obtain ⟨g', cap', rfl⟩ := ownsRow_succ hown'; obtain ⟨a1, a2⟩ := hbxW.appended (e := 43) (by decide) hrow hBW hx1 hown' hgrow; have hc2 := a1.cell; have hf2 := a1.frozen)
    obtain ⟨m1, m2⟩ := hmore _ _ _ hown' hgrow hat
    exact ⟨m2, m1⟩
  case hdone =>
    rintro xs W hxs hI hK hsz
    obtain ⟨vv, hbxW, hrow, hg⟩ := hI.ex
    have hc := hbxW.cell
    gi_wp2
    refine ⟨by simp, .inl ⟨_, _, rfl, run_takeDeferred hK, ?_⟩⟩
    refine ⟨_, results_tmp rfl _ _ _, vv, xs, rfl, hxs, ownsRow_putObj hrow _ hK rfl, fun x hx => ?_, ?_⟩
    · refine TrV.same (fun p u hp hcc => ?_) (fun b hb => ⟨hb.1.imp id (fun h => Nat.le_trans hWaw h), ?_, fun e => ?_⟩) (hI.rd x hx)
      · obtain ⟨h1, h2⟩ := hN _ hp
        rw [World.cell?_of_block ((World.putObj_heap_other (by omega)).trans (hI.r.block _ h1 h2))]
        exact hcc
      · have := (hN b hb).1
        have := hI.r.size
        simp
        omega
      · have := hg b e
        have := (hN b hb).1
        omega
    · refine ⟨hI.r.os.trans hb0.os, hI.r.tape.trans hb0.tape, hI.r.output.trans hb0.output, by have := hI.r.size; simp; omega, fun b hb => ?_⟩
      exact (World.putObj_heap_other (by omega)).trans ((hI.r.block b (by omega) (hnc b (hwbx.out b hb))).trans (hb0.block b hb))
end Go.Proofs.Ytbfklindcmmncaa
