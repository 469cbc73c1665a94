/- a tree gone over in order: what lies where. -/
import Derived.Test.YtbfklindcmmncaaBc
import Derived.Maps.OwnIn
import Derived.Sort.CutIn
namespace Go.Proofs.Ytbfklindcmmncaa
open Go.RowKit Go.Shelf
theorem own_at {w w' : World} {base e sz g n c : Nat} {xs : List Value} (h : w.ownsRow base e sz (.slice (some ⟨g, 0, none⟩) n c) n xs) (he : w'.heap[g]? = w.heap[g]?) : w'.ownsRow base e sz (.slice (some ⟨g, 0, none⟩) n c) n xs := by
  obtain ⟨h1, h2⟩ := h
  refine ⟨h1, ?_⟩
  rcases h2 with ⟨h2, _⟩ | ⟨g', cap, cur, h2, h3, h4, h5⟩
  · cases h2
  · cases h2
    exact .inr ⟨g, c, cur, rfl, h3, he.trans h4, h5⟩
theorem last5 {w : World} {base g N c : Nat} {ps : List (NC × Nat)} {n : NC} {d : Nat} (h : w.ownsRow base 43 5 (.slice (some ⟨g, 0, none⟩) (N + 1) c) (N + 1) (flatP (ps ++ [(n, d)]))) (hN : N = ps.length) : w.cell? ⟨g, N * 5, none⟩ = some (.int .i64 n.k) ∧ w.cell? ⟨g, N * 5 + 1, none⟩ = some (.int .i64 n.a) ∧ w.cell? ⟨g, N * 5 + 2, none⟩ = some (.string n.s) ∧ w.cell? ⟨g, N * 5 + 3, none⟩ = some (.slice n.x n.l n.c) ∧ w.cell? ⟨g, N * 5 + 4, none⟩ = some (.int .i64 (d : Int)) := by
  have hl := flatP_len ps
  have key : ∀ i, i < 5 → w.cell? ⟨g, N * 5 + i, none⟩ = (pcells (n, d))[i]? := fun i hi => by
    rw [h.cellAt (N * 5 + i) (by omega), flatP_app, flatP_one, List.getElem?_append_right (by omega), hl, ← hN, Nat.add_sub_cancel_left]
  exact ⟨key 0 (by decide), key 1 (by decide), key 2 (by decide), key 3 (by decide), key 4 (by decide)⟩
theorem own5_take {w : World} {base g N c : Nat} {ps : List (NC × Nat)} {p : NC × Nat} (h : w.ownsRow base 43 5 (.slice (some ⟨g, 0, none⟩) (N + 1) c) (N + 1) (flatP (ps ++ [p]))) (hN : N = ps.length) : w.ownsRow base 43 5 (.slice (some ⟨g, 0, none⟩) N c) N (flatP ps) ∧ N + 1 ≤ c ∧ c ≤ maxLen := by
  obtain ⟨_, h2⟩ := h
  rcases h2 with ⟨h2, _⟩ | ⟨g', cap, cur, h2, h3, h4, h5, h6, h7, h8⟩
  · cases h2
  · cases h2
    refine ⟨⟨by rw [flatP_len, hN], .inr ⟨g, c, cur, rfl, h3, h4, by omega, h6, h7, ?_⟩⟩, h5, h6⟩
    have := congrArg (List.take (N * 5)) h8
    rw [List.take_take, Nat.min_eq_left (by omega), flatP_app, List.take_append_of_le_length (by rw [flatP_len]; omega)] at this
    rw [this]
    exact List.take_of_length_le (by rw [flatP_len]; omega)
/-- What the iterator holds between two nodes. -/
structure InAt (C : World → Nat → Prop) (J : List XN → World → Prop) (N : Nat → Prop) (B ob : Nat) (W1 : World) (t : Tr) (g cap : Nat) (st ys : List XN) (Ds : List Nat) (W : World) : Prop where
  box : Boxed W ob 40 (.slice (some ⟨g, 0, none⟩) st.length cap)
  row : W.ownsRow B 43 5 (.slice (some ⟨g, 0, none⟩) st.length cap) st.length (flatP (st.map XN.pn))
  j : J ys W
  rnd : Rnd C W1 W
  cob : ¬ C W ob
  cg : ¬ C W g
  rd : ∀ x ∈ st, TrV W1 N x.n.val x.t
  dep : ∀ x ∈ st, x.d + x.t.size ≤ 1000
  ord : ys.map XN.key ++ todo st = pre0 0 t
  wg : wgt st ≤ 1000
  nd : Ds.Nodup
  ds : ∀ D ∈ Ds, W.heap[D]? = some (.deferred (some [])) ∧ ¬ C W D ∧ B ≤ D
/-- And behind the pop: the node's box. -/
structure Pop (C : World → Nat → Prop) (J : List XN → World → Prop) (B ob pb : Nat) (W1 : World) (g cap : Nat) (ps : List (NC × Nat)) (x : XN) (ys : List XN) (Ds : List Nat) (W : World) : Prop where
  box : Boxed W ob 40 (.slice (some ⟨g, 0, none⟩) ps.length cap)
  row : W.ownsRow B 43 5 (.slice (some ⟨g, 0, none⟩) ps.length cap) ps.length (flatP ps)
  pbx : W.heap[pb]? = some (.cells #[.int .i64 x.n.k, .int .i64 x.n.a, .string x.n.s, .slice x.n.x x.n.l x.n.c, .int .i64 (x.d : Int)] 43 (0, 0))
  j : J ys W
  rnd : Rnd C W1 W
  cob : ¬ C W ob
  cg : ¬ C W g
  cpb : ¬ C W pb
  png : pb ≠ g
  pB : B ≤ pb
  ds : ∀ D ∈ Ds, W.heap[D]? = some (.deferred (some [])) ∧ ¬ C W D ∧ B ≤ D
theorem Pop.glt {C : World → Nat → Prop} {J : List XN → World → Prop} {B ob pb : Nat} {W1 : World} {g cap : Nat} {ps : List (NC × Nat)} {x : XN} {ys : List XN} {Ds : List Nat} {W : World} (h : Pop C J B ob pb W1 g cap ps x ys Ds W) : B ≤ g ∧ g < W.heap.size := h.row.lt g rfl
/-- A round leaves all that is not its own. -/
theorem Pop.round {C : World → Nat → Prop} {J : List XN → World → Prop} {B ob pb : Nat} {W1 : World} {g cap : Nat} {ps : List (NC × Nat)} {x : XN} {ys ys' : List XN} {Ds : List Nat} {W W' : World} (h : Pop C J B ob pb W1 g cap ps x ys Ds W) (hj : J ys' W') (hr : Rnd C W W') : Pop C J B ob pb W1 g cap ps x ys' Ds W' := by
  have nc : ∀ b, b < W.heap.size → ¬ C W b → ¬ C W' b := fun b hb hc h' => by rcases hr.own b h' with h1 | h1; exact hc h1; omega
  have l2 := h.glt.2
  have l3 := (Array.getElem?_eq_some_iff.1 h.pbx).1
  refine ⟨(hr.block ob h.box.lt h.cob).trans h.box, own_at h.row (hr.block g l2 h.cg), (hr.block pb l3 h.cpb).trans h.pbx, hj, h.rnd.trans hr, nc _ h.box.lt h.cob, nc _ l2 h.cg, nc _ l3 h.cpb, h.png, h.pB, fun D hD => ?_⟩
  obtain ⟨h1, h2, h3⟩ := h.ds D hD
  have l4 := (Array.getElem?_eq_some_iff.1 h1).1
  exact ⟨(hr.block D l4 h2).trans h1, nc _ l4 h2, h3⟩
/-- New blocks turn nothing. -/
theorem Pop.next {C : World → Nat → Prop} {J : List XN → World → Prop} {B ob pb : Nat} {W1 : World} {g cap : Nat} {ps : List (NC × Nat)} {x : XN} {ys : List XN} {Ds : List Nat} {W W' : World} (hS : Side B C J) (h : Pop C J B ob pb W1 g cap ps x ys Ds W) (hb : Below W.heap.size W W') : Pop C J B ob pb W1 g cap ps x ys Ds W' := by
  obtain ⟨h1, h2⟩ := hS.keep ys W W' h.j ⟨hb.os, hb.tape, hb.output, hb.size, fun b hb' _ => hb.block b hb'⟩
  exact h.round h1 ⟨hb.os, hb.tape, hb.output, hb.size, fun b hb' _ => hb.block b hb', fun b hb' => .inl (h2 b hb')⟩
theorem in_pop {C : World → Nat → Prop} {J : List XN → World → Prop} {N : Nat → Prop} {B ob : Nat} {W1 : World} {t : Tr} {g cap : Nat} {st ys : List XN} {x : XN} {Ds : List Nat} {W : World} (hS : Side B C J) (hB : B ≤ ob) (hW1 : W1.heap.size = B) (h : InAt C J N B ob W1 t g cap (st ++ [x]) ys Ds W) :
    Pop C J B ob W.heap.size W1 g cap (st.map XN.pn) x ys Ds ((W.setCell ⟨ob, 0, none⟩ (.slice (some ⟨g, 0, none⟩) st.length cap)).alloc (.cells #[.int .i64 x.n.k, .int .i64 x.n.a, .string x.n.s, .slice x.n.x x.n.l x.n.c, .int .i64 (x.d : Int)] 43)) := by
  have hrow := h.row
  have hbox := h.box
  rw [List.map_append, List.length_append] at hrow
  rw [List.length_append] at hbox
  have ht := (own5_take (p := x.pn) hrow (by simp)).1
  obtain ⟨l1, l2⟩ := hrow.lt g rfl
  have hol := hbox.lt
  have hss : (W.setCell ⟨ob, 0, none⟩ (.slice (some ⟨g, 0, none⟩) st.length cap)).heap.size = W.heap.size := by simp
  have hob := (hbox.set (.slice (some ⟨g, 0, none⟩) st.length cap)).alloc (.cells #[.int .i64 x.n.k, .int .i64 x.n.a, .string x.n.s, .slice x.n.x x.n.l x.n.c, .int .i64 (x.d : Int)] 43)
  have hset : ∀ b, b < W.heap.size → b ≠ ob → ((W.setCell ⟨ob, 0, none⟩ (.slice (some ⟨g, 0, none⟩) st.length cap)).alloc (.cells #[.int .i64 x.n.k, .int .i64 x.n.a, .string x.n.s, .slice x.n.x x.n.l x.n.c, .int .i64 (x.d : Int)] 43)).heap[b]? = W.heap[b]? := fun b hb hne => by
    rw [Below.heap_alloc _ _ _ (by rw [hss]; exact hb)]
    exact Below.heap_setCell _ _ _ _ hne
  have hnew : ((W.setCell ⟨ob, 0, none⟩ (.slice (some ⟨g, 0, none⟩) st.length cap)).alloc (.cells #[.int .i64 x.n.k, .int .i64 x.n.a, .string x.n.s, .slice x.n.x x.n.l x.n.c, .int .i64 (x.d : Int)] 43)).heap[W.heap.size]? = some (.cells #[.int .i64 x.n.k, .int .i64 x.n.a, .string x.n.s, .slice x.n.x x.n.l x.n.c, .int .i64 (x.d : Int)] 43 (0, 0)) := by
    have := new_at (W.setCell ⟨ob, 0, none⟩ (.slice (some ⟨g, 0, none⟩) st.length cap)) (.cells #[.int .i64 x.n.k, .int .i64 x.n.a, .string x.n.s, .slice x.n.x x.n.l x.n.c, .int .i64 (x.d : Int)] 43)
    rw [hss] at this
    exact this
  have hUs : ((W.setCell ⟨ob, 0, none⟩ (.slice (some ⟨g, 0, none⟩) st.length cap)).alloc (.cells #[.int .i64 x.n.k, .int .i64 x.n.a, .string x.n.s, .slice x.n.x x.n.l x.n.c, .int .i64 (x.d : Int)] 43)).heap.size = W.heap.size + 1 := by rw [World.size_alloc, hss]
  have hsr : ((W.setCell ⟨ob, 0, none⟩ (.slice (some ⟨g, 0, none⟩) st.length cap)).alloc (.cells #[.int .i64 x.n.k, .int .i64 x.n.a, .string x.n.s, .slice x.n.x x.n.l x.n.c, .int .i64 (x.d : Int)] 43)).os = W.os ∧ ((W.setCell ⟨ob, 0, none⟩ (.slice (some ⟨g, 0, none⟩) st.length cap)).alloc (.cells #[.int .i64 x.n.k, .int .i64 x.n.a, .string x.n.s, .slice x.n.x x.n.l x.n.c, .int .i64 (x.d : Int)] 43)).tape = W.tape ∧ ((W.setCell ⟨ob, 0, none⟩ (.slice (some ⟨g, 0, none⟩) st.length cap)).alloc (.cells #[.int .i64 x.n.k, .int .i64 x.n.a, .string x.n.s, .slice x.n.x x.n.l x.n.c, .int .i64 (x.d : Int)] 43)).output = W.output := ⟨rfl, rfl, rfl⟩
  generalize (W.setCell ⟨ob, 0, none⟩ (.slice (some ⟨g, 0, none⟩) st.length cap)).alloc (.cells #[.int .i64 x.n.k, .int .i64 x.n.a, .string x.n.s, .slice x.n.x x.n.l x.n.c, .int .i64 (x.d : Int)] 43) = U at *
  have hgo : g ≠ ob := fun e => by
    have hb1 : W.heap[ob]? = _ := hbox
    obtain ⟨_, h2 | ⟨g', c', cur, h2, h3, h4, _⟩⟩ := hrow
    · cases h2.1
    · cases h2
      rw [← e, h4] at hb1
      cases hb1
  obtain ⟨k1, k2⟩ := hS.keep ys W U h.j ⟨hsr.1, hsr.2.1, hsr.2.2, by omega, fun b hb hc => hset b hb (fun e => by subst e; rcases hc with hc | hc; omega; exact h.cob hc)⟩
  have hlen : (st.map XN.pn).length = st.length := by simp
  refine ⟨by rw [hlen]; exact hob, ?_, hnew, k1, ?_, fun hc => h.cob (k2 _ hc), fun hc => h.cg (k2 _ hc), fun hc => ?_, by omega, ?_, fun D hD => ?_⟩
  · rw [hlen]
    exact own_at ht (hset g l2 hgo)
  · refine ⟨hsr.1.trans h.rnd.os, hsr.2.1.trans h.rnd.tape, hsr.2.2.trans h.rnd.output, by have := h.rnd.size; omega, fun b hb hc => ?_, fun b hb => h.rnd.own b (k2 b hb)⟩
    have := h.rnd.size
    exact (hset b (by omega) (by omega)).trans (h.rnd.block b hb hc)
  · have := hS.lt ys W _ h.j (k2 _ hc)
    omega
  · have := h.rnd.size; omega
  · obtain ⟨h1, h2, h3⟩ := h.ds D hD
    have l4 := (Array.getElem?_eq_some_iff.1 h1).1
    have hne : D ≠ ob := fun e => by
      have hb1 : W.heap[ob]? = _ := hbox
      rw [← e, h1] at hb1; cases hb1
    exact ⟨(hset D l4 hne).trans h1, fun hc => h2 (k2 _ hc), h3⟩
/-- The iterator's own blocks: its stack's box, the row in it. -/
def C2 (C : World → Nat → Prop) (ob : Nat) : World → Nat → Prop := fun W b => C W b ∨ b = ob ∨ ∃ k c, W.cell? ⟨ob, 0, none⟩ = some (.slice (some ⟨b, 0, none⟩) k c)
/-- Between two kids. -/
structure In2 (C : World → Nat → Prop) (J : List XN → World → Prop) (B ob : Nat) (W4 : World) (g0 : Nat) (ps : List (NC × Nat)) (dd : Nat) (ys : List XN) (pre : List (Int × NC)) (W : World) : Prop where
  ex : ∃ g cap, Boxed W ob 40 (.slice (some ⟨g, 0, none⟩) (ps.length + pre.length) cap) ∧ W.ownsRow B 43 5 (.slice (some ⟨g, 0, none⟩) (ps.length + pre.length) cap) (ps.length + pre.length) (flatP (ps ++ pre.map fun y => (y.2, dd))) ∧ (g = g0 ∨ W4.heap.size + 2 ≤ g)
  j : J ys W
  c : ∀ b, C W b → C W4 b
  r : Rnd (C2 C ob) W4 W
theorem C2_box {C : World → Nat → Prop} {ob : Nat} {W : World} {g k c b : Nat} (hb : Boxed W ob 40 (.slice (some ⟨g, 0, none⟩) k c)) (h : C2 C ob W b) : C W b ∨ b = ob ∨ b = g := by
  rcases h with h | h | ⟨k', c', h⟩
  · exact .inl h
  · exact .inr (.inl h)
  · rw [hb.cell] at h
    cases h
    exact .inr (.inr rfl)
theorem C2_row {C : World → Nat → Prop} {ob : Nat} {W : World} {g k c : Nat} (hb : Boxed W ob 40 (.slice (some ⟨g, 0, none⟩) k c)) : C2 C ob W g := .inr (.inr ⟨k, c, hb.cell⟩)
theorem In2.keep {C : World → Nat → Prop} {J : List XN → World → Prop} {B ob : Nat} {W4 : World} {g0 : Nat} {ps : List (NC × Nat)} {dd : Nat} {ys : List XN} {pre : List (Int × NC)} {W W' : World} (hS : Side B C J) (hB : B ≤ W4.heap.size) (h : In2 C J B ob W4 g0 ps dd ys pre W) (hs : Still W4.heap.size (C2 C ob) W W') :
    In2 C J B ob W4 g0 ps dd ys pre W' ∧ ∀ b, C2 C ob W' b → C2 C ob W b := by
  obtain ⟨g, cap, hbx, hrow, hg⟩ := h.ex
  obtain ⟨k1, k2⟩ := hS.keep ys W W' h.j ⟨hs.os, hs.tape, hs.output, hs.size, fun b hb hc => hs.block b hb (hc.imp (fun h => by omega) .inl)⟩
  have hl := (hrow.lt g rfl).2
  have hb' : Boxed W' ob 40 (.slice (some ⟨g, 0, none⟩) (ps.length + pre.length) cap) := (hs.block ob hbx.lt (.inr (.inr (.inl rfl)))).trans hbx
  have hc2 : ∀ b, C2 C ob W' b → C2 C ob W b := fun b hb => by
    rcases C2_box hb' hb with h1 | h1 | h1
    · exact .inl (k2 b h1)
    · exact .inr (.inl h1)
    · rw [h1]; exact C2_row hbx
  refine ⟨⟨⟨g, cap, hb', own_at hrow (hs.block g hl (.inr (C2_row hbx))), hg⟩, k1, fun b hb => h.c b (k2 b hb), ?_⟩, hc2⟩
  refine ⟨hs.os.trans h.r.os, hs.tape.trans h.r.tape, hs.output.trans h.r.output, Nat.le_trans h.r.size hs.size, fun b hb hc => ?_, fun b hb => h.r.own b (hc2 b hb)⟩
  exact (hs.block b (Nat.lt_of_lt_of_le hb h.r.size) (.inl hb)).trans (h.r.block b hb hc)
theorem In2.apart {C : World → Nat → Prop} {J : List XN → World → Prop} {B ob : Nat} {W4 : World} {g0 : Nat} {ps : List (NC × Nat)} {dd : Nat} {ys : List XN} {pre : List (Int × NC)} {W : World} {b : Nat} (hC4 : ∀ b, C W4 b → b < W4.heap.size) (hob : ob < W4.heap.size) (hg0 : g0 < W4.heap.size) (h : In2 C J B ob W4 g0 ps dd ys pre W) (hc : C2 C ob W b) :
    (b < W4.heap.size ∨ W4.heap.size + 2 ≤ b) ∧ b < W.heap.size := by
  obtain ⟨g, cap, hbx, hrow, hg⟩ := h.ex
  have hl := (hrow.lt g rfl).2
  have := h.r.size
  rcases C2_box hbx hc with h1 | h1 | h1
  · have := hC4 b (h.c b h1); exact ⟨.inl this, by omega⟩
  · exact ⟨.inl (by omega), by omega⟩
  · rw [h1]; exact ⟨by omega, hl⟩
/-- One kid more. -/
theorem In2.more {C : World → Nat → Prop} {J : List XN → World → Prop} {B ob : Nat} {W4 : World} {g0 : Nat} {ps : List (NC × Nat)} {dd : Nat} {ys : List XN} {pre : List (Int × NC)} {W w1 : World} {y : Int × NC} {g cap g' cap' : Nat} {tmp : Obj} (hS : Side B C J) (hB : B ≤ W4.heap.size) (hBo : B ≤ ob) (hob : ob < W4.heap.size) (_hg0 : g0 < W4.heap.size) (hco : ¬ C W4 ob) (hcg : ¬ C W4 g0) (hC4 : ∀ b, C W4 b → b < W4.heap.size) (hs4 : W4.heap.size + 2 ≤ W.heap.size)
    (h : In2 C J B ob W4 g0 ps dd ys pre W) (hbx : Boxed W ob 40 (.slice (some ⟨g, 0, none⟩) (ps.length + pre.length) cap)) (hrow : W.ownsRow B 43 5 (.slice (some ⟨g, 0, none⟩) (ps.length + pre.length) cap) (ps.length + pre.length) (flatP (ps ++ pre.map fun y => (y.2, dd)))) (hg : g = g0 ∨ W4.heap.size + 2 ≤ g)
    (hown' : w1.ownsRow B 43 5 (.slice (some ⟨g', 0, none⟩) (ps.length + pre.length + 1) cap') (ps.length + pre.length + 1) (flatP (ps ++ pre.map fun y => (y.2, dd)) ++ pcells (y.2, dd))) (hgrow : (W.alloc tmp).grownBy w1 (some g)) (hat : some g' = some g ∨ some g' = some (W.alloc tmp).heap.size) :
    In2 C J B ob W4 g0 ps dd ys (pre ++ [y]) (w1.setCell ⟨ob, 0, none⟩ (.slice (some ⟨g', 0, none⟩) (ps.length + pre.length + 1) cap')) ∧ Rnd (C2 C ob) W (w1.setCell ⟨ob, 0, none⟩ (.slice (some ⟨g', 0, none⟩) (ps.length + pre.length + 1) cap')) := by
  have hsz := h.r.size
  obtain ⟨a1, a2, a3, a4, a5⟩ := hbx.appended (e := 43) (by decide) hrow (Nat.le_trans hB hsz) hBo hown' hgrow
  have hset : ∀ b, b ≠ ob → (w1.setCell ⟨ob, 0, none⟩ (.slice (some ⟨g', 0, none⟩) (ps.length + pre.length + 1) cap')).heap[b]? = w1.heap[b]? := fun b hb => Below.heap_setCell _ _ _ _ hb
  have hss : (w1.setCell ⟨ob, 0, none⟩ (.slice (some ⟨g', 0, none⟩) (ps.length + pre.length + 1) cap')).heap.size = w1.heap.size := by simp
  have hsa : (W.alloc tmp).heap.size = W.heap.size + 1 := by simp
  have hgs := hgrow.size
  generalize (w1.setCell ⟨ob, 0, none⟩ (.slice (some ⟨g', 0, none⟩) (ps.length + pre.length + 1) cap')) = U at *
  obtain ⟨l1, l2⟩ := hrow.lt g rfl
  have cg : ¬ C W g := fun hc => by
    have h4 := h.c g hc
    rcases hg with e | e
    · exact hcg (e ▸ h4)
    · have := hC4 g h4; omega
  have co : ¬ C W ob := fun hc => hco (h.c ob hc)
  have hblk : ∀ b, b < W.heap.size → b ≠ ob → b ≠ g → U.heap[b]? = W.heap[b]? := fun b hb h1 h2 => (hset b h1).trans ((hgrow.block b (by omega) (by simpa using h2)).trans (Below.heap_alloc _ _ _ hb))
  obtain ⟨k1, k2⟩ := hS.keep ys W U h.j ⟨a5.os, a5.tape, a5.output, a5.size, fun b hb hc => hblk b hb (fun e => by subst e; rcases hc with hc | hc; omega; exact co hc) (fun e => by subst e; rcases hc with hc | hc; omega; exact cg hc)⟩
  have hr : Rnd (C2 C ob) W U := by
    refine ⟨a5.os, a5.tape, a5.output, a5.size, fun b hb hc => hblk b hb (fun e => hc (.inr (.inl e))) (fun e => hc (by rw [e]; exact C2_row hbx)), fun b hb => ?_⟩
    rcases C2_box a2 hb with h1 | h1 | h1
    · exact .inl (.inl (k2 b h1))
    · exact .inl (.inr (.inl h1))
    · rcases hat with e | e
      · cases e; rw [h1]; exact .inl (C2_row hbx)
      · cases e; rw [h1]; exact .inr (by omega)
  refine ⟨⟨⟨g', cap', ?_, ?_, ?_⟩, k1, fun b hb => h.c b (k2 b hb), h.r.trans hr⟩, hr⟩
  · rw [List.length_append]; exact a2
  · rw [List.length_append, List.map_append, ← List.append_assoc, flatP_app _ (List.map _ [y])]
    show U.ownsRow B 43 5 _ _ (_ ++ flatP [(y.2, dd)])
    rw [flatP_one]
    exact a3
  · rcases hat with e | e
    · cases e; exact hg
    · cases e; exact .inr (by omega)
theorem trv_kids {w : World} {P : Nat → Prop} {n : NC} {t : Tr} (h : TrV w P n.val t) : ∃ ks ns, (∃ k a s, t = .node k a s ks) ∧ n.l = ns.length ∧ Rds w P ns ks ∧ RowAt w n.x ns ∧ (∀ ad, n.x = some ad → ns ≠ [] → P ad.block) ∧ n.l ≤ n.c ∧ n.c ≤ maxLen := by
  obtain ⟨k, a, s, ks⟩ := t
  unfold TrV at h
  obtain ⟨x, l, c, h1, h2, h3, h4, h5⟩ := h
  unfold NC.val at h1
  cases h1
  obtain ⟨ns, r1, r2, r3⟩ := kids_row h5
  exact ⟨ks, ns, ⟨_, _, _, rfl⟩, by rw [Rds.len r1]; exact h2, r1, r2, r3, h3, h4⟩
theorem C2_pop {C : World → Nat → Prop} {J : List XN → World → Prop} {B ob pb : Nat} {W1 : World} {g cap : Nat} {ps : List (NC × Nat)} {x : XN} {ys : List XN} {Ds : List Nat} {W : World} (h : Pop C J B ob pb W1 g cap ps x ys Ds W) {b : Nat} (hc : ¬ C W b) (h1 : b ≠ ob) (h2 : b ≠ g) : ¬ C2 C ob W b := fun h' => by
  rcases C2_box h.box h' with h3 | h3 | h3
  · exact hc h3
  · exact h1 h3
  · exact h2 h3
theorem Pop.pbo {C : World → Nat → Prop} {J : List XN → World → Prop} {B ob pb : Nat} {W1 : World} {g cap : Nat} {ps : List (NC × Nat)} {x : XN} {ys : List XN} {Ds : List Nat} {W : World} (h : Pop C J B ob pb W1 g cap ps x ys Ds W) : pb ≠ ob := fun e => by
  have h1 : W.heap[ob]? = _ := h.box
  rw [← e, h.pbx] at h1
  cases h1
theorem Pop.dno {C : World → Nat → Prop} {J : List XN → World → Prop} {B ob pb : Nat} {W1 : World} {g cap : Nat} {ps : List (NC × Nat)} {x : XN} {ys : List XN} {Ds : List Nat} {W : World} (h : Pop C J B ob pb W1 g cap ps x ys Ds W) {D : Nat} (hD : D ∈ Ds) : D ≠ ob ∧ D ≠ g ∧ D < W.heap.size := by
  obtain ⟨h1, _, _⟩ := h.ds D hD
  refine ⟨fun e => ?_, fun e => ?_, (Array.getElem?_eq_some_iff.1 h1).1⟩
  · have h2 : W.heap[ob]? = _ := h.box
    rw [← e, h1] at h2; cases h2
  · obtain ⟨_, h3 | ⟨g', c', cur, h3, _, h4, _⟩⟩ := h.row
    · cases h3.1
    · cases h3
      rw [← e, h1] at h4; cases h4
theorem In2.start {C : World → Nat → Prop} {J : List XN → World → Prop} {B ob pb : Nat} {W1 : World} {g cap : Nat} {ps : List (NC × Nat)} {x : XN} {ys : List XN} {Ds : List Nat} {W : World} (h : Pop C J B ob pb W1 g cap ps x ys Ds W) (dd : Nat) : In2 C J B ob W g ps dd ys [] W :=
  ⟨⟨g, cap, h.box, by rw [List.map_nil, List.append_nil]; exact h.row, .inl rfl⟩, h.j, fun _ h => h, Rnd.refl _ _⟩
/-- All kids are on the stack. -/
theorem in_next {C : World → Nat → Prop} {J : List XN → World → Prop} {N : Nat → Prop} {B ob pb : Nat} {W1 W4 W : World} {t : Tr} {g cap : Nat} {st ys : List XN} {x : XN} {Ds : List Nat} {ns : List NC} {ks : List Tr} {xs : List (Int × NC)} (hS : Side B C J) (hBW : W1.heap.size = B) (hBo : B ≤ ob) (hP : Pop C J B ob pb W1 g cap (st.map XN.pn) x (ys ++ [x]) Ds W4)
    (hI : In2 C J B ob W4 g (st.map XN.pn) (x.d + 1) (ys ++ [x]) xs W) (hK : W.heap[W4.heap.size]? = some (.deferred (some []))) (hxs : xs.map (·.2) = ns.reverse) (hxt : ∃ k a s, x.t = .node k a s ks) (hR : Rds W1 N ns ks) (hrd : ∀ y ∈ st, TrV W1 N y.n.val y.t ∧ y.d + y.t.size ≤ 1000) (hdx : x.d + x.t.size ≤ 1000)
    (hord : ys.map XN.key ++ (todo [x] ++ todo st) = pre0 0 t) (hwx : wgt st + x.t.size ≤ 1000) (hnd : Ds.Nodup) :
    ∃ g' cap', InAt C J N B ob W1 t g' cap' (st ++ push (x.d + 1) ns ks) (ys ++ [x]) (W4.heap.size :: Ds) W ∧ wgt (st ++ push (x.d + 1) ns ks) < wgt (st ++ [x]) := by
  obtain ⟨k, a, s, hxt⟩ := hxt
  have hl := Rds.len hR
  have hxl : xs.length = ns.length := by have := congrArg List.length hxs; simpa using this
  have hsz : x.t.size = 1 + sizes ks := by rw [hxt]; rfl
  have hw : wgt (st ++ push (x.d + 1) ns ks) = wgt st + sizes ks := by rw [wgt_app, push_wgt hl]
  have hC4 : ∀ b, C W4 b → b < W4.heap.size := fun b hb => hS.lt _ _ b hP.j hb
  have hr := hI.r.size
  obtain ⟨gl1, gl2⟩ := hP.glt
  obtain ⟨g', cap', hbx, hrow, hg⟩ := hI.ex
  have hlen : (st.map XN.pn).length + xs.length = (st ++ push (x.d + 1) ns ks).length := by rw [List.length_append, push_len hl, List.length_map, hxl]
  have hflat : st.map XN.pn ++ xs.map (fun y => (y.2, x.d + 1)) = (st ++ push (x.d + 1) ns ks).map XN.pn := by
    rw [List.map_append, push_pn hl, ← hxs, List.map_map]
    rfl
  rw [hlen] at hbx hrow
  rw [hflat] at hrow
  have ncw : ∀ b, ¬ C W4 b → ¬ C W b := fun b h h' => h (hI.c b h')
  refine ⟨g', cap', ⟨hbx, hrow, hI.j, ?_, ncw _ hP.cob, ?_, ?_, ?_, ?_, ?_, ?_, ?_⟩, ?_⟩
  · refine ⟨hI.r.os.trans hP.rnd.os, hI.r.tape.trans hP.rnd.tape, hI.r.output.trans hP.rnd.output, Nat.le_trans hP.rnd.size hI.r.size, fun b hb hc => ?_, fun b hb => hP.rnd.own b (hI.c b hb)⟩
    have h4 : ¬ C W4 b := fun h => by rcases hP.rnd.own b h with h1 | h1; exact hc h1; omega
    exact (hI.r.block b (Nat.lt_of_lt_of_le hb hP.rnd.size) (C2_pop hP h4 (by omega) (by omega))).trans (hP.rnd.block b hb hc)
  · rcases hg with e | e
    · rw [e]; exact ncw _ hP.cg
    · exact fun h => by have := hC4 _ (hI.c _ h); omega
  · intro y hy
    rcases List.mem_append.1 hy with hy | hy
    · exact (hrd y hy).1
    · exact (mem_push hR y hy).1
  · intro y hy
    rcases List.mem_append.1 hy with hy | hy
    · exact (hrd y hy).2
    · obtain ⟨_, h1, h2⟩ := mem_push hR y hy
      omega
  · rw [todo_app, push_todo hl, List.map_append, List.append_assoc, ← hord]
    congr 1
    show [x.key] ++ _ = todo [x] ++ todo st
    have : todo [x] = x.key :: preK (x.d + 1) ks := by
      unfold todo XN.key
      simp only [List.reverse_cons, List.reverse_nil, List.nil_append, List.flatMap_cons, List.flatMap_nil, List.append_nil]
      rw [hxt]
      rfl
    rw [this]
    rfl
  · rw [hw]; omega
  · exact List.nodup_cons.2 ⟨fun h => by have := (hP.dno h).2.2; omega, hnd⟩
  · intro D hD
    rcases List.mem_cons.1 hD with rfl | hD
    · exact ⟨hK, fun h => by have := hC4 _ (hI.c _ h); omega, by have := hP.rnd.size; omega⟩
    · obtain ⟨h1, h2, h3⟩ := hP.ds D hD
      obtain ⟨d1, d2, d3⟩ := hP.dno hD
      exact ⟨(hI.r.block D d3 (C2_pop hP h2 d1 d2)).trans h1, ncw _ h2, h3⟩
  · rw [hw, wgt_app, wgt_one]; omega
end Go.Proofs.Ytbfklindcmmncaa
