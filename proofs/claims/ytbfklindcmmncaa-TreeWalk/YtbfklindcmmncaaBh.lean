/- clone: what lies where. -/
import Derived.Test.YtbfklindcmmncaaBg
namespace Go.Proofs.Ytbfklindcmmncaa
open Go.RowKit Go.Shelf
/-- What the copy's loops hold: the rows still to be gone over, and some others. -/
structure Cl (P0 : Nat → Prop) (z : Nat) (w : World) (go co : Nat) (es oth : List (Value × List Tr)) (W : World) : Prop where
  row : W.ownsRow (z + 2) 22 1 (.slice (some ⟨go, 0, none⟩) es.length co) es.length (es.map (·.1))
  ent : ∀ e ∈ es ++ oth, Ent (PB P0 z go (z + 1) W) W (z + 2) e.1 e.2
  bel : Below z w W
  res : BoxN W (z + 1)
theorem Cl.glt {P0 : Nat → Prop} {z : Nat} {w : World} {go co : Nat} {es oth : List (Value × List Tr)} {W : World} (h : Cl P0 z w go co es oth W) : z + 2 ≤ go ∧ go < W.heap.size := h.row.lt go rfl
theorem Cl.gty {P0 : Nat → Prop} {z : Nat} {w : World} {go co : Nat} {es oth : List (Value × List Tr)} {W : World} (h : Cl P0 z w go co es oth W) {g : Nat} {cur : Array Value} (hg : W.heap[g]? = some (Obj.cells cur 24 (0, 0))) : g ≠ go := fun e => by
  obtain ⟨_, h2 | ⟨g', c', cur', h2, _, h4, _⟩⟩ := h.row
  · cases h2.1
  · cases h2
    rw [← e, hg] at h4; cases h4
theorem Cl.next {P0 : Nat → Prop} {z : Nat} {w : World} {go co : Nat} {es oth : List (Value × List Tr)} {W W' : World} (h : Cl P0 z w go co es oth W) (hb : Below W.heap.size W W') : Cl P0 z w go co es oth W' := by
  have hl := h.glt
  refine ⟨own_at h.row (hb.block go hl.2), fun e he => (h.ent e he).same (Nat.le_refl _) (fun b hb' => hb.block b hb'.2.1) (PB.next hb.size) (fun g cur hg => ⟨cur, (hb.block g (Array.getElem?_eq_some_iff.1 hg).1).trans hg⟩), h.bel.trans (hb.mono (by omega)), h.res.same (hb.block _ h.res.lt)⟩
theorem Cl.add {P0 : Nat → Prop} {z : Nat} {w : World} {go co : Nat} {es oth : List (Value × List Tr)} {W : World} (h : Cl P0 z w go co es oth W) {e : Value × List Tr} (he : Ent (PB P0 z go (z + 1) W) W (z + 2) e.1 e.2) : Cl P0 z w go co es (e :: oth) W :=
  ⟨h.row, fun x hx => by
    rcases List.mem_append.1 hx with hx | hx
    · exact h.ent x (List.mem_append_left _ hx)
    · rcases List.mem_cons.1 hx with rfl | hx
      · exact he
      · exact h.ent x (List.mem_append_right _ hx), h.bel, h.res⟩
theorem Cl.drop {P0 : Nat → Prop} {z : Nat} {w : World} {go co : Nat} {es oth : List (Value × List Tr)} {e : Value × List Tr} {W : World} (h : Cl P0 z w go co es (e :: oth) W) : Cl P0 z w go co es oth W :=
  ⟨h.row, fun x hx => by
    rcases List.mem_append.1 hx with hx | hx
    · exact h.ent x (List.mem_append_left _ hx)
    · exact h.ent x (List.mem_append_right _ (List.mem_cons_of_mem _ hx)), h.bel, h.res⟩
theorem Cl.drop' {P0 : Nat → Prop} {z : Nat} {w : World} {go co : Nat} {es oth : List (Value × List Tr)} {e : Value × List Tr} {W : World} (h : Cl P0 z w go co es (e :: oth) W) : Hid (Cl P0 z w go co es oth W) := h.drop
theorem cells_put {W : World} {g o : Nat} {v : Value} {g' : Nat} {cur : Array Value} {t : TypeId} (h : W.heap[g']? = some (Obj.cells cur t (0, 0))) : ∃ cur' : Array Value, (W.setCell ⟨g, o, none⟩ v).heap[g']? = some (Obj.cells cur' t (0, 0)) := by
  by_cases e : g' = g
  · subst e
    exact ⟨cur.setIfInBounds o v, by simp [World.setCell, Array.getElem?_modify, h]⟩
  · exact ⟨cur, (Below.heap_setCell _ _ _ _ e).trans h⟩
/-- A row put in the place of another one that reads the same. -/
theorem Cl.store {P0 : Nat → Prop} {z : Nat} {w : World} {go co : Nat} {es oth : List (Value × List Tr)} {W : World} (h : Cl P0 z w go co es oth W) {g o l cx c' : Nat} {cur : Array Value} {x y : Option Addr} {ks : List Tr} (hg : W.heap[g]? = some (Obj.cells cur 24 (0, 0))) (hbg : z + 2 ≤ g) (hp : W.cell? ⟨g, o, none⟩ = some (.slice x l cx)) (hx : KidsAt W (PB P0 z go (z + 1) W) x 0 ks) (hy : KidsAt W (PB P0 z go (z + 1) W) y 0 ks) (hl : l = ks.length) (hlc : l ≤ c') (hcm : c' ≤ maxLen) :
    Cl P0 z w go co es oth (W.setCell ⟨g, o, none⟩ (.slice y l c')) := by
  have hgo := h.gty hg
  have hsz : (W.setCell ⟨g, o, none⟩ (.slice y l c')).heap.size = W.heap.size := by simp
  have hrr := reread (w' := W.setCell ⟨g, o, none⟩ (.slice y l c')) (fun q hq => World.cell?_setCell_other _ _ _ _ (fun e => hq e.symm)) hp (World.cell?_setCell_same' _ _ _ (by rw [hp]; rfl)) hx hy hl hlc hcm
  refine ⟨own_at h.row (Below.heap_setCell _ _ _ _ (Ne.symm hgo)), fun e he => ?_, h.bel.setCell (p := ⟨g, o, none⟩) (by show z ≤ g; omega) _, h.res.same (Below.heap_setCell _ _ _ _ (by show z + 1 ≠ g; omega))⟩
  rcases h.ent e he with h1 | ⟨g1, c1, cur1, h1, h2, h3, h4, h5, h6⟩
  · exact .inl h1
  · obtain ⟨cur2, h5'⟩ := cells_put (g := g) (o := o) (v := .slice y l c') h5
    refine .inr ⟨g1, c1, cur2, h1, h2, h3, h4, h5', ?_⟩
    exact KidsAt.same (fun _ _ _ hc => hc) (fun b hb => ⟨hb.1, by rw [hsz]; exact hb.2.1, hb.2.2⟩) (hrr _ _ (Nat.le_refl _) _ 0 h6)
/-- One more row to go over. -/
theorem Cl.push {P0 : Nat → Prop} {z : Nat} {w : World} {go co : Nat} {es oth : List (Value × List Tr)} {W w1 : World} (h : Cl P0 z w go co es oth W) {e : Value × List Tr} {go' co' : Nat} {tmp : Obj} (he : e ∈ oth) (hown : w1.ownsRow (z + 2) 22 1 (.slice (some ⟨go', 0, none⟩) (es.length + 1) co') (es.length + 1) (es.map (·.1) ++ [e.1])) (hgrow : (W.alloc tmp).grownBy w1 (some go)) (hat : some go' = some go ∨ some go' = some (W.alloc tmp).heap.size) :
    Cl P0 z w go' co' (es ++ [e]) oth w1 := by
  have hl := h.glt
  have hs : (W.alloc tmp).heap.size = W.heap.size + 1 := by simp
  have hgs := hgrow.size
  have hblk : ∀ b, b < W.heap.size → b ≠ go → w1.heap[b]? = W.heap[b]? := fun b hb hne => (hgrow.block b (by omega) (by simpa using hne)).trans (Below.heap_alloc _ _ _ hb)
  have hr := h.res.lt
  refine ⟨by rw [List.length_append, List.map_append]; exact hown, fun x hx => ?_, h.bel.trans ⟨hgrow.os, hgrow.tape, hgrow.output, by omega, fun b hb => hblk b (by omega) (by omega)⟩, h.res.same (hblk _ hr (by omega))⟩
  have hx' : x ∈ es ++ oth := by
    rcases List.mem_append.1 hx with hx | hx
    · rcases List.mem_append.1 hx with hx | hx
      · exact List.mem_append_left _ hx
      · rw [List.mem_singleton.1 hx]; exact List.mem_append_right _ he
    · exact List.mem_append_right _ hx
  refine (h.ent x hx').same (Nat.le_refl _) (fun b hb => hblk b hb.2.1 hb.2.2.1) (fun b hb => ⟨hb.1, by have := hb.2.1; omega, ?_, hb.2.2.2⟩) (fun g cur hg => ⟨cur, (hblk g (Array.getElem?_eq_some_iff.1 hg).1 (h.gty hg)).trans hg⟩)
  rcases hat with e | e
  · cases e; exact hb.2.2.1
  · cases e; have := hb.2.1; omega
theorem own1_take {w : World} {base g N c : Nat} {vs : List Value} {v : Value} (h : w.ownsRow base 22 1 (.slice (some ⟨g, 0, none⟩) (N + 1) c) (N + 1) (vs ++ [v])) (hN : N = vs.length) : w.ownsRow base 22 1 (.slice (some ⟨g, 0, none⟩) N c) N vs ∧ N + 1 ≤ c ∧ c ≤ maxLen ∧ w.cell? ⟨g, N, none⟩ = some v := by
  have hce := h.cellAt N (by omega)
  obtain ⟨_, h2⟩ := h
  rcases h2 with ⟨h2, _⟩ | ⟨g', cap, cur, h2, h3, h4, h5, h6, h7, h8⟩
  · cases h2
  · cases h2
    refine ⟨⟨by rw [hN]; omega, .inr ⟨g, c, cur, rfl, h3, h4, by omega, h6, h7, ?_⟩⟩, h5, h6, ?_⟩
    · have := congrArg (List.take (N * 1)) h8
      rw [List.take_take, Nat.min_eq_left (by omega), List.take_append_of_le_length (by omega)] at this
      rw [this]
      exact List.take_of_length_le (by omega)
    · rw [hce, hN, List.getElem?_append_right (Nat.le_refl _), Nat.sub_self]; rfl
theorem Cl.pop {P0 : Nat → Prop} {z : Nat} {w : World} {go co : Nat} {es oth : List (Value × List Tr)} {e : Value × List Tr} {W : World} (h : Cl P0 z w go co (es ++ [e]) oth W) : Cl P0 z w go co es (e :: oth) W ∧ es.length + 1 ≤ co ∧ co ≤ maxLen ∧ W.cell? ⟨go, es.length, none⟩ = some e.1 := by
  have hr := h.row
  rw [List.length_append, List.map_append] at hr
  obtain ⟨h1, h2, h3, h4⟩ := own1_take hr (by simp)
  exact ⟨⟨h1, fun x hx => h.ent x (by simpa using hx), h.bel, h.res⟩, h2, h3, h4⟩
/-- How much is still to be gone over. -/
def total (es : List (Value × List Tr)) : Nat := (es.map fun e => sizes e.2 + 1).sum
theorem total_app (xs ys : List (Value × List Tr)) : total (xs ++ ys) = total xs + total ys := by unfold total; rw [List.map_append, List.sum_append]
theorem total_one (e : Value × List Tr) : total [e] = sizes e.2 + 1 := by unfold total; simp
theorem len_total (es : List (Value × List Tr)) : es.length ≤ total es := by
  induction es with
  | nil => simp
  | cons x es ih => unfold total at *; simp only [List.map_cons, List.sum_cons, List.length_cons]; omega
theorem sizes_take {ts : List Tr} {i : Nat} (h : i < ts.length) : sizes (ts.take (i + 1)) = sizes (ts.take i) + (ts[i]'h).size := by
  rw [List.take_succ_eq_append_getElem h, sizes_app]
  show _ + ((ts[i]'h).size + 0) = _
  omega
/-- What a row looks like. -/
theorem Ent.form {Q : Nat → Prop} {W : World} {base : Nat} {e : Value} {ts : List Tr} (h : Ent Q W base e ts) : ∃ y c, e = .slice y ts.length c ∧ ts.length ≤ c ∧ c ≤ maxLen ∧ KidsAt W Q y 0 ts := by
  rcases h with ⟨rfl, rfl⟩ | ⟨g, c, cur, h1, h2, h3, h4, h5, h6⟩
  · exact ⟨none, 0, rfl, Nat.le_refl _, by decide, by unfold KidsAt; trivial⟩
  · exact ⟨some ⟨g, 0, none⟩, c, h1, h3, h4, h6⟩
theorem Ent.at {Q : Nat → Prop} {W : World} {base : Nat} {y : Option Addr} {c : Nat} {ts : List Tr} (h : Ent Q W base (.slice y ts.length c) ts) {i : Nat} (hi : i < ts.length) : ∃ g cur n, y = some ⟨g, 0, none⟩ ∧ base ≤ g ∧ W.heap[g]? = some (Obj.cells cur 24 (0, 0)) ∧ W.cell? ⟨g, i * 4 + 3, none⟩ = some (.slice n.x n.l n.c) ∧ TrV W Q (NC.val n) (ts[i]'hi) := by
  rcases h with ⟨h1, rfl⟩ | ⟨g, c', cur, h1, h2, h3, h4, h5, h6⟩
  · simp at hi
  · cases h1
    obtain ⟨ad, k, a, s, y1, l1, c1, e1, _, _, _, _, c3, hT⟩ := KidsAt.at h6 i hi
    cases e1
    rw [Nat.zero_add, add_more _ (i * 4) 2] at c3
    refine ⟨g, cur, ⟨k, a, s, y1, l1, c1⟩, rfl, h2, h5, ?_, hT⟩
    have : (⟨g, 0, none⟩ : Addr).add (i * 4 + (2 + 1)) = ⟨g, i * 4 + 3, none⟩ := by unfold Addr.add; rw [if_neg (by omega)]; simp
    rw [this] at c3
    exact c3
end Go.Proofs.Ytbfklindcmmncaa
