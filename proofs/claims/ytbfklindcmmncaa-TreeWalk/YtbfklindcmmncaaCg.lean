/- Print: one step of the printer, at parts. -/
import Derived.Test.YtbfklindcmmncaaCf
namespace Go.Proofs.Ytbfklindcmmncaa
open Go.RowKit Go.Shelf
attribute [local go_sem] Oper.semAt_some
/-- The printer's own: its block, the row of what is to come. -/
def Cp (p : Nat) : World → Nat → Prop := fun W b => b = p ∨ ∃ k c, W.cell? ⟨p, 2, none⟩ = some (.slice (some ⟨b, 0, none⟩) k c)
theorem Cp_row {p g k c b : Nat} {W : World} (h : W.cell? ⟨p, 2, none⟩ = some (.slice (some ⟨g, 0, none⟩) k c)) : Cp p W b ↔ b = p ∨ b = g := by
  unfold Cp
  rw [h]
  constructor
  · rintro (h | ⟨k, c, h⟩)
    · exact .inl h
    · cases h; exact .inr rfl
  · rintro (h | h)
    · exact .inl h
    · subst h; exact .inr ⟨_, _, rfl⟩
structure SP (p base go : Nat) (st : List Value) (W4 : World) (addr bv : Value) (ind : Int) (pre : List (Int × Value)) (W : World) : Prop where
  ex : ∃ g' c', W.heap[p]? = some (.cells #[addr, bv, .slice (some ⟨g', 0, none⟩) (st.length + pre.length) c', .int .i64 ind] 54 (0, 0)) ∧ W.ownsRow base 20 1 (.slice (some ⟨g', 0, none⟩) (st.length + pre.length) c') (st.length + pre.length) (st ++ pre.map (·.2)) ∧ (g' = go ∨ W4.heap.size + 2 ≤ g')
  r : Rnd (Cp p) W4 W
theorem SP.keep {p base go : Nat} {st : List Value} {W4 : World} {addr bv : Value} {ind : Int} {pre : List (Int × Value)} {W W' : World} (h : SP p base go st W4 addr bv ind pre W) (hs : Still W4.heap.size (Cp p) W W') : SP p base go st W4 addr bv ind pre W' ∧ ∀ b, Cp p W' b → Cp p W b := by
  obtain ⟨g, c, hp, hrow, hg⟩ := h.ex
  have hc := (cells4 hp).2.2.1
  have hpl := (Array.getElem?_eq_some_iff.1 hp).1
  have hp' : W'.heap[p]? = _ := (hs.block p hpl (.inr (.inl rfl))).trans hp
  have hc' := (cells4 hp').2.2.1
  have hcc : ∀ b, Cp p W' b → Cp p W b := fun b hb => (Cp_row hc).2 ((Cp_row hc').1 hb)
  refine ⟨⟨⟨g, c, hp', own_at hrow (hs.block g (hrow.lt g rfl).2 (.inr ((Cp_row hc).2 (.inr rfl)))), hg⟩, ⟨hs.os.trans h.r.os, hs.tape.trans h.r.tape, hs.output.trans h.r.output, Nat.le_trans h.r.size hs.size, fun b hb hb2 => ?_, fun b hb => h.r.own b (hcc b hb)⟩⟩, hcc⟩
  exact (hs.block b (Nat.lt_of_lt_of_le hb h.r.size) (.inl hb)).trans (h.r.block b hb hb2)
theorem SP.apart {p base go : Nat} {st : List Value} {W4 : World} {addr bv : Value} {ind : Int} {pre : List (Int × Value)} {W : World} {b : Nat} (hp4 : p < W4.heap.size) (hg4 : go < W4.heap.size) (h : SP p base go st W4 addr bv ind pre W) (hc : Cp p W b) : (b < W4.heap.size ∨ W4.heap.size + 2 ≤ b) ∧ b < W.heap.size := by
  obtain ⟨g, c, hp, hrow, hg⟩ := h.ex
  have := h.r.size
  rcases (Cp_row (cells4 hp).2.2.1).1 hc with h1 | h1
  · exact ⟨.inl (by omega), by omega⟩
  · rw [h1]; exact ⟨by omega, (hrow.lt g rfl).2⟩
theorem SP.more {p base go : Nat} {st : List Value} {W4 : World} {addr bv : Value} {ind : Int} {pre : List (Int × Value)} {W w7 : World} {y : Int × Value} {x : Obj} {g c g' c' : Nat} (_hpB : base ≤ p) (_hB : base ≤ W4.heap.size) (hs4 : W4.heap.size + 2 ≤ W.heap.size) (h : SP p base go st W4 addr bv ind pre W) (hp : W.heap[p]? = some (.cells #[addr, bv, .slice (some ⟨g, 0, none⟩) (st.length + pre.length) c, .int .i64 ind] 54 (0, 0))) (hrow : W.ownsRow base 20 1 (.slice (some ⟨g, 0, none⟩) (st.length + pre.length) c) (st.length + pre.length) (st ++ pre.map (·.2))) (hg : g = go ∨ W4.heap.size + 2 ≤ g)
    (hO : w7.ownsRow base 20 1 (.slice (some ⟨g', 0, none⟩) (st.length + pre.length + 1) c') (st.length + pre.length + 1) (st ++ pre.map (·.2) ++ [y.2])) (hg7 : (W.drew.alloc x).grownBy w7 (some g)) (hat : some g = some g' ∨ g' = W.heap.size + 1) :
    Rnd (Cp p) W (w7.setCell ⟨p, 2, none⟩ (.slice (some ⟨g', 0, none⟩) (st.length + pre.length + 1) c')) ∧ SP p base go st W4 addr bv ind (pre ++ [y]) (w7.setCell ⟨p, 2, none⟩ (.slice (some ⟨g', 0, none⟩) (st.length + pre.length + 1) c')) := by
  have hpl := (Array.getElem?_eq_some_iff.1 hp).1
  have hsa : (W.drew.alloc x).heap.size = W.heap.size + 1 := by simp
  have hgs := hg7.size
  have hpg : p ≠ g := fun e => own_ne hrow hp (by decide) (by rw [e]; rfl)
  have hold : ∀ b, b < W.heap.size → b ≠ g → w7.heap[b]? = W.heap[b]? := fun b hb hne => (hg7.block b (by omega) (by simpa using hne)).trans (Below.heap_alloc W.drew _ _ hb)
  have hp7 : w7.heap[p]? = _ := (hold p hpl hpg).trans hp
  have hset : ∀ b, b ≠ p → (w7.setCell ⟨p, 2, none⟩ (.slice (some ⟨g', 0, none⟩) (st.length + pre.length + 1) c')).heap[b]? = w7.heap[b]? := fun b hb => Below.heap_setCell _ _ _ _ hb
  have hpu := (put4 hp7 (.slice (some ⟨g', 0, none⟩) (st.length + pre.length + 1) c')).2.2
  have hou := own_set (o := 2) (u := .slice (some ⟨g', 0, none⟩) (st.length + pre.length + 1) c') hO hp7 (by decide)
  have hsu : (w7.setCell ⟨p, 2, none⟩ (.slice (some ⟨g', 0, none⟩) (st.length + pre.length + 1) c')).heap.size = w7.heap.size := by simp
  have hur : (w7.setCell ⟨p, 2, none⟩ (.slice (some ⟨g', 0, none⟩) (st.length + pre.length + 1) c')).os = w7.os ∧ (w7.setCell ⟨p, 2, none⟩ (.slice (some ⟨g', 0, none⟩) (st.length + pre.length + 1) c')).tape = w7.tape ∧ (w7.setCell ⟨p, 2, none⟩ (.slice (some ⟨g', 0, none⟩) (st.length + pre.length + 1) c')).output = w7.output := ⟨rfl, rfl, rfl⟩
  generalize (w7.setCell ⟨p, 2, none⟩ (.slice (some ⟨g', 0, none⟩) (st.length + pre.length + 1) c')) = U at *
  have hr : Rnd (Cp p) W U := by
    refine ⟨hur.1.trans hg7.os, hur.2.1.trans hg7.tape, hur.2.2.trans hg7.output, by omega, fun b hb hc => ?_, fun b hb => ?_⟩
    · have hc' := fun h' => hc ((Cp_row (cells4 hp).2.2.1).2 h')
      exact (hset b (fun e => hc' (.inl e))).trans (hold b hb (fun e => hc' (.inr e)))
    · rcases (Cp_row (cells4 hpu).2.2.1).1 hb with h1 | h1
      · exact .inl (.inl h1)
      · rcases hat with e | e
        · cases e; exact .inl ((Cp_row (cells4 hp).2.2.1).2 (.inr h1))
        · exact .inr (by omega)
  refine ⟨hr, ⟨⟨g', c', ?_, ?_, ?_⟩, h.r.trans hr⟩⟩
  · rw [List.length_append]; exact hpu
  · rw [List.length_append, List.map_append, ← List.append_assoc]; exact hou
  · rcases hat with e | e
    · cases e; exact hg
    · exact .inr (by omega)
set_option maxRecDepth 100000 in
set_option maxHeartbeats 40000000 in
theorem step_parts (p base : Nat) (bs st ps : List Value) (g c : Nat) (go co : Nat) (w : World) (h : Prx p base bs (st ++ [.iface 48 (.slice (some ⟨g, 0, none⟩) ps.length c)]) go co w) (hO : w.ownsRow base 20 1 (.slice (some ⟨g, 0, none⟩) ps.length c) ps.length ps) (hgg : g ≠ go) (hv : ∀ v ∈ ps, ∃ T u, v = .iface T u) (hst : st.length ≤ 1000) (hps : ps.length ≤ 100) (hB : base ≤ w.heap.size) :
    Calls Try.prog 21 #[.pointer (some ⟨p, 0, none⟩)] w fun e w' => (∃ u, e = .returned u) ∧ (∃ go' co', Prx p base bs (st ++ ps.reverse) go' co' w') ∧ Below base w w' := by
  obtain ⟨W, hW⟩ : ∃ W, W = w.alloc (.cells #[.pointer (some ⟨p, 0, none⟩)] 58) := ⟨_, rfl⟩
  have hbW : Below w.heap.size w W := by rw [hW]; exact (Below.refl _ _).alloc (Nat.le_refl _) _
  have hsWe : W.heap.size = w.heap.size + 1 := by rw [hW]; simp
  have hbx : Boxed W w.heap.size 58 (.pointer (some ⟨p, 0, none⟩)) := by rw [hW]; exact Boxed.new _ _ _
  obtain ⟨hp2, hcap, hcm, hcl, hc2, hf2, hgl, hpl, hbg⟩ := (h.next hbW).pop
  have hpw : p < w.heap.size := by obtain ⟨addr, bv, ind, h1, _⟩ := h.ex; exact (Array.getElem?_eq_some_iff.1 h1).1
  have hgw : go < w.heap.size := (h.row.lt go rfl).2
  have hgw' : g < w.heap.size := (hO.lt g rfl).2
  have hqc := hbx.cell
  have hm : maxLen ≤ 9223372036854775807 := by decide
  have hmx : 5000 ≤ maxLen := by decide
  have hw1 : IntKind.i64.wrap (((st.length + 1 : Nat) : Int) - 1) = (st.length : Int) := by rw [IntKind.wrap_i64]; omega
  have hw1' : IntKind.i64.wrap ((st.length : Int) + 1 - 1) = (st.length : Int) := by rw [IntKind.wrap_i64]; omega
  have i1 : (st.length : Int) < (st.length : Int) + 1 := by omega
  have mixed : Try.prog.follows .mixedOrders = true := by kernel_rfl
  have ta1 := ta_part1
  have ta2 := ta_part2
  have ta3 := ta_part3
  have ta4 := ta_part4
  have hpB := h.pB
  have hpg : p ≠ g := fun e => by obtain ⟨addr, bv, ind, h1, _⟩ := h.ex; exact own_ne hO h1 (by decide) (by rw [e]; rfl)
  have hdr : Prx p base bs st go co (W.setCell ⟨p, 2, none⟩ (.slice (some ⟨go, 0, none⟩) st.length co)).drew := ⟨hp2.ex, hp2.row, hp2.pB⟩
  have hBd : Below base w (W.setCell ⟨p, 2, none⟩ (.slice (some ⟨go, 0, none⟩) st.length co)).drew := ((hbW.mono hB).setCell (p := ⟨p, 2, none⟩) h.pB _).drew
  have hqd : (W.setCell ⟨p, 2, none⟩ (.slice (some ⟨go, 0, none⟩) st.length co)).drew.heap[w.heap.size]? = some (.cells #[.pointer (some ⟨p, 0, none⟩)] 58 (0, 0)) := (Below.heap_setCell W _ _ _ (by show w.heap.size ≠ p; omega)).trans hbx
  have hOd : (W.setCell ⟨p, 2, none⟩ (.slice (some ⟨go, 0, none⟩) st.length co)).drew.ownsRow base 20 1 (.slice (some ⟨g, 0, none⟩) ps.length c) ps.length ps := own_at hO ((Below.heap_setCell W _ _ _ (Ne.symm hpg)).trans (hbW.block g hgw'))
  have hsd : (W.setCell ⟨p, 2, none⟩ (.slice (some ⟨go, 0, none⟩) st.length co)).drew.heap.size = w.heap.size + 1 := by show (W.setCell _ _).heap.size = _; simp [hsWe]
  have hpsh : Hid (ps.length ≤ 100) := hps
  clear hp2 hsWe
  refine (callsIn_wide (n := 0)).1 ?_
  refine callsIn_of_wp_marks Try.func21 rfl trivial ?_ rfl
  simp only [Try.ntmps21, List.size_toArray, List.length_cons, List.length_nil, Nat.reduceAdd, Nat.reduceSub, Array.replicate_succ, Array.replicate_zero, List.push_toArray, List.append_toArray, List.nil_append, List.cons_append]
  gi_upto_region 1 with fail
  rw [← hW]
  clear hW
  gi_wp2
  gi_region
  generalize (W.setCell ⟨p, 2, none⟩ (.slice (some ⟨go, 0, none⟩) st.length co)).drew = W2 at *
  clear hc2 hf2 hqc hcl hbx hbW
  gi_wp2
  refine ⟨trivial, rfl, (BackwardP_in 0 _ _ _ _).mono ?_⟩
  rintro e w' ⟨rfl, rfl⟩
  have hb4 : Below W2.heap.size W2 (W2.alloc (.cells #[.slice (some ⟨g, 0, none⟩) ps.length c] 48)) := (Below.refl _ _).alloc (Nat.le_refl _) _
  have hs4 : (W2.alloc (.cells #[.slice (some ⟨g, 0, none⟩) ps.length c] 48)).heap.size = w.heap.size + 2 := by simp [hsd]
  have hBs : (W2.alloc (.cells #[.slice (some ⟨g, 0, none⟩) ps.length c] 48)).heap[w.heap.size + 1]? = some (.cells #[.slice (some ⟨g, 0, none⟩) ps.length c] 48 (0, 0)) := by rw [← hsd]; exact new_at _ _
  generalize W2.alloc (.cells #[.slice (some ⟨g, 0, none⟩) ps.length c] 48) = W4 at *
  have h4 := hdr.next hb4
  have hO4 := own_at hOd (hb4.block g (by omega))
  obtain ⟨addr, bv, ind, h4p, ha4, hbv4⟩ := h4.ex
  have hq4 : W4.heap[w.heap.size]? = some (.cells #[.pointer (some ⟨p, 0, none⟩)] 58 (0, 0)) := (hb4.block _ (by omega)).trans hqd
  have hB4 : Below base w W4 := hBd.trans (hb4.mono (by omega))
  obtain ⟨bq, hbq⟩ : ∃ bq, bq = w.heap.size := ⟨_, rfl⟩
  have nC : ∀ b, b ≠ p → b ≠ go → ¬ Cp p W4 b := fun b h1 h2 h' => by
    rcases (Cp_row (cells4 h4p).2.2.1).1 h' with h3 | h3
    · exact h1 h3
    · exact h2 h3
  have hbv5 : ∀ k, bv.ownBlock = some k → k ≠ p ∧ k ≠ go ∧ k < W4.heap.size := fun k e => ⟨fun e' => own_ne hbv4 h4p (by decide) (by rw [e, e']), fun e' => by
    rcases own_apart hbv4 h4.row (by decide) with h5 | h5
    · rw [h5] at e; cases e
    · exact h5 (by rw [e, e']; rfl), (hbv4.lt k e).2⟩
  gi_wp2
  rw [← hbq]
  rw [← hbq] at hq4
  have hBs2 : W4.heap[bq + 1]? = some (.cells #[.slice (some ⟨g, 0, none⟩) ps.length c] 48 (0, 0)) := by rw [hbq]; exact hBs
  refine range_side (w := W4) (gf := 41) (lb := #[.pointer (some ⟨bq + 1, 0, none⟩)]) rfl (enters_of Try.func41 (by kernel_rfl) rfl) (encs := fun y : Int × Value => #[.int .i64 y.1, y.2]) (fun _ => rfl) (Cp p) (fun pre W => SP p base go st W4 addr bv ind pre W) (fun y => ∃ T u, y.2 = .iface T u) (fun xs => xs.map (·.2) = ps.reverse) ps.length
    (fun _ _ _ h hc => SP.apart (by omega) (by omega) h hc) (fun _ _ _ h hs => SP.keep h hs) ⟨⟨go, co, by rw [List.length_nil, Nat.add_zero]; exact h4p, by rw [List.length_nil, Nat.add_zero, List.map_nil, List.append_nil]; exact h4.row, .inl rfl⟩, Rnd.refl _ _⟩
    (fun y a' _ => ∃ (v0 v2 v3 v4 v5 v6 v7 v8 v10 v11 v12 v13 v14 v15 v16 v17 v18 v19 v20 v21 v22 v23 v24 v25 v26 v27 v28 v29 v30 v31 v32 v33 v34 v35 v36 v37 v38 v39 v40 v41 v42 v43 v44 v45 v46 v47 v48 v49 v50 v51 v52 v53 v54 v55 v56 v57 v58 v59 v60 v61 v62 v63 v64 v65 v66 v67 v68 v69 v70 v71 v72 v73 v74 v75 v76 v77 v78 : Value), a' = { tmps := #[v0, .pointer (some ⟨bq, 0, none⟩), v2, v3, v4, v5, v6, v7, v8, y.2, v10, v11, v12, v13, v14, v15, v16, v17, v18, v19, v20, v21, v22, v23, v24, v25, v26, v27, v28, v29, v30, v31, v32, v33, v34, v35, v36, v37, v38, v39, v40, v41, v42, v43, v44, v45, v46, v47, v48, v49, v50, v51, v52, v53, v54, v55, v56, v57, v58, v59, v60, v61, v62, v63, v64, v65, v66, v67, v68, v69, v70, v71, v72, v73, v74, v75, v76, v77, v78], defers := [] }) (fun _ _ _ _ _ h _ => h) ?hseq ?hassign ?hbody ?hdone
  case hseq =>
    intro W5 J2 hs5 hb5 hSide hC5 hY5 h05
    have nc : ∀ b, b < W4.heap.size → b ≠ p → b ≠ go → ¬ Cx (Cp p) W4.heap.size W5 b := fun b hb h1 h2 h' => by
      rcases h' with h' | h' | h'
      · exact nC b h1 h2 (hC5 b h')
      · omega
      · omega
    refine (BackwardP1_in (W4.heap.size + 1) (bq + 1) c g ps (by have := hpsh.out; omega) J2 (fun W => Rnd (Cx (Cp p) W4.heap.size) W5 W) (fun W hr => ⟨?_, fun j v hj => ?_⟩) (fun pre y W hj hr hi hl => ?_) hv W5 (Rnd.refl _ _) h05).mono (fun e W' h => ⟨h.1, h.2⟩)
    · have e1 : W.heap[bq + 1]? = _ := (hr.block (bq + 1) (by omega) (nc _ (by omega) (by omega) (by omega))).trans ((hb5.block (bq + 1) (by omega)).trans hBs2)
      simp [World.cell?, e1]
    · have e1 := (hr.block g (by omega) (nc _ (by omega) (Ne.symm hpg) hgg)).trans (hb5.block g (by omega))
      have hjl : j < ps.length := (List.getElem?_eq_some_iff.1 hj).1
      have := (own_at hO4 e1).cellAt j (by omega)
      rw [this, hj]
    · obtain ⟨fn, tmps, assign, body, hy, hRd⟩ := hY5 pre y W hj hi hl
      exact ⟨fn, tmps, assign, body, hy, hRd.mono fun e W' h => ⟨h.1, h.2.1, hr.trans h.2.2⟩⟩
  case hassign =>
    rintro pre y W K hI _ hlen hsz hK
    clear hbq
    gi_wp2
    exact hK _ _ (Rnd.refl _ _) hI ⟨_, _, _, _, _, _, _, _, _, _, _, _, _, _, _, _, _, _, _, _, _, _, _, _, _, _, _, _, _, _, _, _, _, _, _, _, _, _, _, _, _, _, _, _, _, _, _, _, _, _, _, _, _, _, _, _, _, _, _, _, _, _, _, _, _, _, _, _, _, _, _, _, _, _, _, _, _, rfl⟩
  case hbody =>
    rintro pre y a' W hI ⟨T, u, hTu⟩ hlen ⟨v0, v2, v3, v4, v5, v6, v7, v8, v10, v11, v12, v13, v14, v15, v16, v17, v18, v19, v20, v21, v22, v23, v24, v25, v26, v27, v28, v29, v30, v31, v32, v33, v34, v35, v36, v37, v38, v39, v40, v41, v42, v43, v44, v45, v46, v47, v48, v49, v50, v51, v52, v53, v54, v55, v56, v57, v58, v59, v60, v61, v62, v63, v64, v65, v66, v67, v68, v69, v70, v71, v72, v73, v74, v75, v76, v77, v78, rfl⟩ hsz
    obtain ⟨g1, c1, hp1, hrow1, hg1⟩ := hI.ex
    obtain ⟨_, _, o3, _, of, _⟩ := cells4 hp1
    have o3f := of 2
    have hqW : W.heap[bq]? = _ := (hI.r.block bq (by omega) (nC bq (by omega) (by omega))).trans hq4
    have qd : W.cell? ⟨bq, 0, none⟩ = some (.pointer (some ⟨p, 0, none⟩)) := by simp [World.cell?, hqW]
    have hqb : bq < W.heap.size := (Array.getElem?_eq_some_iff.1 hqW).1
    have hpb : p < W.heap.size := (Array.getElem?_eq_some_iff.1 hp1).1
    have hqg : Hid (bq ≠ g1) := fun e => by rcases hg1 with h1 | h1 <;> omega
    have hpg : Hid (p ≠ g1) := fun e => own_ne hrow1 hp1 (by decide) (by rw [e]; rfl)
    obtain ⟨i0, hi0, hz0, hz1, hz2⟩ := info_parts info20
    have hfin : Hid (∀ g' c' w7, w7.ownsRow base 20 1 (.slice (some ⟨g', 0, none⟩) (st.length + pre.length + 1) c') (st.length + pre.length + 1) (st ++ pre.map (·.2) ++ [.iface T u]) → (W.drew.alloc (.cells #[.iface T u] 20)).grownBy w7 (some g1) → (some g1 = some g' ∨ g' = W.heap.size + 1) → Rnd (Cp p) W (w7.setCell ⟨p, 2, none⟩ (.slice (some ⟨g', 0, none⟩) (st.length + pre.length + 1) c')) ∧ SP p base go st W4 addr bv ind (pre ++ [y]) (w7.setCell ⟨p, 2, none⟩ (.slice (some ⟨g', 0, none⟩) (st.length + pre.length + 1) c'))) := fun g' c' w7 h1 h2 h3 => SP.more (y := y) hpB (by have := hB4.size; omega) hsz hI hp1 hrow1 hg1 (by rw [hTu]; exact h1) h2 h3
    have hrowh : Hid ((W.drew.alloc (.cells #[.iface T u] 20)).ownsRow base 20 1 (.slice (some ⟨g1, 0, none⟩) (st.length + pre.length) c1) (st.length + pre.length) (st ++ pre.map (·.2))) := World.ownsRow.alloc (w := W.drew) hrow1 _
    have hn5 : Hid _ := World.news_of_block (new_at W.drew (.cells #[.iface T u] 20))
    have hBW : base ≤ W.heap.size := by have := hB4.size; have := hI.r.size; omega
    have hlp : pre.length ≤ 100 := by have := hpsh.out; omega
    rw [hTu]
    clear hI hp1 hrow1 hq4 hqW of hbq
    gi_wp2
    refine region_round mixed ?hd (by rintro ⟨_, _, h⟩; exact h) ?_
    case hd =>
      intro i o ho c hc
      have hm := Array.mem_of_getElem? ho
      simp only [List.mem_toArray, List.mem_cons, List.not_mem_nil, or_false] at hm
      rcases hm with rfl | rfl | rfl | rfl | rfl | rfl | rfl | rfl | rfl | rfl | rfl <;> cases hc
    try (change wpAny _ _ _ _ _ _ _ (World.drew _))
    refine wpAny_take (i := 5) (v := ?_) rfl (by kernel_rfl) (by kernel_rfl) (by kernel_rfl) (fun _ _ _ h => h) (Or.inl ⟨by rfl, ?_⟩) ?_
    rotate_left
    · intro w
      go_simp
      try with_reducible rfl
    refine wpAny_ready (rs := [0, 1, 6]) (by kernel_rfl) (by simp) ?_
    refine AllReady.cons rfl (fun K hK => ?_) ?_
    · go_simp
      refine hK _ _ ?_
      clear hK K
      refine wpAny_ready (rs := [1, 6]) (by kernel_rfl) (by simp) ?_
      refine AllReady.cons rfl (fun K hK => ?_) ?_
      · go_simp
        refine hK _ _ ?_
        clear hK K
        refine wpAny_take (i := 2) (v := ?_) rfl (by kernel_rfl) (by kernel_rfl) (by kernel_rfl) (fun _ _ _ h => h) (Or.inl ⟨by rfl, ?_⟩) ?_
        rotate_left
        · intro w
          go_simp
          try with_reducible rfl
        refine wpAny_take (i := 3) (v := ?_) rfl (by kernel_rfl) (by kernel_rfl) (by kernel_rfl) (fun _ _ _ h => h) (Or.inl ⟨by rfl, ?_⟩) ?_
        rotate_left
        · intro w
          go_simp
          try with_reducible rfl
        refine wpAny_ready (rs := [4, 6]) (by kernel_rfl) (by simp) ?_
        refine AllReady.cons rfl (fun K hK => ?_) ?_
        · go_simp
          refine hK _ _ ?_
          clear hK K
          refine wpAny_ready (rs := [6]) (by kernel_rfl) (by simp) ?_
          refine AllReady.cons rfl (fun K hK => ?_) ?_
          · go_simp
            refine hK _ _ ?_
            clear hK K
            refine wpAny_ready (rs := [7]) (by kernel_rfl) (by simp) ?_
            refine AllReady.cons rfl (fun K hK => ?_) ?_
            · refine step_append_lies _ rfl (.tmp 73) (.tmp 75) 48 rfl base 20 i0 _ 1 16 Try.underlying48 hi0 hz0 hz1 hz2 (by rfl) (by decide) (.slice (some ⟨g1, 0, none⟩) (st.length + pre.length) c1) (st.length + pre.length) (st ++ pre.map (·.2)) (by simp [Act.eval]) hrowh.out ⟨W.heap.size, 0, none⟩ 1 1 [.iface T u] (by simp [Act.eval]) rfl hn5.out (by intro u hu; rw [List.mem_singleton.1 hu]; rfl) (by decide) (by omega) (by omega) (by simp; omega) (W.heap.size + 1) (by simp) ?_
              intro g' c' w7 hO7 hg7 hat7 hlt7
              have q7 := hg7.cell (a := ⟨bq, 0, none⟩) (cell_al qd) (by show some bq ≠ some g1; simp; exact hqg.out)
              have o7 := hg7.cell (a := ⟨p, 2, none⟩) (cell_al o3) (by show some p ≠ some g1; simp; exact hpg.out)
              have f7 := fr_al hg7 (p := ⟨p, 2, none⟩) (cell_al o3) (by show some p ≠ some g1; simp; exact hpg.out) (fr_new o3 o3f)
              refine hK _ _ ?_
              clear hK K
              refine wpAny_take (i := 8) (v := ?_) rfl (by kernel_rfl) (by kernel_rfl) (by kernel_rfl) (fun _ _ _ h => h) (Or.inl ⟨by rfl, ?_⟩) ?_
              rotate_left
              · intro w
                go_simp
                try with_reducible rfl
              refine wpAny_take (i := 9) (v := ?_) rfl (by kernel_rfl) (by kernel_rfl) (by kernel_rfl) (fun _ _ _ h => h) (Or.inl ⟨by rfl, ?_⟩) ?_
              rotate_left
              · intro w
                go_simp
                try with_reducible rfl
              refine wpAny_ready (rs := [10]) (by kernel_rfl) (by simp) ?_
              refine AllReady.cons rfl (fun K hK => ?_) ?_
              · go_simp
                refine hK _ _ ?_
                clear hK K
                refine wpAny_done (by kernel_rfl) ?_ _
                exact hfin.out _ _ _ hO7 hg7 hat7
              exact AllReady.nil
            exact AllReady.nil
          exact AllReady.nil
        refine AllReady.cons rfl (fun K hK => ?_) ?_
        · go_simp
          refine hK _ _ ?_
          clear hK K
          refine wpAny_ready (rs := [4]) (by kernel_rfl) (by simp) ?_
          refine AllReady.cons rfl (fun K hK => ?_) ?_
          · go_simp
            refine hK _ _ ?_
            clear hK K
            refine wpAny_ready (rs := [7]) (by kernel_rfl) (by simp) ?_
            refine AllReady.cons rfl (fun K hK => ?_) ?_
            · refine step_append_lies _ rfl (.tmp 73) (.tmp 75) 48 rfl base 20 i0 _ 1 16 Try.underlying48 hi0 hz0 hz1 hz2 (by rfl) (by decide) (.slice (some ⟨g1, 0, none⟩) (st.length + pre.length) c1) (st.length + pre.length) (st ++ pre.map (·.2)) (by simp [Act.eval]) hrowh.out ⟨W.heap.size, 0, none⟩ 1 1 [.iface T u] (by simp [Act.eval]) rfl hn5.out (by intro u hu; rw [List.mem_singleton.1 hu]; rfl) (by decide) (by omega) (by omega) (by simp; omega) (W.heap.size + 1) (by simp) ?_
              intro g' c' w7 hO7 hg7 hat7 hlt7
              have q7 := hg7.cell (a := ⟨bq, 0, none⟩) (cell_al qd) (by show some bq ≠ some g1; simp; exact hqg.out)
              have o7 := hg7.cell (a := ⟨p, 2, none⟩) (cell_al o3) (by show some p ≠ some g1; simp; exact hpg.out)
              have f7 := fr_al hg7 (p := ⟨p, 2, none⟩) (cell_al o3) (by show some p ≠ some g1; simp; exact hpg.out) (fr_new o3 o3f)
              refine hK _ _ ?_
              clear hK K
              refine wpAny_take (i := 8) (v := ?_) rfl (by kernel_rfl) (by kernel_rfl) (by kernel_rfl) (fun _ _ _ h => h) (Or.inl ⟨by rfl, ?_⟩) ?_
              rotate_left
              · intro w
                go_simp
                try with_reducible rfl
              refine wpAny_take (i := 9) (v := ?_) rfl (by kernel_rfl) (by kernel_rfl) (by kernel_rfl) (fun _ _ _ h => h) (Or.inl ⟨by rfl, ?_⟩) ?_
              rotate_left
              · intro w
                go_simp
                try with_reducible rfl
              refine wpAny_ready (rs := [10]) (by kernel_rfl) (by simp) ?_
              refine AllReady.cons rfl (fun K hK => ?_) ?_
              · go_simp
                refine hK _ _ ?_
                clear hK K
                refine wpAny_done (by kernel_rfl) ?_ _
                exact hfin.out _ _ _ hO7 hg7 hat7
              exact AllReady.nil
            exact AllReady.nil
          exact AllReady.nil
        exact AllReady.nil
      refine AllReady.cons rfl (fun K hK => ?_) ?_
      · go_simp
        refine hK _ _ ?_
        clear hK K
        refine wpAny_ready (rs := [1]) (by kernel_rfl) (by simp) ?_
        refine AllReady.cons rfl (fun K hK => ?_) ?_
        · go_simp
          refine hK _ _ ?_
          clear hK K
          refine wpAny_take (i := 2) (v := ?_) rfl (by kernel_rfl) (by kernel_rfl) (by kernel_rfl) (fun _ _ _ h => h) (Or.inl ⟨by rfl, ?_⟩) ?_
          rotate_left
          · intro w
            go_simp
            try with_reducible rfl
          refine wpAny_take (i := 3) (v := ?_) rfl (by kernel_rfl) (by kernel_rfl) (by kernel_rfl) (fun _ _ _ h => h) (Or.inl ⟨by rfl, ?_⟩) ?_
          rotate_left
          · intro w
            go_simp
            try with_reducible rfl
          refine wpAny_ready (rs := [4]) (by kernel_rfl) (by simp) ?_
          refine AllReady.cons rfl (fun K hK => ?_) ?_
          · go_simp
            refine hK _ _ ?_
            clear hK K
            refine wpAny_ready (rs := [7]) (by kernel_rfl) (by simp) ?_
            refine AllReady.cons rfl (fun K hK => ?_) ?_
            · refine step_append_lies _ rfl (.tmp 73) (.tmp 75) 48 rfl base 20 i0 _ 1 16 Try.underlying48 hi0 hz0 hz1 hz2 (by rfl) (by decide) (.slice (some ⟨g1, 0, none⟩) (st.length + pre.length) c1) (st.length + pre.length) (st ++ pre.map (·.2)) (by simp [Act.eval]) hrowh.out ⟨W.heap.size, 0, none⟩ 1 1 [.iface T u] (by simp [Act.eval]) rfl hn5.out (by intro u hu; rw [List.mem_singleton.1 hu]; rfl) (by decide) (by omega) (by omega) (by simp; omega) (W.heap.size + 1) (by simp) ?_
              intro g' c' w7 hO7 hg7 hat7 hlt7
              have q7 := hg7.cell (a := ⟨bq, 0, none⟩) (cell_al qd) (by show some bq ≠ some g1; simp; exact hqg.out)
              have o7 := hg7.cell (a := ⟨p, 2, none⟩) (cell_al o3) (by show some p ≠ some g1; simp; exact hpg.out)
              have f7 := fr_al hg7 (p := ⟨p, 2, none⟩) (cell_al o3) (by show some p ≠ some g1; simp; exact hpg.out) (fr_new o3 o3f)
              refine hK _ _ ?_
              clear hK K
              refine wpAny_take (i := 8) (v := ?_) rfl (by kernel_rfl) (by kernel_rfl) (by kernel_rfl) (fun _ _ _ h => h) (Or.inl ⟨by rfl, ?_⟩) ?_
              rotate_left
              · intro w
                go_simp
                try with_reducible rfl
              refine wpAny_take (i := 9) (v := ?_) rfl (by kernel_rfl) (by kernel_rfl) (by kernel_rfl) (fun _ _ _ h => h) (Or.inl ⟨by rfl, ?_⟩) ?_
              rotate_left
              · intro w
                go_simp
                try with_reducible rfl
              refine wpAny_ready (rs := [10]) (by kernel_rfl) (by simp) ?_
              refine AllReady.cons rfl (fun K hK => ?_) ?_
              · go_simp
                refine hK _ _ ?_
                clear hK K
                refine wpAny_done (by kernel_rfl) ?_ _
                exact hfin.out _ _ _ hO7 hg7 hat7
              exact AllReady.nil
            exact AllReady.nil
          exact AllReady.nil
        exact AllReady.nil
      exact AllReady.nil
    refine AllReady.cons rfl (fun K hK => ?_) ?_
    · go_simp
      refine hK _ _ ?_
      clear hK K
      refine wpAny_take (i := 2) (v := ?_) rfl (by kernel_rfl) (by kernel_rfl) (by kernel_rfl) (fun _ _ _ h => h) (Or.inl ⟨by rfl, ?_⟩) ?_
      rotate_left
      · intro w
        go_simp
        try with_reducible rfl
      refine wpAny_take (i := 3) (v := ?_) rfl (by kernel_rfl) (by kernel_rfl) (by kernel_rfl) (fun _ _ _ h => h) (Or.inl ⟨by rfl, ?_⟩) ?_
      rotate_left
      · intro w
        go_simp
        try with_reducible rfl
      refine wpAny_ready (rs := [0, 4, 6]) (by kernel_rfl) (by simp) ?_
      refine AllReady.cons rfl (fun K hK => ?_) ?_
      · go_simp
        refine hK _ _ ?_
        clear hK K
        refine wpAny_ready (rs := [4, 6]) (by kernel_rfl) (by simp) ?_
        refine AllReady.cons rfl (fun K hK => ?_) ?_
        · go_simp
          refine hK _ _ ?_
          clear hK K
          refine wpAny_ready (rs := [6]) (by kernel_rfl) (by simp) ?_
          refine AllReady.cons rfl (fun K hK => ?_) ?_
          · go_simp
            refine hK _ _ ?_
            clear hK K
            refine wpAny_ready (rs := [7]) (by kernel_rfl) (by simp) ?_
            refine AllReady.cons rfl (fun K hK => ?_) ?_
            · refine step_append_lies _ rfl (.tmp 73) (.tmp 75) 48 rfl base 20 i0 _ 1 16 Try.underlying48 hi0 hz0 hz1 hz2 (by rfl) (by decide) (.slice (some ⟨g1, 0, none⟩) (st.length + pre.length) c1) (st.length + pre.length) (st ++ pre.map (·.2)) (by simp [Act.eval]) hrowh.out ⟨W.heap.size, 0, none⟩ 1 1 [.iface T u] (by simp [Act.eval]) rfl hn5.out (by intro u hu; rw [List.mem_singleton.1 hu]; rfl) (by decide) (by omega) (by omega) (by simp; omega) (W.heap.size + 1) (by simp) ?_
              intro g' c' w7 hO7 hg7 hat7 hlt7
              have q7 := hg7.cell (a := ⟨bq, 0, none⟩) (cell_al qd) (by show some bq ≠ some g1; simp; exact hqg.out)
              have o7 := hg7.cell (a := ⟨p, 2, none⟩) (cell_al o3) (by show some p ≠ some g1; simp; exact hpg.out)
              have f7 := fr_al hg7 (p := ⟨p, 2, none⟩) (cell_al o3) (by show some p ≠ some g1; simp; exact hpg.out) (fr_new o3 o3f)
              refine hK _ _ ?_
              clear hK K
              refine wpAny_take (i := 8) (v := ?_) rfl (by kernel_rfl) (by kernel_rfl) (by kernel_rfl) (fun _ _ _ h => h) (Or.inl ⟨by rfl, ?_⟩) ?_
              rotate_left
              · intro w
                go_simp
                try with_reducible rfl
              refine wpAny_take (i := 9) (v := ?_) rfl (by kernel_rfl) (by kernel_rfl) (by kernel_rfl) (fun _ _ _ h => h) (Or.inl ⟨by rfl, ?_⟩) ?_
              rotate_left
              · intro w
                go_simp
                try with_reducible rfl
              refine wpAny_ready (rs := [10]) (by kernel_rfl) (by simp) ?_
              refine AllReady.cons rfl (fun K hK => ?_) ?_
              · go_simp
                refine hK _ _ ?_
                clear hK K
                refine wpAny_done (by kernel_rfl) ?_ _
                exact hfin.out _ _ _ hO7 hg7 hat7
              exact AllReady.nil
            exact AllReady.nil
          exact AllReady.nil
        refine AllReady.cons rfl (fun K hK => ?_) ?_
        · go_simp
          refine hK _ _ ?_
          clear hK K
          refine wpAny_ready (rs := [4]) (by kernel_rfl) (by simp) ?_
          refine AllReady.cons rfl (fun K hK => ?_) ?_
          · go_simp
            refine hK _ _ ?_
            clear hK K
            refine wpAny_ready (rs := [7]) (by kernel_rfl) (by simp) ?_
            refine AllReady.cons rfl (fun K hK => ?_) ?_
            · refine step_append_lies _ rfl (.tmp 73) (.tmp 75) 48 rfl base 20 i0 _ 1 16 Try.underlying48 hi0 hz0 hz1 hz2 (by rfl) (by decide) (.slice (some ⟨g1, 0, none⟩) (st.length + pre.length) c1) (st.length + pre.length) (st ++ pre.map (·.2)) (by simp [Act.eval]) hrowh.out ⟨W.heap.size, 0, none⟩ 1 1 [.iface T u] (by simp [Act.eval]) rfl hn5.out (by intro u hu; rw [List.mem_singleton.1 hu]; rfl) (by decide) (by omega) (by omega) (by simp; omega) (W.heap.size + 1) (by simp) ?_
              intro g' c' w7 hO7 hg7 hat7 hlt7
              have q7 := hg7.cell (a := ⟨bq, 0, none⟩) (cell_al qd) (by show some bq ≠ some g1; simp; exact hqg.out)
              have o7 := hg7.cell (a := ⟨p, 2, none⟩) (cell_al o3) (by show some p ≠ some g1; simp; exact hpg.out)
              have f7 := fr_al hg7 (p := ⟨p, 2, none⟩) (cell_al o3) (by show some p ≠ some g1; simp; exact hpg.out) (fr_new o3 o3f)
              refine hK _ _ ?_
              clear hK K
              refine wpAny_take (i := 8) (v := ?_) rfl (by kernel_rfl) (by kernel_rfl) (by kernel_rfl) (fun _ _ _ h => h) (Or.inl ⟨by rfl, ?_⟩) ?_
              rotate_left
              · intro w
                go_simp
                try with_reducible rfl
              refine wpAny_take (i := 9) (v := ?_) rfl (by kernel_rfl) (by kernel_rfl) (by kernel_rfl) (fun _ _ _ h => h) (Or.inl ⟨by rfl, ?_⟩) ?_
              rotate_left
              · intro w
                go_simp
                try with_reducible rfl
              refine wpAny_ready (rs := [10]) (by kernel_rfl) (by simp) ?_
              refine AllReady.cons rfl (fun K hK => ?_) ?_
              · go_simp
                refine hK _ _ ?_
                clear hK K
                refine wpAny_done (by kernel_rfl) ?_ _
                exact hfin.out _ _ _ hO7 hg7 hat7
              exact AllReady.nil
            exact AllReady.nil
          exact AllReady.nil
        exact AllReady.nil
      refine AllReady.cons rfl (fun K hK => ?_) ?_
      · go_simp
        refine hK _ _ ?_
        clear hK K
        refine wpAny_ready (rs := [0, 6]) (by kernel_rfl) (by simp) ?_
        refine AllReady.cons rfl (fun K hK => ?_) ?_
        · go_simp
          refine hK _ _ ?_
          clear hK K
          refine wpAny_ready (rs := [6]) (by kernel_rfl) (by simp) ?_
          refine AllReady.cons rfl (fun K hK => ?_) ?_
          · go_simp
            refine hK _ _ ?_
            clear hK K
            refine wpAny_ready (rs := [7]) (by kernel_rfl) (by simp) ?_
            refine AllReady.cons rfl (fun K hK => ?_) ?_
            · refine step_append_lies _ rfl (.tmp 73) (.tmp 75) 48 rfl base 20 i0 _ 1 16 Try.underlying48 hi0 hz0 hz1 hz2 (by rfl) (by decide) (.slice (some ⟨g1, 0, none⟩) (st.length + pre.length) c1) (st.length + pre.length) (st ++ pre.map (·.2)) (by simp [Act.eval]) hrowh.out ⟨W.heap.size, 0, none⟩ 1 1 [.iface T u] (by simp [Act.eval]) rfl hn5.out (by intro u hu; rw [List.mem_singleton.1 hu]; rfl) (by decide) (by omega) (by omega) (by simp; omega) (W.heap.size + 1) (by simp) ?_
              intro g' c' w7 hO7 hg7 hat7 hlt7
              have q7 := hg7.cell (a := ⟨bq, 0, none⟩) (cell_al qd) (by show some bq ≠ some g1; simp; exact hqg.out)
              have o7 := hg7.cell (a := ⟨p, 2, none⟩) (cell_al o3) (by show some p ≠ some g1; simp; exact hpg.out)
              have f7 := fr_al hg7 (p := ⟨p, 2, none⟩) (cell_al o3) (by show some p ≠ some g1; simp; exact hpg.out) (fr_new o3 o3f)
              refine hK _ _ ?_
              clear hK K
              refine wpAny_take (i := 8) (v := ?_) rfl (by kernel_rfl) (by kernel_rfl) (by kernel_rfl) (fun _ _ _ h => h) (Or.inl ⟨by rfl, ?_⟩) ?_
              rotate_left
              · intro w
                go_simp
                try with_reducible rfl
              refine wpAny_take (i := 9) (v := ?_) rfl (by kernel_rfl) (by kernel_rfl) (by kernel_rfl) (fun _ _ _ h => h) (Or.inl ⟨by rfl, ?_⟩) ?_
              rotate_left
              · intro w
                go_simp
                try with_reducible rfl
              refine wpAny_ready (rs := [10]) (by kernel_rfl) (by simp) ?_
              refine AllReady.cons rfl (fun K hK => ?_) ?_
              · go_simp
                refine hK _ _ ?_
                clear hK K
                refine wpAny_done (by kernel_rfl) ?_ _
                exact hfin.out _ _ _ hO7 hg7 hat7
              exact AllReady.nil
            exact AllReady.nil
          exact AllReady.nil
        refine AllReady.cons rfl (fun K hK => ?_) ?_
        · go_simp
          refine hK _ _ ?_
          clear hK K
          refine wpAny_ready (rs := [0, 7]) (by kernel_rfl) (by simp) ?_
          refine AllReady.cons rfl (fun K hK => ?_) ?_
          · go_simp
            refine hK _ _ ?_
            clear hK K
            refine wpAny_ready (rs := [7]) (by kernel_rfl) (by simp) ?_
            refine AllReady.cons rfl (fun K hK => ?_) ?_
            · refine step_append_lies _ rfl (.tmp 73) (.tmp 75) 48 rfl base 20 i0 _ 1 16 Try.underlying48 hi0 hz0 hz1 hz2 (by rfl) (by decide) (.slice (some ⟨g1, 0, none⟩) (st.length + pre.length) c1) (st.length + pre.length) (st ++ pre.map (·.2)) (by simp [Act.eval]) hrowh.out ⟨W.heap.size, 0, none⟩ 1 1 [.iface T u] (by simp [Act.eval]) rfl hn5.out (by intro u hu; rw [List.mem_singleton.1 hu]; rfl) (by decide) (by omega) (by omega) (by simp; omega) (W.heap.size + 1) (by simp) ?_
              intro g' c' w7 hO7 hg7 hat7 hlt7
              have q7 := hg7.cell (a := ⟨bq, 0, none⟩) (cell_al qd) (by show some bq ≠ some g1; simp; exact hqg.out)
              have o7 := hg7.cell (a := ⟨p, 2, none⟩) (cell_al o3) (by show some p ≠ some g1; simp; exact hpg.out)
              have f7 := fr_al hg7 (p := ⟨p, 2, none⟩) (cell_al o3) (by show some p ≠ some g1; simp; exact hpg.out) (fr_new o3 o3f)
              refine hK _ _ ?_
              clear hK K
              refine wpAny_take (i := 8) (v := ?_) rfl (by kernel_rfl) (by kernel_rfl) (by kernel_rfl) (fun _ _ _ h => h) (Or.inl ⟨by rfl, ?_⟩) ?_
              rotate_left
              · intro w
                go_simp
                try with_reducible rfl
              refine wpAny_take (i := 9) (v := ?_) rfl (by kernel_rfl) (by kernel_rfl) (by kernel_rfl) (fun _ _ _ h => h) (Or.inl ⟨by rfl, ?_⟩) ?_
              rotate_left
              · intro w
                go_simp
                try with_reducible rfl
              refine wpAny_ready (rs := [10]) (by kernel_rfl) (by simp) ?_
              refine AllReady.cons rfl (fun K hK => ?_) ?_
              · go_simp
                refine hK _ _ ?_
                clear hK K
                refine wpAny_done (by kernel_rfl) ?_ _
                exact hfin.out _ _ _ hO7 hg7 hat7
              exact AllReady.nil
            exact AllReady.nil
          refine AllReady.cons rfl (fun K hK => ?_) ?_
          · refine step_append_lies _ rfl (.tmp 73) (.tmp 75) 48 rfl base 20 i0 _ 1 16 Try.underlying48 hi0 hz0 hz1 hz2 (by rfl) (by decide) (.slice (some ⟨g1, 0, none⟩) (st.length + pre.length) c1) (st.length + pre.length) (st ++ pre.map (·.2)) (by simp [Act.eval]) hrowh.out ⟨W.heap.size, 0, none⟩ 1 1 [.iface T u] (by simp [Act.eval]) rfl hn5.out (by intro u hu; rw [List.mem_singleton.1 hu]; rfl) (by decide) (by omega) (by omega) (by simp; omega) (W.heap.size + 1) (by simp) ?_
            intro g' c' w7 hO7 hg7 hat7 hlt7
            have q7 := hg7.cell (a := ⟨bq, 0, none⟩) (cell_al qd) (by show some bq ≠ some g1; simp; exact hqg.out)
            have o7 := hg7.cell (a := ⟨p, 2, none⟩) (cell_al o3) (by show some p ≠ some g1; simp; exact hpg.out)
            have f7 := fr_al hg7 (p := ⟨p, 2, none⟩) (cell_al o3) (by show some p ≠ some g1; simp; exact hpg.out) (fr_new o3 o3f)
            refine hK _ _ ?_
            clear hK K
            refine wpAny_ready (rs := [0]) (by kernel_rfl) (by simp) ?_
            refine AllReady.cons rfl (fun K hK => ?_) ?_
            · go_simp
              refine hK _ _ ?_
              clear hK K
              refine wpAny_take (i := 8) (v := ?_) rfl (by kernel_rfl) (by kernel_rfl) (by kernel_rfl) (fun _ _ _ h => h) (Or.inl ⟨by rfl, ?_⟩) ?_
              rotate_left
              · intro w
                go_simp
                try with_reducible rfl
              refine wpAny_take (i := 9) (v := ?_) rfl (by kernel_rfl) (by kernel_rfl) (by kernel_rfl) (fun _ _ _ h => h) (Or.inl ⟨by rfl, ?_⟩) ?_
              rotate_left
              · intro w
                go_simp
                try with_reducible rfl
              refine wpAny_ready (rs := [10]) (by kernel_rfl) (by simp) ?_
              refine AllReady.cons rfl (fun K hK => ?_) ?_
              · go_simp
                refine hK _ _ ?_
                clear hK K
                refine wpAny_done (by kernel_rfl) ?_ _
                exact hfin.out _ _ _ hO7 hg7 hat7
              exact AllReady.nil
            exact AllReady.nil
          exact AllReady.nil
        exact AllReady.nil
      refine AllReady.cons rfl (fun K hK => ?_) ?_
      · go_simp
        refine hK _ _ ?_
        clear hK K
        refine wpAny_ready (rs := [0, 4]) (by kernel_rfl) (by simp) ?_
        refine AllReady.cons rfl (fun K hK => ?_) ?_
        · go_simp
          refine hK _ _ ?_
          clear hK K
          refine wpAny_ready (rs := [4]) (by kernel_rfl) (by simp) ?_
          refine AllReady.cons rfl (fun K hK => ?_) ?_
          · go_simp
            refine hK _ _ ?_
            clear hK K
            refine wpAny_ready (rs := [7]) (by kernel_rfl) (by simp) ?_
            refine AllReady.cons rfl (fun K hK => ?_) ?_
            · refine step_append_lies _ rfl (.tmp 73) (.tmp 75) 48 rfl base 20 i0 _ 1 16 Try.underlying48 hi0 hz0 hz1 hz2 (by rfl) (by decide) (.slice (some ⟨g1, 0, none⟩) (st.length + pre.length) c1) (st.length + pre.length) (st ++ pre.map (·.2)) (by simp [Act.eval]) hrowh.out ⟨W.heap.size, 0, none⟩ 1 1 [.iface T u] (by simp [Act.eval]) rfl hn5.out (by intro u hu; rw [List.mem_singleton.1 hu]; rfl) (by decide) (by omega) (by omega) (by simp; omega) (W.heap.size + 1) (by simp) ?_
              intro g' c' w7 hO7 hg7 hat7 hlt7
              have q7 := hg7.cell (a := ⟨bq, 0, none⟩) (cell_al qd) (by show some bq ≠ some g1; simp; exact hqg.out)
              have o7 := hg7.cell (a := ⟨p, 2, none⟩) (cell_al o3) (by show some p ≠ some g1; simp; exact hpg.out)
              have f7 := fr_al hg7 (p := ⟨p, 2, none⟩) (cell_al o3) (by show some p ≠ some g1; simp; exact hpg.out) (fr_new o3 o3f)
              refine hK _ _ ?_
              clear hK K
              refine wpAny_take (i := 8) (v := ?_) rfl (by kernel_rfl) (by kernel_rfl) (by kernel_rfl) (fun _ _ _ h => h) (Or.inl ⟨by rfl, ?_⟩) ?_
              rotate_left
              · intro w
                go_simp
                try with_reducible rfl
              refine wpAny_take (i := 9) (v := ?_) rfl (by kernel_rfl) (by kernel_rfl) (by kernel_rfl) (fun _ _ _ h => h) (Or.inl ⟨by rfl, ?_⟩) ?_
              rotate_left
              · intro w
                go_simp
                try with_reducible rfl
              refine wpAny_ready (rs := [10]) (by kernel_rfl) (by simp) ?_
              refine AllReady.cons rfl (fun K hK => ?_) ?_
              · go_simp
                refine hK _ _ ?_
                clear hK K
                refine wpAny_done (by kernel_rfl) ?_ _
                exact hfin.out _ _ _ hO7 hg7 hat7
              exact AllReady.nil
            exact AllReady.nil
          exact AllReady.nil
        refine AllReady.cons rfl (fun K hK => ?_) ?_
        · go_simp
          refine hK _ _ ?_
          clear hK K
          refine wpAny_ready (rs := [0, 7]) (by kernel_rfl) (by simp) ?_
          refine AllReady.cons rfl (fun K hK => ?_) ?_
          · go_simp
            refine hK _ _ ?_
            clear hK K
            refine wpAny_ready (rs := [7]) (by kernel_rfl) (by simp) ?_
            refine AllReady.cons rfl (fun K hK => ?_) ?_
            · refine step_append_lies _ rfl (.tmp 73) (.tmp 75) 48 rfl base 20 i0 _ 1 16 Try.underlying48 hi0 hz0 hz1 hz2 (by rfl) (by decide) (.slice (some ⟨g1, 0, none⟩) (st.length + pre.length) c1) (st.length + pre.length) (st ++ pre.map (·.2)) (by simp [Act.eval]) hrowh.out ⟨W.heap.size, 0, none⟩ 1 1 [.iface T u] (by simp [Act.eval]) rfl hn5.out (by intro u hu; rw [List.mem_singleton.1 hu]; rfl) (by decide) (by omega) (by omega) (by simp; omega) (W.heap.size + 1) (by simp) ?_
              intro g' c' w7 hO7 hg7 hat7 hlt7
              have q7 := hg7.cell (a := ⟨bq, 0, none⟩) (cell_al qd) (by show some bq ≠ some g1; simp; exact hqg.out)
              have o7 := hg7.cell (a := ⟨p, 2, none⟩) (cell_al o3) (by show some p ≠ some g1; simp; exact hpg.out)
              have f7 := fr_al hg7 (p := ⟨p, 2, none⟩) (cell_al o3) (by show some p ≠ some g1; simp; exact hpg.out) (fr_new o3 o3f)
              refine hK _ _ ?_
              clear hK K
              refine wpAny_take (i := 8) (v := ?_) rfl (by kernel_rfl) (by kernel_rfl) (by kernel_rfl) (fun _ _ _ h => h) (Or.inl ⟨by rfl, ?_⟩) ?_
              rotate_left
              · intro w
                go_simp
                try with_reducible rfl
              refine wpAny_take (i := 9) (v := ?_) rfl (by kernel_rfl) (by kernel_rfl) (by kernel_rfl) (fun _ _ _ h => h) (Or.inl ⟨by rfl, ?_⟩) ?_
              rotate_left
              · intro w
                go_simp
                try with_reducible rfl
              refine wpAny_ready (rs := [10]) (by kernel_rfl) (by simp) ?_
              refine AllReady.cons rfl (fun K hK => ?_) ?_
              · go_simp
                refine hK _ _ ?_
                clear hK K
                refine wpAny_done (by kernel_rfl) ?_ _
                exact hfin.out _ _ _ hO7 hg7 hat7
              exact AllReady.nil
            exact AllReady.nil
          refine AllReady.cons rfl (fun K hK => ?_) ?_
          · refine step_append_lies _ rfl (.tmp 73) (.tmp 75) 48 rfl base 20 i0 _ 1 16 Try.underlying48 hi0 hz0 hz1 hz2 (by rfl) (by decide) (.slice (some ⟨g1, 0, none⟩) (st.length + pre.length) c1) (st.length + pre.length) (st ++ pre.map (·.2)) (by simp [Act.eval]) hrowh.out ⟨W.heap.size, 0, none⟩ 1 1 [.iface T u] (by simp [Act.eval]) rfl hn5.out (by intro u hu; rw [List.mem_singleton.1 hu]; rfl) (by decide) (by omega) (by omega) (by simp; omega) (W.heap.size + 1) (by simp) ?_
            intro g' c' w7 hO7 hg7 hat7 hlt7
            have q7 := hg7.cell (a := ⟨bq, 0, none⟩) (cell_al qd) (by show some bq ≠ some g1; simp; exact hqg.out)
            have o7 := hg7.cell (a := ⟨p, 2, none⟩) (cell_al o3) (by show some p ≠ some g1; simp; exact hpg.out)
            have f7 := fr_al hg7 (p := ⟨p, 2, none⟩) (cell_al o3) (by show some p ≠ some g1; simp; exact hpg.out) (fr_new o3 o3f)
            refine hK _ _ ?_
            clear hK K
            refine wpAny_ready (rs := [0]) (by kernel_rfl) (by simp) ?_
            refine AllReady.cons rfl (fun K hK => ?_) ?_
            · go_simp
              refine hK _ _ ?_
              clear hK K
              refine wpAny_take (i := 8) (v := ?_) rfl (by kernel_rfl) (by kernel_rfl) (by kernel_rfl) (fun _ _ _ h => h) (Or.inl ⟨by rfl, ?_⟩) ?_
              rotate_left
              · intro w
                go_simp
                try with_reducible rfl
              refine wpAny_take (i := 9) (v := ?_) rfl (by kernel_rfl) (by kernel_rfl) (by kernel_rfl) (fun _ _ _ h => h) (Or.inl ⟨by rfl, ?_⟩) ?_
              rotate_left
              · intro w
                go_simp
                try with_reducible rfl
              refine wpAny_ready (rs := [10]) (by kernel_rfl) (by simp) ?_
              refine AllReady.cons rfl (fun K hK => ?_) ?_
              · go_simp
                refine hK _ _ ?_
                clear hK K
                refine wpAny_done (by kernel_rfl) ?_ _
                exact hfin.out _ _ _ hO7 hg7 hat7
              exact AllReady.nil
            exact AllReady.nil
          exact AllReady.nil
        exact AllReady.nil
      exact AllReady.nil
    refine AllReady.cons rfl (fun K hK => ?_) ?_
    · go_simp
      refine hK _ _ ?_
      clear hK K
      refine wpAny_ready (rs := [0, 1]) (by kernel_rfl) (by simp) ?_
      refine AllReady.cons rfl (fun K hK => ?_) ?_
      · go_simp
        refine hK _ _ ?_
        clear hK K
        refine wpAny_ready (rs := [1]) (by kernel_rfl) (by simp) ?_
        refine AllReady.cons rfl (fun K hK => ?_) ?_
        · go_simp
          refine hK _ _ ?_
          clear hK K
          refine wpAny_take (i := 2) (v := ?_) rfl (by kernel_rfl) (by kernel_rfl) (by kernel_rfl) (fun _ _ _ h => h) (Or.inl ⟨by rfl, ?_⟩) ?_
          rotate_left
          · intro w
            go_simp
            try with_reducible rfl
          refine wpAny_take (i := 3) (v := ?_) rfl (by kernel_rfl) (by kernel_rfl) (by kernel_rfl) (fun _ _ _ h => h) (Or.inl ⟨by rfl, ?_⟩) ?_
          rotate_left
          · intro w
            go_simp
            try with_reducible rfl
          refine wpAny_ready (rs := [4]) (by kernel_rfl) (by simp) ?_
          refine AllReady.cons rfl (fun K hK => ?_) ?_
          · go_simp
            refine hK _ _ ?_
            clear hK K
            refine wpAny_ready (rs := [7]) (by kernel_rfl) (by simp) ?_
            refine AllReady.cons rfl (fun K hK => ?_) ?_
            · refine step_append_lies _ rfl (.tmp 73) (.tmp 75) 48 rfl base 20 i0 _ 1 16 Try.underlying48 hi0 hz0 hz1 hz2 (by rfl) (by decide) (.slice (some ⟨g1, 0, none⟩) (st.length + pre.length) c1) (st.length + pre.length) (st ++ pre.map (·.2)) (by simp [Act.eval]) hrowh.out ⟨W.heap.size, 0, none⟩ 1 1 [.iface T u] (by simp [Act.eval]) rfl hn5.out (by intro u hu; rw [List.mem_singleton.1 hu]; rfl) (by decide) (by omega) (by omega) (by simp; omega) (W.heap.size + 1) (by simp) ?_
              intro g' c' w7 hO7 hg7 hat7 hlt7
              have q7 := hg7.cell (a := ⟨bq, 0, none⟩) (cell_al qd) (by show some bq ≠ some g1; simp; exact hqg.out)
              have o7 := hg7.cell (a := ⟨p, 2, none⟩) (cell_al o3) (by show some p ≠ some g1; simp; exact hpg.out)
              have f7 := fr_al hg7 (p := ⟨p, 2, none⟩) (cell_al o3) (by show some p ≠ some g1; simp; exact hpg.out) (fr_new o3 o3f)
              refine hK _ _ ?_
              clear hK K
              refine wpAny_take (i := 8) (v := ?_) rfl (by kernel_rfl) (by kernel_rfl) (by kernel_rfl) (fun _ _ _ h => h) (Or.inl ⟨by rfl, ?_⟩) ?_
              rotate_left
              · intro w
                go_simp
                try with_reducible rfl
              refine wpAny_take (i := 9) (v := ?_) rfl (by kernel_rfl) (by kernel_rfl) (by kernel_rfl) (fun _ _ _ h => h) (Or.inl ⟨by rfl, ?_⟩) ?_
              rotate_left
              · intro w
                go_simp
                try with_reducible rfl
              refine wpAny_ready (rs := [10]) (by kernel_rfl) (by simp) ?_
              refine AllReady.cons rfl (fun K hK => ?_) ?_
              · go_simp
                refine hK _ _ ?_
                clear hK K
                refine wpAny_done (by kernel_rfl) ?_ _
                exact hfin.out _ _ _ hO7 hg7 hat7
              exact AllReady.nil
            exact AllReady.nil
          exact AllReady.nil
        exact AllReady.nil
      refine AllReady.cons rfl (fun K hK => ?_) ?_
      · go_simp
        refine hK _ _ ?_
        clear hK K
        refine wpAny_take (i := 2) (v := ?_) rfl (by kernel_rfl) (by kernel_rfl) (by kernel_rfl) (fun _ _ _ h => h) (Or.inl ⟨by rfl, ?_⟩) ?_
        rotate_left
        · intro w
          go_simp
          try with_reducible rfl
        refine wpAny_take (i := 3) (v := ?_) rfl (by kernel_rfl) (by kernel_rfl) (by kernel_rfl) (fun _ _ _ h => h) (Or.inl ⟨by rfl, ?_⟩) ?_
        rotate_left
        · intro w
          go_simp
          try with_reducible rfl
        refine wpAny_ready (rs := [0, 4]) (by kernel_rfl) (by simp) ?_
        refine AllReady.cons rfl (fun K hK => ?_) ?_
        · go_simp
          refine hK _ _ ?_
          clear hK K
          refine wpAny_ready (rs := [4]) (by kernel_rfl) (by simp) ?_
          refine AllReady.cons rfl (fun K hK => ?_) ?_
          · go_simp
            refine hK _ _ ?_
            clear hK K
            refine wpAny_ready (rs := [7]) (by kernel_rfl) (by simp) ?_
            refine AllReady.cons rfl (fun K hK => ?_) ?_
            · refine step_append_lies _ rfl (.tmp 73) (.tmp 75) 48 rfl base 20 i0 _ 1 16 Try.underlying48 hi0 hz0 hz1 hz2 (by rfl) (by decide) (.slice (some ⟨g1, 0, none⟩) (st.length + pre.length) c1) (st.length + pre.length) (st ++ pre.map (·.2)) (by simp [Act.eval]) hrowh.out ⟨W.heap.size, 0, none⟩ 1 1 [.iface T u] (by simp [Act.eval]) rfl hn5.out (by intro u hu; rw [List.mem_singleton.1 hu]; rfl) (by decide) (by omega) (by omega) (by simp; omega) (W.heap.size + 1) (by simp) ?_
              intro g' c' w7 hO7 hg7 hat7 hlt7
              have q7 := hg7.cell (a := ⟨bq, 0, none⟩) (cell_al qd) (by show some bq ≠ some g1; simp; exact hqg.out)
              have o7 := hg7.cell (a := ⟨p, 2, none⟩) (cell_al o3) (by show some p ≠ some g1; simp; exact hpg.out)
              have f7 := fr_al hg7 (p := ⟨p, 2, none⟩) (cell_al o3) (by show some p ≠ some g1; simp; exact hpg.out) (fr_new o3 o3f)
              refine hK _ _ ?_
              clear hK K
              refine wpAny_take (i := 8) (v := ?_) rfl (by kernel_rfl) (by kernel_rfl) (by kernel_rfl) (fun _ _ _ h => h) (Or.inl ⟨by rfl, ?_⟩) ?_
              rotate_left
              · intro w
                go_simp
                try with_reducible rfl
              refine wpAny_take (i := 9) (v := ?_) rfl (by kernel_rfl) (by kernel_rfl) (by kernel_rfl) (fun _ _ _ h => h) (Or.inl ⟨by rfl, ?_⟩) ?_
              rotate_left
              · intro w
                go_simp
                try with_reducible rfl
              refine wpAny_ready (rs := [10]) (by kernel_rfl) (by simp) ?_
              refine AllReady.cons rfl (fun K hK => ?_) ?_
              · go_simp
                refine hK _ _ ?_
                clear hK K
                refine wpAny_done (by kernel_rfl) ?_ _
                exact hfin.out _ _ _ hO7 hg7 hat7
              exact AllReady.nil
            exact AllReady.nil
          exact AllReady.nil
        refine AllReady.cons rfl (fun K hK => ?_) ?_
        · go_simp
          refine hK _ _ ?_
          clear hK K
          refine wpAny_ready (rs := [0, 7]) (by kernel_rfl) (by simp) ?_
          refine AllReady.cons rfl (fun K hK => ?_) ?_
          · go_simp
            refine hK _ _ ?_
            clear hK K
            refine wpAny_ready (rs := [7]) (by kernel_rfl) (by simp) ?_
            refine AllReady.cons rfl (fun K hK => ?_) ?_
            · refine step_append_lies _ rfl (.tmp 73) (.tmp 75) 48 rfl base 20 i0 _ 1 16 Try.underlying48 hi0 hz0 hz1 hz2 (by rfl) (by decide) (.slice (some ⟨g1, 0, none⟩) (st.length + pre.length) c1) (st.length + pre.length) (st ++ pre.map (·.2)) (by simp [Act.eval]) hrowh.out ⟨W.heap.size, 0, none⟩ 1 1 [.iface T u] (by simp [Act.eval]) rfl hn5.out (by intro u hu; rw [List.mem_singleton.1 hu]; rfl) (by decide) (by omega) (by omega) (by simp; omega) (W.heap.size + 1) (by simp) ?_
              intro g' c' w7 hO7 hg7 hat7 hlt7
              have q7 := hg7.cell (a := ⟨bq, 0, none⟩) (cell_al qd) (by show some bq ≠ some g1; simp; exact hqg.out)
              have o7 := hg7.cell (a := ⟨p, 2, none⟩) (cell_al o3) (by show some p ≠ some g1; simp; exact hpg.out)
              have f7 := fr_al hg7 (p := ⟨p, 2, none⟩) (cell_al o3) (by show some p ≠ some g1; simp; exact hpg.out) (fr_new o3 o3f)
              refine hK _ _ ?_
              clear hK K
              refine wpAny_take (i := 8) (v := ?_) rfl (by kernel_rfl) (by kernel_rfl) (by kernel_rfl) (fun _ _ _ h => h) (Or.inl ⟨by rfl, ?_⟩) ?_
              rotate_left
              · intro w
                go_simp
                try with_reducible rfl
              refine wpAny_take (i := 9) (v := ?_) rfl (by kernel_rfl) (by kernel_rfl) (by kernel_rfl) (fun _ _ _ h => h) (Or.inl ⟨by rfl, ?_⟩) ?_
              rotate_left
              · intro w
                go_simp
                try with_reducible rfl
              refine wpAny_ready (rs := [10]) (by kernel_rfl) (by simp) ?_
              refine AllReady.cons rfl (fun K hK => ?_) ?_
              · go_simp
                refine hK _ _ ?_
                clear hK K
                refine wpAny_done (by kernel_rfl) ?_ _
                exact hfin.out _ _ _ hO7 hg7 hat7
              exact AllReady.nil
            exact AllReady.nil
          refine AllReady.cons rfl (fun K hK => ?_) ?_
          · refine step_append_lies _ rfl (.tmp 73) (.tmp 75) 48 rfl base 20 i0 _ 1 16 Try.underlying48 hi0 hz0 hz1 hz2 (by rfl) (by decide) (.slice (some ⟨g1, 0, none⟩) (st.length + pre.length) c1) (st.length + pre.length) (st ++ pre.map (·.2)) (by simp [Act.eval]) hrowh.out ⟨W.heap.size, 0, none⟩ 1 1 [.iface T u] (by simp [Act.eval]) rfl hn5.out (by intro u hu; rw [List.mem_singleton.1 hu]; rfl) (by decide) (by omega) (by omega) (by simp; omega) (W.heap.size + 1) (by simp) ?_
            intro g' c' w7 hO7 hg7 hat7 hlt7
            have q7 := hg7.cell (a := ⟨bq, 0, none⟩) (cell_al qd) (by show some bq ≠ some g1; simp; exact hqg.out)
            have o7 := hg7.cell (a := ⟨p, 2, none⟩) (cell_al o3) (by show some p ≠ some g1; simp; exact hpg.out)
            have f7 := fr_al hg7 (p := ⟨p, 2, none⟩) (cell_al o3) (by show some p ≠ some g1; simp; exact hpg.out) (fr_new o3 o3f)
            refine hK _ _ ?_
            clear hK K
            refine wpAny_ready (rs := [0]) (by kernel_rfl) (by simp) ?_
            refine AllReady.cons rfl (fun K hK => ?_) ?_
            · go_simp
              refine hK _ _ ?_
              clear hK K
              refine wpAny_take (i := 8) (v := ?_) rfl (by kernel_rfl) (by kernel_rfl) (by kernel_rfl) (fun _ _ _ h => h) (Or.inl ⟨by rfl, ?_⟩) ?_
              rotate_left
              · intro w
                go_simp
                try with_reducible rfl
              refine wpAny_take (i := 9) (v := ?_) rfl (by kernel_rfl) (by kernel_rfl) (by kernel_rfl) (fun _ _ _ h => h) (Or.inl ⟨by rfl, ?_⟩) ?_
              rotate_left
              · intro w
                go_simp
                try with_reducible rfl
              refine wpAny_ready (rs := [10]) (by kernel_rfl) (by simp) ?_
              refine AllReady.cons rfl (fun K hK => ?_) ?_
              · go_simp
                refine hK _ _ ?_
                clear hK K
                refine wpAny_done (by kernel_rfl) ?_ _
                exact hfin.out _ _ _ hO7 hg7 hat7
              exact AllReady.nil
            exact AllReady.nil
          exact AllReady.nil
        exact AllReady.nil
      exact AllReady.nil
    exact AllReady.nil
  case hdone =>
    rintro xs Wd hxs hI hK hsz
    obtain ⟨g1, c1, hp1, hrow1, hg1⟩ := hI.ex
    have hxl : xs.length = ps.length := by have := congrArg List.length hxs; simpa using this
    have hDp : p ≠ W4.heap.size := by omega
    gi_wp2
    refine ⟨by simp, .inl ⟨_, _, rfl, run_takeDeferred hK, ?_⟩⟩
    refine ⟨_, results_none rfl _ _ _, ⟨_, rfl⟩, ⟨g1, c1, ⟨⟨addr, bv, ind, ?_, ha4, ?_⟩, ?_, hpB⟩⟩, ?_⟩
    · rw [List.length_append, List.length_reverse, ← hxl]
      exact (World.putObj_heap_other hDp).trans hp1
    · refine own_keep hbv4 fun k e => ?_
      obtain ⟨k1, k2, k3⟩ := hbv5 k e
      exact (World.putObj_heap_other (by omega)).trans (hI.r.block k k3 (nC k k1 k2))
    · rw [List.length_append, List.length_reverse, ← hxl, ← hxs]
      exact ownsRow_putObj hrow1 _ hK rfl
    · have hr := hI.r
      have hs := hB4.size
      have hgo := (h4.row.lt go rfl).1
      refine ⟨hr.os.trans hB4.os, hr.tape.trans hB4.tape, hr.output.trans hB4.output, by have := hr.size; simp; omega, fun b hb => ?_⟩
      exact (World.putObj_heap_other (by omega)).trans ((hr.block b (by omega) (nC b (by omega) (by omega))).trans (hB4.block b hb))
end Go.Proofs.Ytbfklindcmmncaa
