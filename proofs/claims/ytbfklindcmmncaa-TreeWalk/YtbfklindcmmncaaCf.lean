/- Print: one step of the printer, at a node. -/
import Derived.Test.YtbfklindcmmncaaCe
namespace Go.Proofs.Ytbfklindcmmncaa
open Go.RowKit Go.Shelf
attribute [local go_sem ↓] Go.wp_at_zero Go.wp_at_succ
theorem node_end {p base : Nat} {bs st : List Value} {go co g' c' : Nat} {w W3 w5 w7 : World} {vr : Value} {PS : List Value} {x : Obj} (hB3 : Below base w W3) (hb5 : Below W3.heap.size W3 w5) (h5 : Prx p base bs st go co (w5.alloc x)) (hvr : w5.ownsRow W3.heap.size 20 1 vr PS.length PS) (hO7 : w7.ownsRow base 20 1 (.slice (some ⟨g', 0, none⟩) (st.length + 1) c') (st.length + 1) (st ++ [.iface 48 vr])) (hg7 : (w5.alloc x).grownBy w7 (some go)) (hat7 : some go = some g' ∨ g' = w5.heap.size + 1) (hgw : go < w.heap.size) (_hB : base ≤ w.heap.size) :
    (∃ vr go' co', Prx p base bs (st ++ [.iface 48 vr]) go' co' (w7.setCell ⟨p, 2, none⟩ (.slice (some ⟨g', 0, none⟩) (st.length + 1) c')) ∧ (w7.setCell ⟨p, 2, none⟩ (.slice (some ⟨g', 0, none⟩) (st.length + 1) c')).ownsRow base 20 1 vr PS.length PS ∧ vr.ownBlock ≠ some go') ∧ Below base w (w7.setCell ⟨p, 2, none⟩ (.slice (some ⟨g', 0, none⟩) (st.length + 1) c')) := by
  obtain ⟨hP, c2, cf⟩ := h5.push hO7 hg7
  have hs3 := hB3.size
  have hsz := hb5.size
  have hsa : (w5.alloc x).heap.size = w5.heap.size + 1 := by simp
  have hgB := (h5.row.lt go rfl).1
  have hne : ∀ g, vr.ownBlock = some g → g ≠ go ∧ g ≠ g' ∧ g < w5.heap.size ∧ W3.heap.size ≤ g := fun g e => by
    have := hvr.lt g e
    refine ⟨by omega, ?_, this.2, this.1⟩
    rcases hat7 with h | h
    · cases h; omega
    · omega
  have hvr7 : w7.ownsRow base 20 1 vr PS.length PS := by
    have := own_keep (w' := w7) hvr fun g e => (hg7.block g (by have := (hne g e).2.2.1; omega) (by have := (hne g e).1; simpa using this)).trans (Below.heap_alloc _ _ _ (hne g e).2.2.1)
    obtain ⟨h1, h2 | ⟨g, c, cur, rfl, h3, h4⟩⟩ := this
    · exact ⟨h1, .inl h2⟩
    · exact ⟨h1, .inr ⟨g, c, cur, rfl, by have := hB3.size; omega, h4⟩⟩
  obtain ⟨addr, bv, ind, hp, _, _⟩ := h5.ex
  have hp7 : w7.heap[p]? = _ := (hg7.block p (Array.getElem?_eq_some_iff.1 hp).1 (fun e => own_ne h5.row hp (by decide) e.symm)).trans hp
  refine ⟨⟨vr, g', c', hP, own_set hvr7 hp7 (by decide), fun e => (hne g' e).2.1 rfl⟩, ?_⟩
  have hb7 : Below base w w7 := ((hB3.trans (hb5.mono (by omega))).alloc (by omega) x).grown hg7 (by omega) (fun k e => by cases e; exact hgB)
  exact hb7.setCell (p := ⟨p, 2, none⟩) h5.pB _
set_option maxRecDepth 20000 in
set_option maxHeartbeats 40000000 in
theorem step_node (p base : Nat) (bs st : List Value) (v : NC) (ns : List NC) (go co : Nat) (w : World) (h : Prx p base bs (st ++ [.iface 24 (.agg #[.int .i64 v.k, .int .i64 v.a, .string v.s, .slice v.x v.l v.c])]) go co w) (hl : v.l = ns.length) (hlm : ns.length ≤ 1000) (hR : RowAt w v.x ns) (hrb : ∀ ad, v.x = some ad → ns ≠ [] → ad.block < base) (hk : v.k = 1 ∨ v.k = 8 ∨ v.k = 6) (hst : st.length ≤ 1000) (hB : base ≤ w.heap.size) :
    Calls Try.prog 21 #[.pointer (some ⟨p, 0, none⟩)] w fun e w' => (∃ u, e = .returned u) ∧ (∃ vr go' co', Prx p base bs (st ++ [.iface 48 vr]) go' co' w' ∧ w'.ownsRow base 20 1 vr (partsOf v ns).length (partsOf v ns) ∧ vr.ownBlock ≠ some go') ∧ Below base w w' := by
  obtain ⟨W, hW⟩ : ∃ W, W = w.alloc (.cells #[.pointer (some ⟨p, 0, none⟩)] 58) := ⟨_, rfl⟩
  have hbW : Below w.heap.size w W := by rw [hW]; exact (Below.refl _ _).alloc (Nat.le_refl _) _
  have hsWe : W.heap.size = w.heap.size + 1 := by rw [hW]; simp
  have hbx : Boxed W w.heap.size 58 (.pointer (some ⟨p, 0, none⟩)) := by rw [hW]; exact Boxed.new _ _ _
  obtain ⟨hp2, hcap, hcm, hcl, hc2, hf2, hgl, hpl, hbg⟩ := (h.next hbW).pop
  have hpw : p < w.heap.size := by obtain ⟨addr, bv, ind, h1, _⟩ := h.ex; exact (Array.getElem?_eq_some_iff.1 h1).1
  have hqc := hbx.cell
  have hgw : go < w.heap.size := (h.row.lt go rfl).2
  have hm : maxLen ≤ 9223372036854775807 := by decide
  have hmx : 2000 ≤ maxLen := by decide
  have hw1 : IntKind.i64.wrap (((st.length + 1 : Nat) : Int) - 1) = (st.length : Int) := by rw [IntKind.wrap_i64]; omega
  have hw1' : IntKind.i64.wrap ((st.length : Int) + 1 - 1) = (st.length : Int) := by rw [IntKind.wrap_i64]; omega
  have i1 : (st.length : Int) < (st.length : Int) + 1 := by omega
  have mixed : Try.prog.follows .mixedOrders = true := by kernel_rfl
  have ta1 := ta_node1
  have ta2 := ta_node2
  have ta3 := ta_node3
  have hdr : Prx p base bs st go co (W.setCell ⟨p, 2, none⟩ (.slice (some ⟨go, 0, none⟩) st.length co)).drew := ⟨hp2.ex, hp2.row, hp2.pB⟩
  have hsW := hbW.size
  have hBd : Below base w (W.setCell ⟨p, 2, none⟩ (.slice (some ⟨go, 0, none⟩) st.length co)).drew := ((hbW.mono hB).setCell (p := ⟨p, 2, none⟩) h.pB _).drew
  have hqd : (W.setCell ⟨p, 2, none⟩ (.slice (some ⟨go, 0, none⟩) st.length co)).drew.cell? ⟨w.heap.size, 0, none⟩ = some (.pointer (some ⟨p, 0, none⟩)) := (World.cell?_setCell_far _ _ _ _ (by show p ≠ w.heap.size; omega)).trans hqc
  have hsd : (W.setCell ⟨p, 2, none⟩ (.slice (some ⟨go, 0, none⟩) st.length co)).drew.heap.size = w.heap.size + 1 := by show (W.setCell _ _).heap.size = _; simp [hsWe]
  obtain ⟨PS, hPS⟩ : ∃ PS, PS = partsOf v ns := ⟨_, rfl⟩
  rw [← hPS]
  have hlh : Hid (v.l = ns.length) := hl
  clear hp2 hl hsWe
  go_enter Try.func21, Try.ntmps21
  go_upto_region 1 with fail
  rw [← hW]
  clear hW
  go_wp2
  go_region
  generalize (W.setCell ⟨p, 2, none⟩ (.slice (some ⟨go, 0, none⟩) st.length co)).drew = W2 at *
  clear hc2 hf2 hqc hcl hbx hbW
  obtain ⟨W3, hW3⟩ : ∃ W3, W3 = W2.alloc (.cells #[.int .i64 v.k, .int .i64 v.a, .string v.s, .slice v.x v.l v.c] 24) := ⟨_, rfl⟩
  have hb3 : Below W2.heap.size W2 W3 := by rw [hW3]; exact (Below.refl _ _).alloc (Nat.le_refl _) _
  have hs3 : W3.heap.size = w.heap.size + 1 + 1 := by rw [hW3]; simp [hsd]
  have hB3 : Below base w W3 := hBd.trans (hb3.mono (by omega))
  have h3 := hdr.next hb3
  obtain ⟨n0, n1, n2, n3, _⟩ := BoxN.cells (w := W3) (b := w.heap.size + 1) (n := v) (by rw [hW3, ← hsd]; exact new_at _ _)
  have q3 := keep_cell hb3 hqd
  obtain ⟨o3, o3f⟩ : W3.cell? ⟨p, 2, none⟩ = some (.slice (some ⟨go, 0, none⟩) st.length co) ∧ W3.frozen? ⟨p, 2, none⟩ = false := by
    obtain ⟨addr, bv, ind, h1, _, _⟩ := h3.ex
    exact ⟨(cells4 h1).2.2.1, (cells4 h1).2.2.2.2.1 2⟩
  have hRd : RowAt W3.drew v.x ns := hR.same fun ad e hn => hB3.block _ (hrb ad e hn)
  have kE : Hid (Calls Try.prog 28 #[.agg #[.int .i64 v.k, .int .i64 v.a, .string v.s, .slice v.x v.l v.c]] W3.drew _) := expression_any W3.drew v ns hlh.out hlm hRd hk
  rw [← hPS] at kE
  have hsdh : Hid (W2.heap.size = w.heap.size + 1) := hsd
  go_upto_region 13 with fail
  rw [← hW3]
  obtain ⟨i0, hi0, hz0, hz1, hz2⟩ := info_parts info20
  have hgs : go < W3.heap.size := (h3.row.lt go rfl).2
  have hps : p < W3.heap.size := cell_block o3
  have hbg3 := (h3.row.lt go rfl).1
  have hpgo : Hid (p ≠ go) := fun e => by
    obtain ⟨addr, bv, ind, h1, _, _⟩ := h3.ex
    exact own_ne h3.row h1 (by decide) (by rw [e]; rfl)
  have hqgo : Hid (w.heap.size ≠ go) := fun e => by
    omega
  have h3h : Hid (Prx p base bs st go co W3) := h3
  have hs3h : Hid (W3.heap.size = w.heap.size + 1 + 1) := hs3
  have hws : w.heap.size < W3.heap.size := by omega
  have hws1 : w.heap.size + 1 < W3.heap.size := by omega
  clear hW3 h3 hs3 hsd hdr hb3 hRd hR
  go_region_law (first
    | ((first | rw [if_pos (by simp [Region.wanted])] | skip); unfold Oper.wp; go_simp; go_at_call 28; (refine Calls.mono kE.out ?_; rintro e w5 ⟨vr, rfl, hvr, hb5⟩; clear kE; obtain ⟨ao, n5, c5, rfl⟩ := own_form hvr; have hb5' : Below W3.heap.size W3 w5 := ((Below.refl W3.heap.size W3).drew).trans hb5; have z5 : W3.heap.size ≤ w5.heap.size := hb5'.size; have n5' : w.heap.size < w5.heap.size := Nat.lt_of_lt_of_le hws z5; have p5' : p < w5.heap.size := Nat.lt_of_lt_of_le hps z5; replace q3 := keep_cell hb5' q3; replace o3f := (hb5'.frozen (p := ⟨p, 2, none⟩) hps).trans o3f; replace o3 := keep_cell hb5' o3; replace n0 := keep_cell hb5' n0; replace n1 := keep_cell hb5' n1; replace n2 := keep_cell hb5' n2; replace n3 := keep_cell hb5' n3; have h5 := h3h.out.next hb5'; have h5a := h5.next ((Below.refl w5.heap.size w5).alloc (Nat.le_refl _) (.cells #[.iface 48 (.slice ao n5 c5)] 20)); have h5h : Hid _ := h5a; have hn5 : Hid _ := World.news_of_block (new_at w5 (.cells #[.iface 48 (.slice ao n5 c5)] 20)); have hvrh : Hid _ := hvr; clear hvr h5 h5a))
    | (refine step_append_lies _ rfl (.tmp 54) (.tmp 58) 48 rfl base 20 i0 _ 1 16 Try.underlying48 hi0 hz0 hz1 hz2 (by rfl) (by decide) (.slice (some ⟨go, 0, none⟩) st.length co) st.length st (by simp [Act.eval]) h5h.out.row ⟨w5.heap.size, 0, none⟩ 1 1 [.iface 48 (.slice ao n5 c5)] (by simp [Act.eval]) rfl hn5.out (by intro u hu; rw [List.mem_singleton.1 hu]; rfl) (by decide) (by omega) (by omega) (by simp; omega) (w5.heap.size + 1) (by simp) ?_; intro g' c' w7 hO7 hg7 hat7 hlt7; have q7 := hg7.cell (a := ⟨w.heap.size, 0, none⟩) (cell_al q3) (by show some w.heap.size ≠ some go; simp; exact hqgo.out); have o7 := hg7.cell (a := ⟨p, 2, none⟩) (cell_al o3) (by show some p ≠ some go; simp; exact hpgo.out); have f7 := fr_al hg7 (p := ⟨p, 2, none⟩) (cell_al o3) (by show some p ≠ some go; simp; exact hpgo.out) (fr_new o3 o3f)))
  all_goals
    have hO7h : Hid _ := hO7
    have hg7h : Hid _ := hg7
    have hfin : Hid ((∃ vr go' co', Prx p base bs (st ++ [.iface 48 vr]) go' co' (w7.setCell ⟨p, 2, none⟩ (.slice (some ⟨g', 0, none⟩) (st.length + 1) c')) ∧ (w7.setCell ⟨p, 2, none⟩ (.slice (some ⟨g', 0, none⟩) (st.length + 1) c')).ownsRow base 20 1 vr PS.length PS ∧ vr.ownBlock ≠ some go') ∧ Below base w (w7.setCell ⟨p, 2, none⟩ (.slice (some ⟨g', 0, none⟩) (st.length + 1) c'))) := node_end hB3 hb5' h5h.out hvrh.out hO7 hg7 hat7 hgw hB
    clear hO7h hg7h hO7 hg7 hvrh h5h hn5
    go_wp2
    go_end0
    exact ⟨⟨_, rfl⟩, hfin.out⟩
end Go.Proofs.Ytbfklindcmmncaa
