/- Print: one step of the printer. -/
import Derived.Test.YtbfklindcmmncaaCc
import Derived.Test.YtbfklindcmmncaaCd
namespace Go.Proofs.Ytbfklindcmmncaa
open Go.RowKit Go.Shelf
attribute [local go_sem ↓] Go.wp_at_zero Go.wp_at_succ
/-- A printer whose row of what is to come is known. -/
structure Prx (p base : Nat) (bs st : List Value) (go co : Nat) (W : World) : Prop where
  ex : ∃ addr bv ind, W.heap[p]? = some (.cells #[addr, bv, .slice (some ⟨go, 0, none⟩) st.length co, .int .i64 ind] 54 (0, 0)) ∧ (addr = .pointer none ∨ addr = .pointer (some ⟨p, 0, none⟩)) ∧ W.ownsRow base 5 1 bv bs.length bs
  row : W.ownsRow base 20 1 (.slice (some ⟨go, 0, none⟩) st.length co) st.length st
  pB : base ≤ p
theorem Prx.pr {p base : Nat} {bs st : List Value} {go co : Nat} {W : World} (h : Prx p base bs st go co W) : Pr p base bs st W := by
  obtain ⟨addr, bv, ind, h1, h2, h3⟩ := h.ex
  exact ⟨⟨addr, bv, _, ind, h1, h2, h3, h.row⟩, h.pB⟩
theorem Prx.next {p base : Nat} {bs st : List Value} {go co : Nat} {W W' : World} (h : Prx p base bs st go co W) (hb : Below W.heap.size W W') : Prx p base bs st go co W' := by
  obtain ⟨addr, bv, ind, h1, h2, h3⟩ := h.ex
  exact ⟨⟨addr, bv, ind, (hb.block p (Array.getElem?_eq_some_iff.1 h1).1).trans h1, h2, own_keep h3 fun g e => hb.block g (h3.lt g e).2⟩, own_keep h.row fun g e => hb.block g (h.row.lt g e).2, h.pB⟩
theorem own20_take {w : World} {base g N c : Nat} {vs : List Value} {v : Value} (h : w.ownsRow base 20 1 (.slice (some ⟨g, 0, none⟩) (N + 1) c) (N + 1) (vs ++ [v])) (hN : N = vs.length) : w.ownsRow base 20 1 (.slice (some ⟨g, 0, none⟩) N c) N vs ∧ N + 1 ≤ c ∧ c ≤ maxLen ∧ w.cell? ⟨g, N, none⟩ = some v := by
  have hce := h.cellAt N (by omega)
  obtain ⟨_, h2⟩ := h
  rcases h2 with ⟨h2, _⟩ | ⟨g', cap, cur, h2, h3, h4, h5, h6, h7, h8⟩
  · cases h2
  · cases h2
    refine ⟨⟨by rw [hN]; omega, .inr ⟨g, c, cur, rfl, h3, h4, by omega, h6, h7, ?_⟩⟩, h5, h6, ?_⟩
    · have := congrArg (List.take (N * 1)) h8
      rw [List.take_take, Nat.min_eq_left (by omega), List.take_append_of_le_length (by omega)] at this
      rw [this]
      exact List.take_of_length_le (by omega)
    · rw [hce, hN, List.getElem?_append_right (Nat.le_refl _), Nat.sub_self]; rfl
/-- The last part is taken off. -/
theorem Prx.pop {p base : Nat} {bs st : List Value} {x : Value} {go co : Nat} {W : World} (h : Prx p base bs (st ++ [x]) go co W) : Prx p base bs st go co (W.setCell ⟨p, 2, none⟩ (.slice (some ⟨go, 0, none⟩) st.length co)) ∧ st.length + 1 ≤ co ∧ co ≤ maxLen ∧ W.cell? ⟨go, st.length, none⟩ = some x ∧ W.cell? ⟨p, 2, none⟩ = some (.slice (some ⟨go, 0, none⟩) (st.length + 1) co) ∧ W.frozen? ⟨p, 2, none⟩ = false ∧ go < W.heap.size ∧ p < W.heap.size ∧ base ≤ go := by
  obtain ⟨addr, bv, ind, h1, h2, h3⟩ := h.ex
  have hr := h.row
  rw [List.length_append] at h1 hr
  obtain ⟨t1, t2, t3, t4⟩ := own20_take hr rfl
  obtain ⟨_, _, c2, _, cf, _⟩ := cells4 h1
  exact ⟨⟨⟨addr, bv, ind, (put4 h1 _).2.2, h2, own_set h3 h1 (by decide)⟩, own_set t1 h1 (by decide), h.pB⟩, t2, t3, t4, c2, cf 2, (hr.lt go rfl).2, (Array.getElem?_eq_some_iff.1 h1).1, (hr.lt go rfl).1⟩
theorem ta_str (s : ByteArray) (w : World) : Sem.run Try.prog (Instr.typeAssert (.iface 9 (.string s)) 20 9 true) w = .ok (.tuple #[.string s, .bool true]) w := by kernel_rfl
theorem ta_node1 (v : Value) (w : World) : Sem.run Try.prog (Instr.typeAssert (.iface 24 v) 20 9 true) w = .ok (.tuple #[.string ⟨#[]⟩, .bool false]) w := by kernel_rfl
theorem ta_node2 (v : Value) (w : World) : Sem.run Try.prog (Instr.typeAssert (.iface 24 v) 20 63 true) w = .ok (.tuple #[.int .i64 0, .bool false]) w := by kernel_rfl
theorem ta_node3 (v : Value) (w : World) : Sem.run Try.prog (Instr.typeAssert (.iface 24 v) 20 24 true) w = .ok (.tuple #[v, .bool true]) w := by kernel_rfl
theorem ta_part1 (v : Value) (w : World) : Sem.run Try.prog (Instr.typeAssert (.iface 48 v) 20 9 true) w = .ok (.tuple #[.string ⟨#[]⟩, .bool false]) w := by kernel_rfl
theorem ta_part2 (v : Value) (w : World) : Sem.run Try.prog (Instr.typeAssert (.iface 48 v) 20 63 true) w = .ok (.tuple #[.int .i64 0, .bool false]) w := by kernel_rfl
theorem ta_part3 (v : Value) (w : World) : Sem.run Try.prog (Instr.typeAssert (.iface 48 v) 20 24 true) w = .ok (.tuple #[.agg #[.int .i64 0, .int .i64 0, .string ⟨#[]⟩, .slice none 0 0], .bool false]) w := by kernel_rfl
theorem ta_part4 (v : Value) (w : World) : Sem.run Try.prog (Instr.typeAssert (.iface 48 v) 20 48 true) w = .ok (.tuple #[v, .bool true]) w := by kernel_rfl
/-- A part is put on. -/
theorem Prx.push {p base : Nat} {bs st : List Value} {x : Value} {go co g' c' : Nat} {X w7 : World} (h : Prx p base bs st go co X) (hO : w7.ownsRow base 20 1 (.slice (some ⟨g', 0, none⟩) (st.length + 1) c') (st.length + 1) (st ++ [x])) (hg : X.grownBy w7 (some go)) :
    Prx p base bs (st ++ [x]) g' c' (w7.setCell ⟨p, 2, none⟩ (.slice (some ⟨g', 0, none⟩) (st.length + 1) c')) ∧ w7.cell? ⟨p, 2, none⟩ = some (.slice (some ⟨go, 0, none⟩) st.length co) ∧ w7.frozen? ⟨p, 2, none⟩ = false := by
  obtain ⟨addr, bv, ind, h1, h2, h3⟩ := h.ex
  have hpl := (Array.getElem?_eq_some_iff.1 h1).1
  have h7 : w7.heap[p]? = _ := (hg.block p hpl (fun e => own_ne h.row h1 (by decide) e.symm)).trans h1
  have hb7 : w7.ownsRow base 5 1 bv bs.length bs := own_keep h3 fun g e => hg.block g (h3.lt g e).2 (fun e' => by
    rcases own_apart h3 h.row (by decide) with h4 | h4
    · rw [h4] at e; cases e
    · exact h4 (e.trans e'))
  obtain ⟨_, _, c2, _, cf, _⟩ := cells4 h7
  exact ⟨⟨⟨addr, bv, ind, by rw [List.length_append]; exact (put4 h7 _).2.2, h2, own_set hb7 h7 (by decide)⟩, by rw [List.length_append]; exact own_set hO h7 (by decide), h.pB⟩, c2, cf 2⟩
set_option maxRecDepth 20000 in
set_option maxHeartbeats 4000000 in
theorem step_str (p base : Nat) (bs st : List Value) (s : ByteArray) (go co : Nat) (w : World) (h : Prx p base bs (st ++ [.iface 9 (.string s)]) go co w) (hlen : bs.length + s.size ≤ 10000) (hst : st.length ≤ 1000) (hB : base ≤ w.heap.size) :
    Calls Try.prog 21 #[.pointer (some ⟨p, 0, none⟩)] w fun e w' => (∃ u, e = .returned u) ∧ Pr p base (bs ++ Lib.strCells s) st w' ∧ Below base w w' := by
  obtain ⟨W, hW⟩ : ∃ W, W = w.alloc (.cells #[.pointer (some ⟨p, 0, none⟩)] 58) := ⟨_, rfl⟩
  have hbW : Below w.heap.size w W := by rw [hW]; exact (Below.refl _ _).alloc (Nat.le_refl _) _
  have hbx : Boxed W w.heap.size 58 (.pointer (some ⟨p, 0, none⟩)) := by rw [hW]; exact Boxed.new _ _ _
  obtain ⟨hp2, hcap, hcm, hcl, hc2, hf2, hgl, hpl, hbg⟩ := (h.next hbW).pop
  have hpw : p < w.heap.size := by obtain ⟨addr, bv, ind, h1, _⟩ := h.ex; exact (Array.getElem?_eq_some_iff.1 h1).1
  have hqc := hbx.cell
  have hm : maxLen ≤ 9223372036854775807 := by decide
  have hw1 : IntKind.i64.wrap (((st.length + 1 : Nat) : Int) - 1) = (st.length : Int) := by rw [IntKind.wrap_i64]; omega
  have hw1' : IntKind.i64.wrap ((st.length : Int) + 1 - 1) = (st.length : Int) := by rw [IntKind.wrap_i64]; omega
  have i1 : (st.length : Int) < (st.length : Int) + 1 := by omega
  have mixed : Try.prog.follows .mixedOrders = true := by kernel_rfl
  have ta1 := ta_str s
  go_enter Try.func21, Try.ntmps21
  go_upto_region 1 with fail
  rw [← hW]
  clear hW
  have hP2 : Hid (Prx p base bs st go co (W.setCell ⟨p, 2, none⟩ (.slice (some ⟨go, 0, none⟩) st.length co))) := hp2
  have hdr : Prx p base bs st go co (W.setCell ⟨p, 2, none⟩ (.slice (some ⟨go, 0, none⟩) st.length co)).drew := ⟨hp2.ex, hp2.row, hp2.pB⟩
  have hsW := hbW.size
  have kW : Hid (Calls Try.prog 26 #[.pointer (some ⟨p, 0, none⟩), .string s] (W.setCell ⟨p, 2, none⟩ (.slice (some ⟨go, 0, none⟩) st.length co)).drew _) := WriteString_any p base bs st s _ hdr.pr hlen (by show base ≤ (W.setCell _ _).heap.size; simp; omega)
  have hBd : Below base w (W.setCell ⟨p, 2, none⟩ (.slice (some ⟨go, 0, none⟩) st.length co)).drew := ((hbW.mono hB).setCell (p := ⟨p, 2, none⟩) h.pB _).drew
  have hqd : (W.setCell ⟨p, 2, none⟩ (.slice (some ⟨go, 0, none⟩) st.length co)).drew.cell? ⟨w.heap.size, 0, none⟩ = some (.pointer (some ⟨p, 0, none⟩)) := (World.cell?_setCell_far _ _ _ _ (by show p ≠ w.heap.size; omega)).trans hqc
  clear hp2 hdr hP2
  go_wp2
  go_region
  generalize (W.setCell ⟨p, 2, none⟩ (.slice (some ⟨go, 0, none⟩) st.length co)).drew = W2 at *
  go_wp2_with (go_at_call 26; refine Calls.mono kW.out ?_; rintro e w3 ⟨⟨u, rfl⟩, hPr, hb3⟩)
  go_end0
  exact ⟨⟨_, rfl⟩, hPr, hBd.trans hb3⟩
end Go.Proofs.Ytbfklindcmmncaa
