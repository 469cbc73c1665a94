/- Print: the builder in a printer. -/
import Derived.Test.YtbfklindcmmncaaCa
namespace Go.Proofs.Ytbfklindcmmncaa
open Go.RowKit Go.Shelf
attribute [local go_sem ↓] Go.wp_at_zero Go.wp_at_succ
theorem size52 : (Try.prog.info? 52).map (·.size) = some 2 := by kernel_rfl
theorem lies54 : liesAt Try.prog Try.prog.depth 54 (4 / Try.prog.cellsOf 54) 0 52 1 = true := by kernel_rfl
theorem info5 : (Try.prog.info? 5).map (fun i => (i.zero, i.size, i.bytes)) = some (some (.int .u8 0), 1, 1) := by kernel_rfl
theorem info20 : (Try.prog.info? 20).map (fun i => (i.zero, i.size, i.bytes)) = some (some .nilIface, 1, 16) := by kernel_rfl
set_option maxRecDepth 100000 in
set_option maxHeartbeats 4000000 in
theorem copyCheck_used (b : Nat) (w : World) (h0 : w.cell? ⟨b, 0, none⟩ = some (.pointer (some ⟨b, 0, none⟩))) :
    Calls Try.prog 32 #[.pointer (some ⟨b, 0, none⟩)] w fun e w' => e = .returned (.tuple #[]) ∧ w' = w := by
  obtain ⟨j, hj, _⟩ := Option.map_eq_some_iff.1 size52
  go_enter Try.func32, Try.ntmps32
  go_wp2
  rw [Lib.run_neq_ptr_same w _ Try.underlying49 hj]
  go_wp2
  go_end0
  exact ⟨rfl, rfl⟩
set_option maxRecDepth 100000 in
set_option maxHeartbeats 4000000 in
theorem copyCheck_fresh (b : Nat) (w : World) (h0 : w.cell? ⟨b, 0, none⟩ = some (.pointer none)) (hsh : w.shape? b = some (54, 4)) (hfz : w.frozen? ⟨b, 0, none⟩ = false) :
    Calls Try.prog 32 #[.pointer (some ⟨b, 0, none⟩)] w fun e w' => e = .returned (.tuple #[]) ∧ w' = w.setCell ⟨b, 0, none⟩ (.pointer (some ⟨b, 0, none⟩)) := by
  obtain ⟨j, hj, hjs⟩ := Option.map_eq_some_iff.1 size52
  go_enter Try.func32, Try.ntmps32
  go_wp2
  rw [Lib.run_to_unsafe w ⟨b, 0, none⟩ Try.underlying49 Try.underlying77 hj (by rw [hjs]; decide) hsh (by decide : (0 : Nat) < 4)]
  simp only [Result.andThen]
  rw [Oper.upon_value]
  go_wp2
  rw [run_callFunc_extern Try.func42 (by kernel_rfl) (by kernel_rfl) (by kernel_rfl) (e := Extern.AbiNoEscape.same) (by kernel_rfl)]
  rw [Lib.run_noEscape]
  simp only [Result.andThen]
  rw [Oper.upon_value]
  go_wp2
  rw [Lib.run_from_unsafe w ⟨b, 0, none⟩ Try.underlying77 Try.underlying49 hj hsh lies54]
  simp only [Result.andThen]
  rw [Oper.upon_value]
  go_wp2
  go_end0
  exact ⟨rfl, rfl⟩
/-- A printer: its text so far, what is still to come. -/
structure Pr (p base : Nat) (bs st : List Value) (W : World) : Prop where
  ex : ∃ addr bv ov ind, W.heap[p]? = some (.cells #[addr, bv, ov, .int .i64 ind] 54 (0, 0)) ∧ (addr = .pointer none ∨ addr = .pointer (some ⟨p, 0, none⟩)) ∧ W.ownsRow base 5 1 bv bs.length bs ∧ W.ownsRow base 20 1 ov st.length st
  pB : base ≤ p
theorem own_ne {W : World} {base e sz n p : Nat} {v : Value} {xs : List Value} {c : Array Value} {T : TypeId} {fr : Nat × Nat} (h : W.ownsRow base e sz v n xs) (hp : W.heap[p]? = some (.cells c T fr)) (hT : T ≠ e) : v.ownBlock ≠ some p := fun hb => by
  obtain ⟨_, h2 | ⟨g, c', cur, rfl, _, h4, _⟩⟩ := h
  · rw [h2.1] at hb; cases hb
  · have : g = p := by simpa [Value.ownBlock] using hb
    subst this
    rw [hp] at h4
    cases h4
    exact hT rfl
theorem own_apart {W : World} {base base' e e' sz sz' n n' : Nat} {v v' : Value} {xs xs' : List Value} (h : W.ownsRow base e sz v n xs) (h' : W.ownsRow base' e' sz' v' n' xs') (hT : e ≠ e') : v.ownBlock = none ∨ v.ownBlock ≠ v'.ownBlock := by
  obtain ⟨_, h2 | ⟨g, c', cur, rfl, _, h4, _⟩⟩ := h
  · rw [h2.1]; exact .inl rfl
  · exact .inr fun hb => own_ne h' h4 hT hb.symm
theorem own_form {W : World} {base e sz n : Nat} {v : Value} {xs : List Value} (h : W.ownsRow base e sz v n xs) : ∃ ao n' cap, v = .slice ao n' cap := by
  rcases h.2 with ⟨hv, _⟩ | ⟨g, cap, cur, hv, _⟩
  · exact ⟨_, _, _, hv⟩
  · exact ⟨_, _, _, hv⟩
theorem cells4 {W : World} {p : Nat} {a b c d : Value} {T : TypeId} (h : W.heap[p]? = some (.cells #[a, b, c, d] T (0, 0))) : W.cell? ⟨p, 0, none⟩ = some a ∧ W.cell? ⟨p, 1, none⟩ = some b ∧ W.cell? ⟨p, 2, none⟩ = some c ∧ W.cell? ⟨p, 3, none⟩ = some d ∧ (∀ o, W.frozen? ⟨p, o, none⟩ = false) ∧ W.shape? p = some (T, 4) := by
  refine ⟨?_, ?_, ?_, ?_, fun o => ?_, ?_⟩
  · simp [World.cell?, h]
  · simp [World.cell?, h]
  · simp [World.cell?, h]
  · simp [World.cell?, h]
  · simp [World.frozen?, h]
  · simp [World.shape?, h]
theorem put4 {W : World} {p : Nat} {a b c d : Value} {T : TypeId} (h : W.heap[p]? = some (.cells #[a, b, c, d] T (0, 0))) (v : Value) : (W.setCell ⟨p, 0, none⟩ v).heap[p]? = some (.cells #[v, b, c, d] T (0, 0)) ∧ (W.setCell ⟨p, 1, none⟩ v).heap[p]? = some (.cells #[a, v, c, d] T (0, 0)) ∧ (W.setCell ⟨p, 2, none⟩ v).heap[p]? = some (.cells #[a, b, v, d] T (0, 0)) := by
  refine ⟨?_, ?_, ?_⟩ <;> simp [World.setCell, Array.getElem?_modify, h]
/-- A store into the printer's own block leaves rows. -/
theorem own_set {W : World} {base e sz n p o : Nat} {v u : Value} {xs : List Value} {c : Array Value} {T : TypeId} {fr : Nat × Nat} (h : W.ownsRow base e sz v n xs) (hp : W.heap[p]? = some (.cells c T fr)) (hT : T ≠ e) : (W.setCell ⟨p, o, none⟩ u).ownsRow base e sz v n xs :=
  own_keep h fun g hg => Below.heap_setCell _ _ _ _ (fun e' => own_ne h hp hT (by rw [hg]; exact congrArg some e'))
theorem copyCheck_any (p base : Nat) (bs st : List Value) (w : World) (h : Pr p base bs st w) :
    Calls Try.prog 32 #[.pointer (some ⟨p, 0, none⟩)] w fun e w' => e = .returned (.tuple #[]) ∧ (∃ bv ov ind, w'.heap[p]? = some (.cells #[.pointer (some ⟨p, 0, none⟩), bv, ov, .int .i64 ind] 54 (0, 0)) ∧ w'.ownsRow base 5 1 bv bs.length bs ∧ w'.ownsRow base 20 1 ov st.length st) ∧ Below base w w' := by
  obtain ⟨addr, bv, ov, ind, hp, ha, hb, ho⟩ := h.ex
  obtain ⟨c0, c1, c2, c3, cf, cs⟩ := cells4 hp
  rcases ha with rfl | rfl
  · refine (copyCheck_fresh p w c0 cs (cf 0)).mono ?_
    rintro e w' ⟨rfl, rfl⟩
    exact ⟨rfl, ⟨bv, ov, ind, (put4 hp _).1, own_set hb hp (by decide), own_set ho hp (by decide)⟩, (Below.refl base w).setCell (p := ⟨p, 0, none⟩) h.pB _⟩
  · refine (copyCheck_used p w c0).mono ?_
    rintro e w' ⟨rfl, rfl⟩
    exact ⟨rfl, ⟨bv, ov, ind, hp, hb, ho⟩, Below.refl _ _⟩
set_option maxRecDepth 100000 in
set_option maxHeartbeats 4000000 in
theorem WriteString_any (p base : Nat) (bs st : List Value) (s : ByteArray) (w : World) (h : Pr p base bs st w) (hlen : bs.length + s.size ≤ 10000) (hBw : base ≤ w.heap.size) :
    Calls Try.prog 26 #[.pointer (some ⟨p, 0, none⟩), .string s] w fun e w' => (∃ u, e = .returned u) ∧ Pr p base (bs ++ Lib.strCells s) st w' ∧ Below base w w' := by
  obtain ⟨i0, hi, hz0, hz1, hz2⟩ := info_parts info5
  have kc : Hid _ := copyCheck_any p base bs st w h
  have hmx : 20000 ≤ maxLen := by decide
  have hpB := h.pB
  clear h
  go_enter Try.func26, Try.ntmps26
  go_wp2_with fail
  refine Calls.mono kc.out ?_
  rintro e w1 ⟨rfl, ⟨bv, ov, ind, hp, hb, ho⟩, hb1⟩
  obtain ⟨c0, c1, c2, c3, cf, cs⟩ := cells4 hp
  have hs1 := hb1.size
  go_wp2_with (at_builtin; refine Lib.wpList_append_own_string _ rfl _ _ 50 9 rfl base 5 i0 Try.underlying50 Try.underlying9 hi hz0 hz1 hz2 _ _ _ rfl hb s rfl ?c3 ?c4 ?c5 ?_)
  case c3 => omega
  case c4 => omega
  case c5 => omega
  intro v' w2 hown' hgrow _
  have hlt : p < w1.heap.size := (Array.getElem?_eq_some_iff.1 hp).1
  have hp2 : w2.heap[p]? = some (.cells #[.pointer (some ⟨p, 0, none⟩), bv, ov, .int .i64 ind] 54 (0, 0)) := by
    rw [hgrow.block p hlt (fun e => own_ne hb hp (by decide) e.symm)]
    exact hp
  have ho2 : w2.ownsRow base 20 1 ov st.length st := ho.kept hgrow (own_apart ho hb (by decide))
  obtain ⟨d0, d1, d2, d3, df, ds⟩ := cells4 hp2
  have f1 := df 1
  obtain ⟨ao, n', cap, rfl⟩ := own_form hown'
  clear kc
  go_wp2
  go_ret2
  refine ⟨⟨_, rfl⟩, ⟨⟨_, _, _, ind, (put4 hp2 _).2.1, .inr rfl, ?_, own_set ho2 hp2 (by decide)⟩, hpB⟩, ?_⟩
  · have := own_set (o := 1) (u := .slice ao n' cap) hown' hp2 (by decide)
    rw [List.length_append, Lib.strCells_length]
    exact this
  · exact (hb1.grown hgrow (by omega) (fun k hk => (hb.lt k hk).1)).setCell (p := ⟨p, 1, none⟩) hpB _
set_option maxRecDepth 100000 in
set_option maxHeartbeats 4000000 in
theorem String_any (p base : Nat) (l : List UInt8) (st : List Value) (w : World) (h : Pr p base (Lib.byteCells l) st w) (h0 : l ≠ []) (hl : l.length ≤ 10000) :
    Calls Try.prog 22 #[.pointer (some ⟨p, 0, none⟩)] w fun e w' => e = .returned (.string ⟨l.toArray⟩) ∧ Below base w w' := by
  obtain ⟨addr, bv, ov, ind, hp, ha, hb, ho⟩ := h.ex
  have hbl : (Lib.byteCells l).length = l.length := by simp [Lib.byteCells]
  rw [hbl] at hb
  have hlp : 0 < l.length := List.length_pos_iff.2 h0
  obtain ⟨g, cap, cur, rfl, hbg, hg, hcap, hcm, hcs⟩ : ∃ g cap cur, bv = .slice (some ⟨g, 0, none⟩) l.length cap ∧ base ≤ g ∧ w.heap[g]? = some (.cells cur 5 (0, 0)) ∧ l.length ≤ cap ∧ cap ≤ maxLen ∧ cur.size = cap * 1 := by
    rcases hb.2 with ⟨_, h2⟩ | ⟨g, cap, cur, hv, r1, r2, r3, r4, r5, _⟩
    · omega
    · exact ⟨g, cap, cur, hv, r1, r2, r3, r4, r5⟩
  have c1 : w.drew.cell? ⟨p, 1, none⟩ = some (.slice (some ⟨g, 0, none⟩) l.length cap) := (cells4 hp).2.1
  have c1' := (cells4 hp).2.1
  have hSD : (Builtin.unsafeSliceData_ #[50] 69 #[.slice (some ⟨g, 0, none⟩) l.length cap]).run Try.prog w.drew = .ok (.pointer (some ⟨g, 0, none⟩)) w.drew := Lib.run_unsafeSliceData_row _ _ _ _ _ _ (by omega)
  have hUS : (Builtin.unsafeString_ #[69, 3] 9 #[.pointer (some ⟨g, 0, none⟩), .int .i64 l.length]).run Try.prog w.drew = .ok (.string ⟨l.toArray⟩) (w.drew.freeze ⟨g, 0, none⟩ l.length) := by
    refine Lib.run_unsafeString_row w.drew 69 3 9 5 Try.underlying69 (by kernel_rfl) g cur.size (by have hg' : w.drew.heap[g]? = some (.cells cur 5 (0, 0)) := hg; simp [World.shape?, hg']) l h0 (by omega) (by omega) ?_
    intro j x hx
    have := hb.cells (g := g) rfl j (.int .u8 x.toNat) (by simp [Lib.byteCells, hx])
    exact this
  have mixed : Try.prog.follows .mixedOrders = true := by kernel_rfl
  go_enter Try.func22, Try.ntmps22
  go_wp2
  go_region
  all_goals (go_wp2; go_ret; exact ⟨rfl, Lib.below_freeze (Below.drew (Below.refl base w)) (p := ⟨g, 0, none⟩) hbg _⟩)
end Go.Proofs.Ytbfklindcmmncaa
