/- trees: the program's Eq. -/
import Derived.Test.YtbfklindcmmncaaAc
import Derived.Deep.AppendLies
import Derived.Deep.RegionLaw
namespace Go.Proofs.Ytbfklindcmmncaa
open Go.RowKit
attribute [local go_sem ↓] Go.wp_at_zero Go.wp_at_succ
/-- A node's box. -/
def BoxN (w : World) (b : Nat) : Prop := ∃ n : NC, w.heap[b]? = some (.cells #[.int .i64 n.k, .int .i64 n.a, .string n.s, .slice n.x n.l n.c] 24 (0, 0))
def EqAt (base b2 b3 : Nat) (w : World) (EQ : Bool) (sz : Nat) (vl vr : Value) (wr : World) : Prop :=
  ∃ (ns ms : List NC) (ts us : List Tr) (gl gr cl cr : Nat), vl = .slice (some ⟨gl, 0, none⟩) ns.length cl ∧ vr = .slice (some ⟨gr, 0, none⟩) ns.length cr ∧ ns.length = ms.length ∧ wr.ownsRow base 24 4 (.slice (some ⟨gl, 0, none⟩) ns.length cl) ns.length (flatN ns) ∧ wr.ownsRow base 24 4 (.slice (some ⟨gr, 0, none⟩) ns.length cr) ns.length (flatN ms) ∧ gl ≠ gr ∧ Rds w (fun b => b < w.heap.size) ns ts ∧ Rds w (fun b => b < w.heap.size) ms us ∧ Hid (eqK ts us = EQ) ∧ sizes ts ≤ 1000 ∧ sizes us ≤ 1000 ∧ sizes ts = sz ∧ BoxN wr b2 ∧ BoxN wr b3 ∧ Below w.heap.size w wr ∧ base ≤ wr.heap.size
theorem own_one (w : World) (n : NC) (base : Nat) (hb : base ≤ w.heap.size) : (w.alloc (.cells #[.int .i64 n.k, .int .i64 n.a, .string n.s, .slice n.x n.l n.c] 24)).ownsRow base 24 4 (.slice (some ⟨w.heap.size, 0, none⟩) 1 1) 1 (flatN [n]) := by
  refine ⟨rfl, .inr ⟨w.heap.size, 1, #[.int .i64 n.k, .int .i64 n.a, .string n.s, .slice n.x n.l n.c], rfl, hb, by show (w.heap.push _)[w.heap.size]? = _; simp, Nat.le_refl _, by decide, rfl, ?_⟩⟩
  rw [flatN_one]
  rfl
theorem BoxN.same {w w' : World} {b : Nat} (h : BoxN w b) (e : w'.heap[b]? = w.heap[b]?) : BoxN w' b := by
  obtain ⟨n, h⟩ := h
  exact ⟨n, e.trans h⟩
theorem BoxN.lt {w : World} {b : Nat} (h : BoxN w b) : b < w.heap.size := by
  obtain ⟨n, h⟩ := h
  by_cases hg : b < w.heap.size
  · exact hg
  · rw [Array.getElem?_eq_none (by omega)] at h; cases h
theorem BoxN.new (w : World) (n : NC) : BoxN (w.alloc (.cells #[.int .i64 n.k, .int .i64 n.a, .string n.s, .slice n.x n.l n.c] 24)) w.heap.size := ⟨n, by show (w.heap.push _)[w.heap.size]? = _; simp⟩
theorem BoxN.alloc {w : World} {b : Nat} (h : BoxN w b) (o : Obj) : BoxN (w.alloc o) b := h.same (by show (w.heap.push _)[b]? = _; rw [Array.getElem?_push_lt h.lt, Array.getElem?_eq_getElem h.lt])
theorem BoxN.cells {w : World} {b : Nat} {n : NC} (h : w.heap[b]? = some (.cells #[.int .i64 n.k, .int .i64 n.a, .string n.s, .slice n.x n.l n.c] 24 (0, 0))) : w.cell? ⟨b, 0, none⟩ = some (.int .i64 n.k) ∧ w.cell? ⟨b, 1, none⟩ = some (.int .i64 n.a) ∧ w.cell? ⟨b, 2, none⟩ = some (.string n.s) ∧ w.cell? ⟨b, 3, none⟩ = some (.slice n.x n.l n.c) ∧ (∀ o, w.frozen? ⟨b, o, none⟩ = false) := by
  refine ⟨?_, ?_, ?_, ?_, fun o => ?_⟩
  · simp [World.cell?, h]
  · simp [World.cell?, h]
  · simp [World.cell?, h]
  · simp [World.cell?, h]
  · simp [World.frozen?, h]
theorem BoxN.put {w : World} {b : Nat} (h : BoxN w b) (n : NC) : ((((w.setCell ⟨b, 0, none⟩ (.int .i64 n.k)).setCell ⟨b, 1, none⟩ (.int .i64 n.a)).setCell ⟨b, 2, none⟩ (.string n.s)).setCell ⟨b, 3, none⟩ (.slice n.x n.l n.c)).heap[b]? = some (.cells #[.int .i64 n.k, .int .i64 n.a, .string n.s, .slice n.x n.l n.c] 24 (0, 0)) := by
  obtain ⟨m, h⟩ := h
  simp [World.setCell, Array.getElem?_modify, h]
theorem last_cells {w : World} {base g N c : Nat} {ns : List NC} {n : NC} (h : w.ownsRow base 24 4 (.slice (some ⟨g, 0, none⟩) (N + 1) c) (N + 1) (flatN (ns ++ [n]))) (hN : N = ns.length) : w.cell? ⟨g, N * 4, none⟩ = some (.int .i64 n.k) ∧ w.cell? ⟨g, N * 4 + 1, none⟩ = some (.int .i64 n.a) ∧ w.cell? ⟨g, N * 4 + 2, none⟩ = some (.string n.s) ∧ w.cell? ⟨g, N * 4 + 3, none⟩ = some (.slice n.x n.l n.c) := by
  have hl := flatN_len ns
  have key : ∀ i, i < 4 → w.cell? ⟨g, N * 4 + i, none⟩ = n.cells[i]? := fun i hi => by
    rw [h.cellAt (N * 4 + i) (by omega), flatN_app, flatN_one, List.getElem?_append_right (by omega), hl, ← hN, Nat.add_sub_cancel_left]
  exact ⟨key 0 (by decide), key 1 (by decide), key 2 (by decide), key 3 (by decide)⟩
theorem own_same {w w' : World} {base g n c : Nat} {xs : List Value} (h : w.ownsRow base 24 4 (.slice (some ⟨g, 0, none⟩) n c) n xs) (e : w'.heap[g]? = w.heap[g]?) : w'.ownsRow base 24 4 (.slice (some ⟨g, 0, none⟩) n c) n xs := by
  obtain ⟨h1, h2⟩ := h
  refine ⟨h1, ?_⟩
  rcases h2 with ⟨h2, _⟩ | ⟨g', cap, cur, h2, h3, h4, h5⟩
  · cases h2
  · cases h2
    exact .inr ⟨g, c, cur, rfl, h3, e.trans h4, h5⟩
theorem info24 : (Try.prog.info? 24).map (fun i => (i.zero, i.size, i.bytes)) = some (some (.agg #[.int .i64 0, .int .i64 0, .string ⟨#[]⟩, .slice none 0 0]), 4, 56) := by kernel_rfl
theorem own_take {w : World} {base g N c : Nat} {ns : List NC} {n : NC} (h : w.ownsRow base 24 4 (.slice (some ⟨g, 0, none⟩) (N + 1) c) (N + 1) (flatN (ns ++ [n]))) (hN : N = ns.length) : w.ownsRow base 24 4 (.slice (some ⟨g, 0, none⟩) N c) N (flatN ns) ∧ N + 1 ≤ c ∧ c ≤ maxLen := by
  obtain ⟨_, h2⟩ := h
  rcases h2 with ⟨h2, _⟩ | ⟨g', cap, cur, h2, h3, h4, h5, h6, h7, h8⟩
  · cases h2
  · cases h2
    refine ⟨⟨by rw [flatN_len, hN], .inr ⟨g, c, cur, rfl, h3, h4, by omega, h6, h7, ?_⟩⟩, h5, h6⟩
    have := congrArg (List.take (N * 4)) h8
    rw [List.take_take, Nat.min_eq_left (by omega), flatN_app, List.take_append_of_le_length (by rw [flatN_len]; omega)] at this
    rw [this]
    exact List.take_of_length_le (by rw [flatN_len]; omega)
/-- Behind the first append. -/
def AppAt (base b2 b3 gr cr N m : Nat) (ns : List NC) (ms : List NC) (nr : NC) (w : World) (vl : Value) (wy : World) : Prop :=
  ∃ g' c', vl = .slice (some ⟨g', 0, none⟩) (N + m) c' ∧ wy.ownsRow base 24 4 (.slice (some ⟨g', 0, none⟩) (N + m) c') (N + m) (flatN ns) ∧ g' ≠ gr ∧ wy.ownsRow base 24 4 (.slice (some ⟨gr, 0, none⟩) (N + 1) cr) (N + 1) (flatN ms) ∧ BoxN wy b2 ∧ wy.heap[b3]? = some (.cells #[.int .i64 nr.k, .int .i64 nr.a, .string nr.s, .slice nr.x nr.l nr.c] 24 (0, 0)) ∧ Below w.heap.size w wy ∧ base ≤ wy.heap.size
theorem eq_of {w wz : World} {base b2 b3 g1 g2 c1 c2 L : Nat} {ns ms : List NC} {ts us : List Tr} {EQ : Bool} (hO1 : wz.ownsRow base 24 4 (.slice (some ⟨g1, 0, none⟩) L c1) L (flatN ns)) (hO2 : wz.ownsRow base 24 4 (.slice (some ⟨g2, 0, none⟩) L c2) L (flatN ms)) (hg : g1 ≠ g2) (hln : ns.length = L) (hlm : ms.length = L) (hR1 : Rds w (fun b => b < w.heap.size) ns ts) (hR2 : Rds w (fun b => b < w.heap.size) ms us) (hE : eqK ts us = EQ) (hs1 : sizes ts ≤ 1000) (hs2 : sizes us ≤ 1000) (hx2 : BoxN wz b2) (hx3 : BoxN wz b3) (hb : Below w.heap.size w wz) (hba : base ≤ wz.heap.size) :
    EqAt base b2 b3 w EQ (sizes ts) (.slice (some ⟨g1, 0, none⟩) L c1) (.slice (some ⟨g2, 0, none⟩) L c2) wz := by
  subst hln
  exact ⟨ns, ms, ts, us, g1, g2, c1, c2, rfl, rfl, hlm.symm, hO1, hO2, hg, hR1, hR2, hE, hs1, hs2, rfl, hx2, hx3, hb, hba⟩
theorem app_two {w wy : World} {base b2 b3 g1 gr c1 N m : Nat} {ns ms ms1 : List NC} {ts us : List Tr} {EQ : Bool} (hO1 : wy.ownsRow base 24 4 (.slice (some ⟨g1, 0, none⟩) (N + m) c1) (N + m) (flatN ns)) (hg : g1 ≠ gr) (hgr : base ≤ gr) (hln : ns.length = N + m) (hlm : (ms ++ ms1).length = N + m) (hR1 : Rds w (fun b => b < w.heap.size) ns ts) (hR2 : Rds w (fun b => b < w.heap.size) (ms ++ ms1) us) (hE : eqK ts us = EQ) (hs1 : sizes ts ≤ 1000) (hs2 : sizes us ≤ 1000) (hx2 : BoxN wy b2) (hx3 : BoxN wy b3) (h23 : b2 < b3) (h3b : b3 < base) (hw : w.heap.size ≤ b2) (hbel : Below w.heap.size w wy) (hba : base ≤ wy.heap.size) :
    ∀ g' c' w5, w5.ownsRow base 24 4 (.slice (some ⟨g', 0, none⟩) (N + m) c') (N + m) (flatN ms ++ flatN ms1) → wy.drew.grownBy w5 (some gr) → (some gr = some g' ∨ g' = wy.heap.size) → EqAt base b2 b3 w EQ (sizes ts) (.slice (some ⟨g1, 0, none⟩) (N + m) c1) (.slice (some ⟨g', 0, none⟩) (N + m) c') w5 := by
  intro g' c' w5 hO5 hg5 hat
  have hsame : ∀ b, b < wy.heap.size → b ≠ gr → w5.heap[b]? = wy.heap[b]? := fun b hb hne => hg5.block b hb (by simp; exact hne)
  have hg1 := hO1.lt g1 rfl
  refine eq_of (own_same hO1 (hsame g1 hg1.2 hg)) (by rw [flatN_app]; exact hO5) ?_ hln hlm hR1 hR2 hE hs1 hs2 (hx2.same (hsame b2 (by omega) (by omega))) (hx3.same (hsame b3 (by omega) (by omega))) (hbel.drew.grown hg5 (by have := hbel.size; exact this) (by intro k hk; cases hk; omega)) (Nat.le_trans hba hg5.size)
  rcases hat with h | h
  · have := Option.some.inj h; omega
  · have := hg1.2; omega
theorem app_one {w wx : World} {base b2 b3 gl gr cr N m : Nat} {ns ns1 ms : List NC} {nr : NC} (hx2 : BoxN wx b2) (hq3 : wx.heap[b3]? = some (.cells #[.int .i64 nr.k, .int .i64 nr.a, .string nr.s, .slice nr.x nr.l nr.c] 24 (0, 0))) (hO2 : wx.ownsRow base 24 4 (.slice (some ⟨gr, 0, none⟩) (N + 1) cr) (N + 1) (flatN ms)) (hg : gl ≠ gr) (hgl : base ≤ gl) (h23 : b2 < b3) (h3b : b3 < base) (hw : w.heap.size ≤ b2) (hbel : Below w.heap.size w wx) (hba : base ≤ wx.heap.size) :
    ∀ g' c' w5, w5.ownsRow base 24 4 (.slice (some ⟨g', 0, none⟩) (N + m) c') (N + m) (flatN ns ++ flatN ns1) → wx.drew.grownBy w5 (some gl) → (some gl = some g' ∨ g' = wx.heap.size) → AppAt base b2 b3 gr cr N m (ns ++ ns1) ms nr w (.slice (some ⟨g', 0, none⟩) (N + m) c') w5 := by
  intro g' c' w5 hO5 hg5 hat
  have hsame : ∀ b, b < wx.heap.size → b ≠ gl → w5.heap[b]? = wx.heap[b]? := fun b hb hne => hg5.block b hb (by simp; exact hne)
  have hgr := hO2.lt gr rfl
  have hb3 : b3 < wx.heap.size := by omega
  refine ⟨g', c', rfl, by rw [flatN_app]; exact hO5, ?_, own_same hO2 (hsame gr hgr.2 (Ne.symm hg)), hx2.same (hsame b2 (by omega) (by omega)), (hsame b3 hb3 (by omega)).trans hq3, ?_, ?_⟩
  · rcases hat with h | h
    · have := Option.some.inj h; omega
    · omega
  · exact hbel.drew.grown hg5 (by have := hbel.size; exact this) (by intro k hk; cases hk; omega)
  · have := hg5.size
    exact Nat.le_trans hba this
def MidAt (base b2 b3 gl gr cl cr n : Nat) (ns ms : List NC) (nl nr : NC) (w wx : World) : Prop :=
  wx.heap[b2]? = some (.cells #[.int .i64 nl.k, .int .i64 nl.a, .string nl.s, .slice nl.x nl.l nl.c] 24 (0, 0)) ∧ wx.heap[b3]? = some (.cells #[.int .i64 nr.k, .int .i64 nr.a, .string nr.s, .slice nr.x nr.l nr.c] 24 (0, 0)) ∧ wx.ownsRow base 24 4 (.slice (some ⟨gl, 0, none⟩) n cl) n (flatN ns) ∧ wx.ownsRow base 24 4 (.slice (some ⟨gr, 0, none⟩) n cr) n (flatN ms) ∧ Below w.heap.size w wx ∧ base ≤ wx.heap.size
theorem mid_put {w wr : World} {base b2 b3 gl gr cl cr n : Nat} {ns ms : List NC} {nl nr : NC} (hx2 : BoxN wr b2) (hx3 : BoxN wr b3) (hO1 : wr.ownsRow base 24 4 (.slice (some ⟨gl, 0, none⟩) n cl) n (flatN ns)) (hO2 : wr.ownsRow base 24 4 (.slice (some ⟨gr, 0, none⟩) n cr) n (flatN ms)) (h23 : b2 < b3) (h3b : b3 < base) (hw : w.heap.size ≤ b2) (hbel : Below w.heap.size w wr) (hba : base ≤ wr.heap.size) :
    MidAt base b2 b3 gl gr cl cr n ns ms nl nr w ((((((((wr.setCell ⟨b2, 0, none⟩ (.int .i64 nl.k)).setCell ⟨b2, 1, none⟩ (.int .i64 nl.a)).setCell ⟨b2, 2, none⟩ (.string nl.s)).setCell ⟨b2, 3, none⟩ (.slice nl.x nl.l nl.c)).setCell ⟨b3, 0, none⟩ (.int .i64 nr.k)).setCell ⟨b3, 1, none⟩ (.int .i64 nr.a)).setCell ⟨b3, 2, none⟩ (.string nr.s)).setCell ⟨b3, 3, none⟩ (.slice nr.x nr.l nr.c)).drew := by
  have k2 := hx2.put nl
  have same2 : ∀ b, b ≠ b2 → ((((wr.setCell ⟨b2, 0, none⟩ (.int .i64 nl.k)).setCell ⟨b2, 1, none⟩ (.int .i64 nl.a)).setCell ⟨b2, 2, none⟩ (.string nl.s)).setCell ⟨b2, 3, none⟩ (.slice nl.x nl.l nl.c)).heap[b]? = wr.heap[b]? := fun b hb => by
    rw [Below.heap_setCell _ _ _ _ hb, Below.heap_setCell _ _ _ _ hb, Below.heap_setCell _ _ _ _ hb, Below.heap_setCell _ _ _ _ hb]
  have hB2 : Below w.heap.size w ((((wr.setCell ⟨b2, 0, none⟩ (.int .i64 nl.k)).setCell ⟨b2, 1, none⟩ (.int .i64 nl.a)).setCell ⟨b2, 2, none⟩ (.string nl.s)).setCell ⟨b2, 3, none⟩ (.slice nl.x nl.l nl.c)) := (((hbel.setCell hw _).setCell hw _).setCell hw _).setCell hw _
  have hsz2 : ((((wr.setCell ⟨b2, 0, none⟩ (.int .i64 nl.k)).setCell ⟨b2, 1, none⟩ (.int .i64 nl.a)).setCell ⟨b2, 2, none⟩ (.string nl.s)).setCell ⟨b2, 3, none⟩ (.slice nl.x nl.l nl.c)).heap.size = wr.heap.size := by simp
  generalize ((((wr.setCell ⟨b2, 0, none⟩ (.int .i64 nl.k)).setCell ⟨b2, 1, none⟩ (.int .i64 nl.a)).setCell ⟨b2, 2, none⟩ (.string nl.s)).setCell ⟨b2, 3, none⟩ (.slice nl.x nl.l nl.c)) = V at *
  have x3 : BoxN V b3 := hx3.same (same2 b3 (by omega))
  have k3 := x3.put nr
  have same3 : ∀ b, b ≠ b3 → ((((V.setCell ⟨b3, 0, none⟩ (.int .i64 nr.k)).setCell ⟨b3, 1, none⟩ (.int .i64 nr.a)).setCell ⟨b3, 2, none⟩ (.string nr.s)).setCell ⟨b3, 3, none⟩ (.slice nr.x nr.l nr.c)).heap[b]? = V.heap[b]? := fun b hb => by
    rw [Below.heap_setCell _ _ _ _ hb, Below.heap_setCell _ _ _ _ hb, Below.heap_setCell _ _ _ _ hb, Below.heap_setCell _ _ _ _ hb]
  have hw3 : w.heap.size ≤ b3 := by omega
  have l1 := (hO1.lt gl rfl).1
  have l2 := (hO2.lt gr rfl).1
  exact ⟨(same3 b2 (by omega)).trans k2, k3, own_same hO1 ((same3 gl (by omega)).trans (same2 gl (by omega))), own_same hO2 ((same3 gr (by omega)).trans (same2 gr (by omega))), ((((hB2.setCell hw3 _).setCell hw3 _).setCell hw3 _).setCell hw3 _).drew, by show base ≤ ((((V.setCell _ _).setCell _ _).setCell _ _).setCell _ _).heap.size; simp [hsz2]; exact hba⟩
theorem eq_start (w : World) (n m : NC) (t u : Tr) (EQ : Bool) (hR1 : Rds w (fun b => b < w.heap.size) [n] [t]) (hR2 : Rds w (fun b => b < w.heap.size) [m] [u]) (hE : eqK [t] [u] = EQ) (h1 : sizes [t] ≤ 1000) (h2 : sizes [u] ≤ 1000) (W : World) (hx2 : BoxN W w.heap.size) (hx3 : BoxN W (w.heap.size + 1)) (hbW : Below w.heap.size w W) (hsz : W.heap.size = w.heap.size + 1 + 1) :
    EqAt (w.heap.size + 1 + 1) w.heap.size (w.heap.size + 1) w EQ (sizes [t]) (.slice (some ⟨w.heap.size + 1 + 1, 0, none⟩) 1 1) (.slice (some ⟨w.heap.size + 1 + 1 + 1, 0, none⟩) 1 1) ((W.alloc (.cells #[.int .i64 n.k, .int .i64 n.a, .string n.s, .slice n.x n.l n.c] 24)).alloc (.cells #[.int .i64 m.k, .int .i64 m.a, .string m.s, .slice m.x m.l m.c] 24)).drew ∧
    EqAt (w.heap.size + 1 + 1) w.heap.size (w.heap.size + 1) w EQ (sizes [t]) (.slice (some ⟨w.heap.size + 1 + 1 + 1, 0, none⟩) 1 1) (.slice (some ⟨w.heap.size + 1 + 1, 0, none⟩) 1 1) ((W.alloc (.cells #[.int .i64 m.k, .int .i64 m.a, .string m.s, .slice m.x m.l m.c] 24)).alloc (.cells #[.int .i64 n.k, .int .i64 n.a, .string n.s, .slice n.x n.l n.c] 24)).drew := by
  have o1 := fun n : NC => own_one W n (w.heap.size + 1 + 1) (by omega)
  rw [hsz] at o1
  have s1 : ∀ o, (W.alloc o).heap.size = w.heap.size + 1 + 1 + 1 := fun o => by simp [hsz]
  have o2 := fun (o : Obj) (n : NC) => own_one (W.alloc o) n (w.heap.size + 1 + 1) (by rw [s1]; omega)
  have hb : ∀ o o', Below w.heap.size w ((W.alloc o).alloc o').drew := fun o o' => (((hbW.alloc hbW.size _).alloc (by rw [s1]; omega) _).drew)
  constructor
  · refine ⟨[n], [m], [t], [u], _, _, 1, 1, rfl, rfl, rfl, (o1 n).alloc _, ?_, by omega, hR1, hR2, hE, h1, h2, rfl, (hx2.alloc _).alloc _, (hx3.alloc _).alloc _, hb _ _, by simp [hsz]⟩
    have := o2 (.cells #[.int .i64 n.k, .int .i64 n.a, .string n.s, .slice n.x n.l n.c] 24) m
    rw [s1] at this
    exact this
  · refine ⟨[n], [m], [t], [u], _, _, 1, 1, rfl, rfl, rfl, ?_, (o1 m).alloc _, by omega, hR1, hR2, hE, h1, h2, rfl, (hx2.alloc _).alloc _, (hx3.alloc _).alloc _, hb _ _, by simp [hsz]⟩
    have := o2 (.cells #[.int .i64 m.k, .int .i64 m.a, .string m.s, .slice m.x m.l m.c] 24) n
    rw [s1] at this
    exact this
set_option maxRecDepth 20000 in
set_option maxHeartbeats 4000000 in
theorem Eq_any (t u : Tr) (w : World) (va vb : Value) (ht : t.size ≤ 1000) (hu : u.size ≤ 1000) (ha : TrV w (fun b => b < w.heap.size) va t) (hb : TrV w (fun b => b < w.heap.size) vb u) : Calls Try.prog 15 #[va, vb] w fun e w' => e = .returned (.bool (eqT t u)) ∧ Below w.heap.size w w' := by
  obtain ⟨EQ, hEQ⟩ : ∃ EQ, EQ = eqT t u := ⟨_, rfl⟩
  rw [← hEQ]
  obtain ⟨n0, rfl, hn0⟩ : ∃ n : NC, va = n.val ∧ True := by
    obtain ⟨k, a, s, ks⟩ := t
    unfold TrV at ha
    obtain ⟨x, l, cap, rfl, _⟩ := ha
    exact ⟨⟨k, a, s, x, l, cap⟩, rfl, trivial⟩
  obtain ⟨m0, rfl, hm0⟩ : ∃ n : NC, vb = n.val ∧ True := by
    obtain ⟨k, a, s, ks⟩ := u
    unfold TrV at hb
    obtain ⟨x, l, cap, rfl, _⟩ := hb
    exact ⟨⟨k, a, s, x, l, cap⟩, rfl, trivial⟩
  have hR1 : Hid (Rds w (fun b => b < w.heap.size) [n0] [t]) := ⟨ha, trivial⟩
  have hR2 : Hid (Rds w (fun b => b < w.heap.size) [m0] [u]) := ⟨hb, trivial⟩
  have hE0 : Hid (eqK [t] [u] = EQ) := by show (eqT t u && true) = EQ; rw [Bool.and_true, hEQ]
  have hs1 : sizes [t] ≤ 1000 := by show t.size + 0 ≤ _; omega
  have hs2 : sizes [u] ≤ 1000 := by show u.size + 0 ≤ _; omega
  clear ha hb hEQ hn0 hm0
  obtain ⟨W, hW⟩ : ∃ W, W = (w.alloc (.cells #[.int .i64 n0.k, .int .i64 n0.a, .string n0.s, .slice n0.x n0.l n0.c] 24)).alloc (.cells #[.int .i64 m0.k, .int .i64 m0.a, .string m0.s, .slice m0.x m0.l m0.c] 24) := ⟨_, rfl⟩
  have hbW : Below w.heap.size w W := by rw [hW]; exact ((Below.refl _ _).alloc (Nat.le_refl _) _).alloc (by simp) _
  have hsz : W.heap.size = w.heap.size + 1 + 1 := by rw [hW]; simp
  have hx2 : BoxN W w.heap.size := by rw [hW]; exact (BoxN.new w n0).alloc _
  have hx3 : BoxN W (w.heap.size + 1) := by
    rw [hW]
    have := BoxN.new (w.alloc (.cells #[.int .i64 n0.k, .int .i64 n0.a, .string n0.s, .slice n0.x n0.l n0.c] 24)) m0
    rw [show (w.alloc (.cells #[.int .i64 n0.k, .int .i64 n0.a, .string n0.s, .slice n0.x n0.l n0.c] 24)).heap.size = w.heap.size + 1 by simp] at this
    exact this
  obtain ⟨hA, hB⟩ := eq_start w n0 m0 t u EQ hR1.out hR2.out hE0.out hs1 hs2 W hx2 hx3 hbW hsz
  rw [hW] at hA hB
  have hA' : Hid _ := hA
  have hB' : Hid _ := hB
  clear hA hB hW hx2 hx3 hsz hbW hR1 hR2 hE0 hs1 hs2
  obtain ⟨SZ, hSZ⟩ : ∃ SZ, SZ = sizes [t] := ⟨_, rfl⟩
  rw [← hSZ] at hA' hB'
  clear hSZ
  obtain ⟨k, a, s, x, l, c⟩ := n0
  obtain ⟨k', a', s', x', l', c'⟩ := m0
  show Calls Try.prog 15 #[.agg #[.int .i64 k, .int .i64 a, .string s, .slice x l c], .agg #[.int .i64 k', .int .i64 a', .string s', .slice x' l' c']] w _
  go_enter Try.func15, Try.ntmps15
  go_upto_region 1 with fail
  go_cut [5, 6] from 8 (fun vl vr wc => EqAt (w.heap.size + 1 + 1) w.heap.size (w.heap.size + 1) w EQ SZ vl vr wc)
  case first =>
    go_region
    · go_wp2_with fail
      go_meet
      case rel => exact hA'.out
    · go_wp2_with fail
      go_meet
      case rel => exact hB'.out
  case rest =>
    clear hA' hB'
    generalize wc = W0 at hcut ⊢
    have hst : Hid (EqAt (w.heap.size + 1 + 1) w.heap.size (w.heap.size + 1) w EQ SZ _ _ W0) := hcut
    clear hcut
    obtain ⟨b2, hb2⟩ : ∃ b2, b2 = w.heap.size := ⟨_, rfl⟩
    obtain ⟨b3, hb3⟩ : ∃ b3, b3 = w.heap.size + 1 := ⟨_, rfl⟩
    obtain ⟨base, hba⟩ : ∃ base, base = w.heap.size + 1 + 1 := ⟨_, rfl⟩
    rw [← hba, ← hb3, ← hb2] at hst
    rw [← hb3, ← hb2]
    have hbb : b2 < b3 ∧ b3 < base := by omega
    have hbw : Hid (w.heap.size ≤ b2) := Nat.le_of_eq hb2.symm
    clear hb2 hb3 hba
    go_wp2
    go_loopg [5, 6, 7] SZ (fun sz vl vr _ wr => EqAt base b2 b3 w EQ sz vl vr wr)
    case atStart => exact hst.out
    case round =>
      clear hst
      obtain ⟨ns, ms, ts, us, gl, gr, cl, cr, rfl, rfl, hnm, hO1, hO2, hg, hR1, hR2, hE, hs1, hs2, hk, hx2, hx3, hbel, hba⟩ := hrel
      by_cases hn : 0 < ns.length
      · obtain ⟨ns', nl, ts', t1, rfl, rfl, hr1, ht1⟩ := Rds.last hR1 hn
        obtain ⟨ms', nr, us', u1, rfl, rfl, hr2, hu1⟩ := Rds.last hR2 (by omega)
        have hlen : (ns' ++ [nl]).length = ns'.length + 1 := by simp
        have hlenm : ms'.length = ns'.length := by simp at hnm; omega
        have hts := Rds.len hr1
        have hus := Rds.len hr2
        rw [hlen] at hO1 hO2 ⊢
        obtain ⟨N, hN⟩ : ∃ N, N = ns'.length := ⟨_, rfl⟩
        have hN1 : N ≤ 1000 := by have := len_sizes ts'; rw [sizes_app] at hs1; omega
        rw [← hN] at hO1 hO2 ⊢
        have hO2' : wr.ownsRow base 24 4 (.slice (some ⟨gr, 0, none⟩) (N + 1) cr) (N + 1) (flatN (ms' ++ [nr])) := hO2
        obtain ⟨c0, c1, c2, c3⟩ := last_cells hO1 (by omega)
        obtain ⟨e0, e1, e2, e3⟩ := last_cells hO2 (by omega)
        have hw1 : IntKind.i64.wrap (((N + 1 : Nat) : Int) - 1) = (N : Int) := by rw [IntKind.wrap_i64]; omega
        have d1 : decide (((N + 1 : Nat) : Int) > 0) = true := decide_eq_true (by omega)
        have i1 : (N : Int) < ((N + 1 : Nat) : Int) := by omega
        have hO1h : Hid _ := hO1
        have hO2h : Hid _ := hO2
        have hNh : Hid (N = ns'.length ∧ ms'.length = ns'.length ∧ ns'.length = ts'.length ∧ ms'.length = us'.length) := ⟨hN, hlenm, hts, hus⟩
        have hkh : Hid _ := hk
        obtain ⟨hbl1, hbl2⟩ : base ≤ gl ∧ base ≤ gr := ⟨(hO1.lt gl rfl).1, (hO2.lt gr rfl).1⟩
        obtain ⟨q2, hq2⟩ := hx2
        obtain ⟨q3, hq3⟩ := hx3
        obtain ⟨p0, p1, p2, p3, pf⟩ := BoxN.cells hq2
        obtain ⟨r0, r1, r2, r3, rf⟩ := BoxN.cells hq3
        have pf0 := pf 0
        have pf1 := pf 1
        have pf2 := pf 2
        have pf3 := pf 3
        have rf0 := rf 0
        have rf1 := rf 1
        have rf2 := rf 2
        have rf3 := rf 3
        have hmid : Hid _ := mid_put (nl := nl) (nr := nr) ⟨q2, hq2⟩ ⟨q3, hq3⟩ hO1 hO2 hbb.1 hbb.2 hbw.out hbel hba
        have hb23 : b2 ≠ b3 := by omega
        have hbg1 : b2 ≠ gl := by omega
        have hbg2 : b2 ≠ gr := by omega
        clear hn hN hlen hlenm hts hus hk hO1 hO2 hO2' hR1 hR2 hnm pf rf hq2 hq3
        go_upto_region 4 with fail
        go_cut [] from 12 to 58 (fun wx => MidAt base b2 b3 gl gr cl cr (N + 1) (ns' ++ [nl]) (ms' ++ [nr]) nl nr w wx)
        case first =>
          go_region
          all_goals
            go_wp2_with fail
            go_meet
            case rel => exact hmid.out
        case rest =>
          generalize wc = wx at hcut ⊢
          obtain ⟨hq2, hq3, hO1, hO2, hbx, hbax⟩ := hcut
          clear hmid hO1h hO2h p0 p1 p2 p3 r0 r1 r2 r3 pf0 pf1 pf2 pf3 rf0 rf1 rf2 rf3 c0 c1 c2 c3 e0 e1 e2 e3 hbel hba
          obtain ⟨k1, a1, s1, ks⟩ := t1
          obtain ⟨k2, a2, s2, vs⟩ := u1
          obtain ⟨nk, na, nS, nx, nL, nC⟩ := nl
          obtain ⟨mk, ma, mS, mx, mL, mC⟩ := nr
          unfold TrV at ht1 hu1
          obtain ⟨x1, l1, cap1, hv, hl1, hlc1, hcm1, hK1⟩ := ht1
          obtain ⟨x2, l2, cap2, hv2, hl2, hlc2, hcm2, hK2⟩ := hu1
          simp only [NC.val, Value.agg.injEq, Array.mk.injEq, List.cons.injEq, Value.int.injEq, Value.string.injEq, Value.slice.injEq, true_and, and_true] at hv hv2
          obtain ⟨rfl, rfl, rfl, rfl, rfl, rfl⟩ := hv
          obtain ⟨rfl, rfl, rfl, rfl, rfl, rfl⟩ := hv2
          subst hl1 hl2
          obtain ⟨p0, p1, p2, p3, pf⟩ := BoxN.cells hq2
          obtain ⟨r0, r1, r2, r3, rf⟩ := BoxN.cells hq3
          simp only at p0 p1 p2 p3 r0 r1 r2 r3
          have hEQ := hE.out
          rw [eqK_app (by obtain ⟨_, _, _, _⟩ := hNh.out; omega)] at hEQ
          replace hEQ : (eqK ts' us' && ((nk == mk) && (nS.toList == mS.toList) && eqK ks vs)) = EQ := by
            rw [← hEQ]
            show _ = (eqK ts' us' && (eqT (.node nk na nS ks) (.node mk ma mS vs) && true))
            rw [Bool.and_true]
            unfold eqT
            rfl
          have hfin : Hid _ := hbx
          clear hE pf rf
          cases f1 : (nk == mk) with
          | false =>
            have f1' : (nk != mk) = true := by simp [bne, f1]
            rw [f1] at hEQ
            have hF : Hid (EQ = false) := by rw [← hEQ]; simp [Hid]
            clear hEQ hO1 hO2 hq2 hq3 hK1 hK2 hr1 hr2 hbx
            go_wp2
            go_ret
            exact ⟨by rw [hF.out]; rfl, hfin.out⟩
          | true =>
            have f1' : (nk != mk) = false := by simp [bne, f1]
            cases f2 : (nS.toList == mS.toList) with
            | false =>
              have f2' : (nS.toList != mS.toList) = true := by simp only [bne, f2]; rfl
              rw [f1, f2] at hEQ
              have hF : Hid (EQ = false) := by rw [← hEQ]; simp [Hid]
              clear hEQ hO1 hO2 hq2 hq3 hK1 hK2 hr1 hr2 hbx
              go_wp2
              go_ret
              exact ⟨by rw [hF.out]; rfl, hfin.out⟩
            | true =>
              have f2' : (nS.toList != mS.toList) = false := by simp only [bne, f2]; rfl
              rw [f1, f2] at hEQ
              by_cases hl : ks.length = vs.length
              · have hlh : Hid (ks.length = vs.length) := hl
                have f3 : ((ks.length : Int) != (vs.length : Int)) = false := by simp; omega
                obtain ⟨m, hm⟩ : ∃ m, m = ks.length := ⟨_, rfl⟩
                obtain ⟨ns1, hRk, hck⟩ := KidsAt.row hK1
                obtain ⟨ms1, hRv, hcv⟩ := KidsAt.row hK2
                obtain ⟨hT1, hcl, hclm⟩ := own_take hO1 hNh.out.1
                obtain ⟨i0, hi, hz0, hz1, hz2⟩ := info_parts info24
                have hm1 : m ≤ 1000 := by
                  have h1 := len_sizes ks
                  rw [sizes_app] at hs1
                  have h2 : sizes [Tr.node nk na nS ks] = 1 + sizes ks + 0 := rfl
                  omega
                have hns1 : ns1.length = m := by rw [Rds.len hRk, hm]
                have q1 : (N : Int) ≤ (cl : Int) := by omega
                have hclh : Hid (N + 1 ≤ cl) := hcl
                rw [← hm] at f3 p3 hq2
                have hmv : vs.length = m := by omega
                rw [hmv] at f3 r3 hq3 hO2
                have hmh : Hid (m = ks.length) := hm
                have hmvh : Hid (vs.length = m) := hmv
                have hns1h : Hid (ns1.length = m) := hns1
                clear hm hmv hns1
                have hb2x : BoxN wx b2 := ⟨_, hq2⟩
                clear hl
                go_upto_region 7 with fail
                go_cut [5] from 12 to 58 (fun vl wy => AppAt base b2 b3 gr cr N m (ns' ++ ns1) (ms' ++ [⟨mk, ma, mS, mx, m, mC⟩]) ⟨mk, ma, mS, mx, m, mC⟩ w vl wy)
                case first =>
                  by_cases hm0 : 0 < m
                  · obtain ⟨ad, rfl⟩ := KidsAt.some hK1 (fun h => by have hm := hmh.out; rw [h] at hm; simp at hm; omega)
                    obtain ⟨hcell, hPa⟩ := hck ad rfl
                    have hT1h : Hid (wx.drew.ownsRow base 24 4 (.slice (some ⟨gl, 0, none⟩) N cl) N (flatN ns')) := hT1
                    have hnews : Hid (∀ j u, (flatN ns1)[j]? = some u → wx.drew.cell? (ad.add j) = some u) := fun j u hj => by
                      have := hcell j u hj
                      rw [Nat.zero_mul, Nat.zero_add] at this
                      have hlt : (ad.add j).block < w.heap.size := by rw [add_block]; exact hPa (fun h => by have hm := hmh.out; rw [h] at hm; simp at hm; omega)
                      exact (hbx.cell hlt).trans this
                    have hln : Hid ((flatN ns1).length = m * 4) := by show _ = _; rw [flatN_len, hns1h.out]
                    have hm0h : Hid (0 < m) := hm0
                    have h63 : Hid (N + m ≤ maxLen) := by show _ ≤ _; unfold maxLen; omega
                    have hby : Hid ((N + m) * 56 ≤ 140737488355328) := by show _ ≤ _; omega
                    have hbh : Hid (base ≤ wx.drew.heap.size) := hbax
                    have happ : Hid (∀ g' c' w5, w5.ownsRow base 24 4 (.slice (some ⟨g', 0, none⟩) (N + m) c') (N + m) (flatN ns' ++ flatN ns1) → wx.drew.grownBy w5 (some gl) → (some gl = some g' ∨ g' = wx.heap.size) → AppAt base b2 b3 gr cr N m (ns' ++ ns1) (ms' ++ [⟨mk, ma, mS, mx, m, mC⟩]) ⟨mk, ma, mS, mx, m, mC⟩ w (.slice (some ⟨g', 0, none⟩) (N + m) c') w5) := app_one hb2x hq3 hO2 hg (hO1.lt gl rfl).1 hbb.1 hbb.2 hbw.out hbx hbax
                    clear hT1 hcell hO1 hO2 hq2 hq3 hRk hRv hcv hK1 hK2 hr1 hr2 hEQ hNh hfin hbx hbax hb2x hm0 hclh hPa
                    go_region_law (refine step_append_lies _ rfl (.tmp 49) (.tmp 51) 22 rfl base 24 i0 _ 4 56 Try.underlying22 hi hz0 hz1 hz2 (by rfl) (by decide) (.slice (some ⟨gl, 0, none⟩) N cl) N (flatN ns') (by simp [Act.eval]) hT1h.out ad m nC (flatN ns1) (by simp [Act.eval]) hln.out hnews.out (flatN_cell _) hm0h.out h63.out hby.out hbh.out wx.heap.size rfl ?_; intro g' c' w5 hO5 hg5 hat hlt5)
                    all_goals
                      go_wp2_with fail
                      go_meet
                      case rel => exact happ.out g' c' w5 hO5 hg5 hat
                  · obtain rfl : m = 0 := by omega
                    have hnil : ns1 = [] := List.length_eq_zero_iff.1 hns1h.out
                    have hap : Hid (AppAt base b2 b3 gr cr N 0 (ns' ++ ns1) (ms' ++ [⟨mk, ma, mS, mx, 0, mC⟩]) ⟨mk, ma, mS, mx, 0, mC⟩ w (.slice (some ⟨gl, 0, none⟩) N cl) wx.drew) := ⟨gl, cl, rfl, by rw [hnil, List.append_nil]; exact hT1, hg, hO2, hb2x, hq3, hbx.drew, hbax⟩
                    have hN0 : N ≤ cl := by omega
                    clear hT1 hO1 hO2 hq2 hq3 hRk hRv hcv hck hK1 hK2 hr1 hr2 hEQ hNh hfin hbx hbax hb2x hm0 hclh hns1h hmh hmvh hlh hnil
                    cases nx with
                    | none =>
                      go_region
                      all_goals
                        go_wp2_with fail
                        go_meet
                        case rel => exact hap.out
                    | some ad =>
                      go_region
                      all_goals
                        go_wp2_with fail
                        go_meet
                        case rel => exact hap.out
                case rest =>
                  generalize wc = wy at hcut ⊢
                  obtain ⟨g1, c1, rfl, hO3, hg1, hO4, hy2, hq4, hby, hbay⟩ := hcut
                  clear p0 p1 p2 p3 r0 r1 r2 r3 hq2 hq3 hO1 hO2 hT1 hb2x hbx hbax hfin hcl hclm q1 hclh
                  obtain ⟨hT2, hcr, hcrm⟩ := own_take hO4 (hNh.out.1.trans hNh.out.2.1.symm)
                  obtain ⟨r0, r1, r2, r3, rf⟩ := BoxN.cells hq4
                  simp only at r0 r1 r2 r3
                  have q2 : (N : Int) ≤ (cr : Int) := by omega
                  have hms1h : Hid (ms1.length = m) := by show _ = _; rw [Rds.len hRv]; exact hmvh.out
                  have hy3 : BoxN wy b3 := ⟨_, hq4⟩
                  have hszs : sizes (ts' ++ [Tr.node nk na nS ks]) = sizes ts' + (1 + sizes ks + 0) := sizes_app _ _
                  have hszu : sizes (us' ++ [Tr.node mk ma mS vs]) = sizes us' + (1 + sizes vs + 0) := sizes_app _ _
                  have hmeas : Hid (sizes (ts' ++ ks) < gk) := by show _ < _; rw [← hkh.out, sizes_app]; omega
                  have hE2 : eqK (ts' ++ ks) (us' ++ vs) = EQ := by
                    obtain ⟨_, h1, h2, h3⟩ := hNh.out
                    rw [eqK_app (by omega), ← hEQ]; simp
                  have hl1 : (ns' ++ ns1).length = N + m := by rw [List.length_append, ← hNh.out.1, hns1h.out]
                  have hl2 : (ms' ++ ms1).length = N + m := by rw [List.length_append, hms1h.out, hNh.out.2.1, ← hNh.out.1]
                  have hR3 := Rds.app hr1 hRk
                  have hR4 := Rds.app hr2 hRv
                  have hsA : sizes (ts' ++ ks) ≤ 1000 := by rw [sizes_app]; omega
                  have hsB : sizes (us' ++ vs) ≤ 1000 := by rw [sizes_app]; omega
                  go_upto_region 8 with fail
                  skip
                  · by_cases hm0 : 0 < m
                    · obtain ⟨ad, rfl⟩ := KidsAt.some hK2 (fun h => by have hm := hmvh.out; rw [h] at hm; simp at hm; omega)
                      obtain ⟨hcell, hPa⟩ := hcv ad rfl
                      have hT2h : Hid (wy.drew.ownsRow base 24 4 (.slice (some ⟨gr, 0, none⟩) N cr) N (flatN ms')) := hT2
                      have hnews : Hid (∀ j u, (flatN ms1)[j]? = some u → wy.drew.cell? (ad.add j) = some u) := fun j u hj => by
                        have := hcell j u hj
                        rw [Nat.zero_mul, Nat.zero_add] at this
                        have hlt : (ad.add j).block < w.heap.size := by rw [add_block]; exact hPa (fun h => by have hm := hmvh.out; rw [h] at hm; simp at hm; omega)
                        exact (hby.cell hlt).trans this
                      have hln : Hid ((flatN ms1).length = m * 4) := by show _ = _; rw [flatN_len, hms1h.out]
                      have hm0h : Hid (0 < m) := hm0
                      have h63 : Hid (N + m ≤ maxLen) := by show _ ≤ _; unfold maxLen; omega
                      have hbyt : Hid ((N + m) * 56 ≤ 140737488355328) := by show _ ≤ _; omega
                      have hbh : Hid (base ≤ wy.drew.heap.size) := hbay
                      have happ : Hid (∀ g' c' w5, w5.ownsRow base 24 4 (.slice (some ⟨g', 0, none⟩) (N + m) c') (N + m) (flatN ms' ++ flatN ms1) → wy.drew.grownBy w5 (some gr) → (some gr = some g' ∨ g' = wy.heap.size) → EqAt base b2 b3 w EQ (sizes (ts' ++ ks)) (.slice (some ⟨g1, 0, none⟩) (N + m) c1) (.slice (some ⟨g', 0, none⟩) (N + m) c') w5) := app_two hO3 hg1 (hO4.lt gr rfl).1 hl1 hl2 hR3 hR4 hE2 hsA hsB hy2 hy3 hbb.1 hbb.2 hbw.out hby hbay
                      clear hT2 hcell hO3 hO4 hq4 hRk hRv hcv hck hK1 hK2 hr1 hr2 hEQ hNh hby hbay hy2 hy3 hm0 hPa hE2 hl1 hl2 hR3 hR4 hsA hsB hszs hszu
                      go_region_law (refine step_append_lies _ rfl (.tmp 55) (.tmp 57) 22 rfl base 24 i0 _ 4 56 Try.underlying22 hi hz0 hz1 hz2 (by rfl) (by decide) (.slice (some ⟨gr, 0, none⟩) N cr) N (flatN ms') (by simp [Act.eval]) hT2h.out ad m mC (flatN ms1) (by simp [Act.eval]) hln.out hnews.out (flatN_cell _) hm0h.out h63.out hbyt.out hbh.out wy.heap.size rfl ?_; intro g' c' w5 hO5 hg5 hat hlt5)
                      all_goals
                        go_wp2
                        go_roundg (sizes (ts' ++ ks))
                        case measure => exact hmeas.out
                        case rel => exact happ.out g' c' w5 hO5 hg5 hat
                    · obtain rfl : m = 0 := by omega
                      have hnil : ms1 = [] := List.length_eq_zero_iff.1 hms1h.out
                      have hap : Hid (EqAt base b2 b3 w EQ (sizes (ts' ++ ks)) (.slice (some ⟨g1, 0, none⟩) (N + 0) c1) (.slice (some ⟨gr, 0, none⟩) (N + 0) cr) wy.drew) := eq_of hO3 (by rw [hnil, List.append_nil]; exact hT2) hg1 hl1 hl2 hR3 hR4 hE2 hsA hsB hy2 hy3 hby.drew hbay
                      have hN0 : N ≤ cr := by omega
                      clear hT2 hO3 hO4 hq4 hRk hRv hcv hck hK1 hK2 hr1 hr2 hEQ hNh hby hbay hy2 hy3 hm0 hE2 hl1 hl2 hR3 hR4 hsA hsB hszs hszu hnil hms1h hns1h hmh hmvh hlh
                      cases mx with
                      | none =>
                        go_region
                        all_goals
                          go_wp2
                          go_roundg (sizes (ts' ++ ks))
                          case measure => exact hmeas.out
                          case rel => exact hap.out
                      | some ad =>
                        go_region
                        all_goals
                          go_wp2
                          go_roundg (sizes (ts' ++ ks))
                          case measure => exact hmeas.out
                          case rel => exact hap.out
              · have f3 : ((ks.length : Int) != (vs.length : Int)) = true := by simp; omega
                rw [eqK_len hl] at hEQ
                have hF : Hid (EQ = false) := by rw [← hEQ]; simp [Hid]
                clear hEQ hO1 hO2 hq2 hq3 hK1 hK2 hr1 hr2 hbx hl
                go_wp2
                go_ret
                exact ⟨by rw [hF.out]; rfl, hfin.out⟩
      · have hz : ns = [] := List.length_eq_zero_iff.1 (by omega)
        have hz2 : ms = [] := List.length_eq_zero_iff.1 (by omega)
        subst hz hz2
        have hT : EQ = true := by
          rw [← hE.out]
          cases ts with
          | nil => cases us with
            | nil => rfl
            | cons u us => exact hR2.elim
          | cons t ts => exact hR1.elim
        replace hT : Hid _ := hT
        have hfin : Hid _ := hbel
        clear hE hR1 hR2 hO1 hO2 hbel
        go_wp2
        go_ret
        exact ⟨by rw [hT.out]; rfl, hfin.out⟩
end Go.Proofs.Ytbfklindcmmncaa
