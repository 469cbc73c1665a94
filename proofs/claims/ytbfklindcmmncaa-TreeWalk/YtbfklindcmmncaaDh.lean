/- trees: TreeWalk, given that its opening check answers true. -/
import Derived.Test.YtbfklindcmmncaaDg
import Derived.Test.YtbfklindcmmncaaDe
import Derived.Deep.CutRange
namespace Go.Proofs.Ytbfklindcmmncaa
open Go.RowKit Go.Shelf
attribute [local go_sem ↓] Go.wp_at_zero Go.wp_at_succ
set_option maxRecDepth 20000 in
set_option maxHeartbeats 4000000 in
/-- Cut answers a tree of at most 80 nodes, in new blocks. -/
theorem Cut_fresh (t : Tr) (w : World) (v : Value) (ht : TrV w (fun b => b < w.heap.size) v t) : Calls Try.prog 6 #[v] w fun e w' => ∃ v' t', e = .returned v' ∧ TrV w' (fun b => w.heap.size ≤ b ∧ b < w'.heap.size) v' t' ∧ t'.size ≤ 80 ∧ Below w.heap.size w w' := by
  obtain ⟨k, a, s, x, l, c, rfl⟩ := trv_form ht
  obtain ⟨W, hW⟩ : ∃ W, W = ((w.alloc (.cells #[.int .i64 k, .int .i64 a, .string s, .slice x l c] 24)).alloc (.cells #[.int .i64 0, .int .i64 0, .string ⟨#[]⟩, .slice none 0 0] 24)).alloc (.cells #[.int .i64 80] 3) := ⟨_, rfl⟩
  have hbW : Below w.heap.size w W := by rw [hW]; exact (((Below.refl _ _).alloc (Nat.le_refl _) _).alloc (by simp) _).alloc (by simp; omega) _
  have hsz : W.heap.size = w.heap.size + 1 + 1 + 1 := by rw [hW]; simp
  have hG : GBox W (w.heap.size + 1 + 1) 80 := by
    show W.heap[_]? = _
    rw [hW]
    have := new_at ((w.alloc (.cells #[.int .i64 k, .int .i64 a, .string s, .slice x l c] 24)).alloc (.cells #[.int .i64 0, .int .i64 0, .string ⟨#[]⟩, .slice none 0 0] 24)) (.cells #[.int .i64 80] 3)
    rw [show ((w.alloc (.cells #[.int .i64 k, .int .i64 a, .string s, .slice x l c] 24)).alloc (.cells #[.int .i64 0, .int .i64 0, .string ⟨#[]⟩, .slice none 0 0] 24)).heap.size = w.heap.size + 1 + 1 by simp] at this
    exact this
  have hq1 : W.heap[w.heap.size]? = some (.cells #[.int .i64 k, .int .i64 a, .string s, .slice x l c] 24 (0, 0)) := by
    rw [hW, Below.heap_alloc _ _ _ (by simp; omega), Below.heap_alloc _ _ _ (by simp)]
    exact new_at _ _
  have hx2 : BoxN W (w.heap.size + 1) := by
    refine ⟨⟨0, 0, ⟨#[]⟩, none, 0, 0⟩, ?_⟩
    rw [hW, Below.heap_alloc _ _ _ (by simp)]
    have := new_at (w.alloc (.cells #[.int .i64 k, .int .i64 a, .string s, .slice x l c] 24)) (.cells #[.int .i64 0, .int .i64 0, .string ⟨#[]⟩, .slice none 0 0] 24)
    rw [show (w.alloc (.cells #[.int .i64 k, .int .i64 a, .string s, .slice x l c] 24)).heap.size = w.heap.size + 1 by simp] at this
    exact this
  obtain ⟨p0, p1, p2, p3, pf, pl⟩ := node_cells hq1
  have kS : Hid (Calls Try.prog 18 #[.agg #[.int .i64 k, .int .i64 a, .string s, .slice x l c], .int .i64 1, .pointer (some ⟨w.heap.size + 1 + 1, 0, none⟩)] W fun e w' => SomePost W (w.heap.size + 1 + 1) 80 e w') := some_any 11 t W _ w.heap.size (w.heap.size + 1 + 1) 80 1 (ht.next hbW) (by omega) hG (by decide) (by decide) (by decide) (by decide)
  clear ht hG hq1
  go_enter Try.func6, Try.ntmps6
  go_upto_region 2 with fail
  rw [← hW]
  clear hW
  go_wp2_with fail
  refine Calls.mono kS.out ?_
  rintro e w5 ⟨v5, t5, L5, rfl, hT5, hs5, hG5, hg5⟩
  clear kS
  obtain ⟨z1, z2, z3, z4, z5, z6, rfl⟩ := trv_form hT5
  have hs := hg5.size
  have hx5 : BoxN w5 (w.heap.size + 1) := hx2.same (hg5.block _ (by omega) (by simp))
  obtain ⟨q6, hq6⟩ := hx5
  obtain ⟨o0, o1, o2, o3, of⟩ := BoxN.cells hq6
  have of0 := of 0
  have of1 := of 1
  have of2 := of 2
  have of3 := of 3
  have hB5 : Below w.heap.size w w5 := hbW.grown hg5 hbW.size (by intro k hk; cases hk; omega)
  obtain ⟨W8, hW8⟩ : ∃ W8, W8 = (((w5.setCell ⟨w.heap.size + 1, 0, none⟩ (.int .i64 z1)).setCell ⟨w.heap.size + 1, 1, none⟩ (.int .i64 z2)).setCell ⟨w.heap.size + 1, 2, none⟩ (.string z3)).setCell ⟨w.heap.size + 1, 3, none⟩ (.slice z4 z5 z6) := ⟨_, rfl⟩
  have same : ∀ b, b ≠ w.heap.size + 1 → W8.heap[b]? = w5.heap[b]? := fun b hb => by
    rw [hW8, Below.heap_setCell _ _ _ _ hb, Below.heap_setCell _ _ _ _ hb, Below.heap_setCell _ _ _ _ hb, Below.heap_setCell _ _ _ _ hb]
  have hsz8 : W8.heap.size = w5.heap.size := by rw [hW8]; simp
  have hw1 : w.heap.size ≤ w.heap.size + 1 := by omega
  have hB8 : Below w.heap.size w W8 := by rw [hW8]; exact (((hB5.setCell hw1 _).setCell hw1 _).setCell hw1 _).setCell hw1 _
  have hfin : Hid (TrV W8 (fun b => w.heap.size ≤ b ∧ b < W8.heap.size) (.agg #[.int .i64 z1, .int .i64 z2, .string z3, .slice z4 z5 z6]) t5) := TrV.same (fun p u hp hc => by rw [World.cell?_of_block (same p.block (by omega))]; exact hc) (fun b hb => by rw [hsz8]; exact ⟨by omega, hb.2⟩) hT5
  have j0 : W8.cell? ⟨w.heap.size + 1, 0, none⟩ = some (.int .i64 z1) := by rw [hW8]; simp [go_sem, o0]
  have j1 : W8.cell? ⟨w.heap.size + 1, 1, none⟩ = some (.int .i64 z2) := by rw [hW8]; simp [go_sem, o1]
  have j2 : W8.cell? ⟨w.heap.size + 1, 2, none⟩ = some (.string z3) := by rw [hW8]; simp [go_sem, o2]
  have j3 : W8.cell? ⟨w.heap.size + 1, 3, none⟩ = some (.slice z4 z5 z6) := by rw [hW8]; simp [go_sem, o3]
  clear hT5 hG5 hg5 hq6 of
  go_wp2
  rw [← hW8]
  exact bodyPost_ret (v := .agg #[.int .i64 z1, .int .i64 z2, .string z3, .slice z4 z5 z6]) (by simp [results, Try.results6, go_sem, j0, j1, j2, j3]) rfl ⟨_, _, rfl, hfin.out, by omega, hB8⟩

/-- What is at hand when the visits are listed. -/
def St3 (w : World) (r : Nat) (sx : Option Addr) (sc : Nat) (wx : World) : Prop := ∃ (n' : NC) (t' : Tr) (zs' : List Int) (lo : Nat), wx.heap[r]? = some (.cells #[.int .i64 n'.k, .int .i64 n'.a, .string n'.s, .slice n'.x n'.l n'.c] 24 (0, 0)) ∧ r + 1 < lo ∧ TrV wx (fun b => lo ≤ b ∧ b < wx.heap.size) n'.val t' ∧ t'.size ≤ 80 ∧ Boxed wx (r + 1) 25 (.slice sx zs'.length sc) ∧ RowI wx sx zs' ∧ (∀ ad, sx = some ad → 0 < zs'.length → ad.block < r) ∧ zs'.length ≤ 6 ∧ Below r w wx
theorem RowI.lt {w : World} {sx : Option Addr} {zs : List Int} (h : RowI w sx zs) : ∀ ad, sx = some ad → 0 < zs.length → ad.block < w.heap.size := fun ad e h0 => by
  obtain ⟨ad', e', hc⟩ := h 0 h0
  have := cell_lt hc
  rw [add_block] at this
  have ee : ad' = ad := Option.some.inj (e'.symm.trans e)
  rw [← ee]
  exact this
theorem RowI.keep {w w' : World} {sx : Option Addr} {zs : List Int} (h : RowI w sx zs) (hb : ∀ ad, sx = some ad → 0 < zs.length → w'.heap[ad.block]? = w.heap[ad.block]?) : RowI w' sx zs := fun j hj => by
  obtain ⟨ad, e, hc⟩ := h j hj
  exact ⟨ad, e, (World.cell?_of_block (by rw [add_block]; exact hb ad e (by omega))).trans hc⟩
theorem RowI.take {w : World} {sx : Option Addr} {zs : List Int} (h : RowI w sx zs) (n : Nat) : RowI w sx (zs.take n) := fun j hj => by
  have hj' : j < zs.length := by rw [List.length_take] at hj; omega
  obtain ⟨ad, e, hc⟩ := h j hj'
  exact ⟨ad, e, by rw [List.getElem_take]; exact hc⟩
theorem next_at {xs : List VN} {vs rest : List (Nat × Nat × Tr)} {k : Nat × Nat × Tr} (h : (vs ++ [k]) ++ rest = xs.map VN.key) : ∃ y, xs[vs.length]? = some y ∧ y.key = k := by
  have h1 : (xs.map VN.key)[vs.length]? = some k := by rw [← h]; simp
  rw [List.getElem?_map] at h1
  obtain ⟨y, hy, e⟩ := Option.map_eq_some_iff.1 h1
  exact ⟨y, hy, e⟩
set_option maxRecDepth 20000 in
set_option maxHeartbeats 4000000 in
/-- TreeWalk answers true. -/
theorem law3_any (hbeg : ∀ w : World, Calls Try.prog 5 #[] w fun e w' => e = .returned (.bool true) ∧ Below w.heap.size w w') (t : Tr) (w : World) (n : NC) (sx : Option Addr) (sc : Nat) (zs : List Int) (ht : TrV w (fun b => b < w.heap.size) n.val t) (hz : RowI w sx zs) (hzc : zs.length ≤ sc) (hcm : sc ≤ maxLen) : Calls Try.prog 3 #[n.val, .slice sx zs.length sc] w fun e w' => e = .returned (.bool true) ∧ Below w.heap.size w w' := by
  obtain ⟨W, hW⟩ : ∃ W, W = (w.alloc (.cells #[.int .i64 n.k, .int .i64 n.a, .string n.s, .slice n.x n.l n.c] 24)).alloc (.cells #[.slice sx zs.length sc] 25) := ⟨_, rfl⟩
  have hbW : Below w.heap.size w W := by rw [hW]; exact ((Below.refl _ _).alloc (Nat.le_refl _) _).alloc (by simp) _
  have hsz : W.heap.size = w.heap.size + 1 + 1 := by rw [hW]; simp
  have hq2 : W.heap[w.heap.size]? = some (.cells #[.int .i64 n.k, .int .i64 n.a, .string n.s, .slice n.x n.l n.c] 24 (0, 0)) := by
    rw [hW, Below.heap_alloc _ _ _ (by simp)]; exact new_at _ _
  have hq3 : Boxed W (w.heap.size + 1) 25 (.slice sx zs.length sc) := by
    show W.heap[_]? = _
    have := new_at (w.alloc (.cells #[.int .i64 n.k, .int .i64 n.a, .string n.s, .slice n.x n.l n.c] 24)) (.cells #[.slice sx zs.length sc] 25)
    rw [show (w.alloc (.cells #[.int .i64 n.k, .int .i64 n.a, .string n.s, .slice n.x n.l n.c] 24)).heap.size = w.heap.size + 1 by simp] at this
    rw [hW]
    exact this
  have htW : Hid (TrV W (fun b => b < w.heap.size) n.val t) := ht.next hbW
  have hzh : Hid (RowI w sx zs) := hz
  have hbWh : Hid (Below w.heap.size w W) := hbW
  have hbegh : Hid (∀ w : World, Calls Try.prog 5 #[] w fun e w' => e = .returned (.bool true) ∧ Below w.heap.size w w') := hbeg
  have hcmh : Hid (sc ≤ maxLen) := hcm
  clear hbeg
  rw [show #[n.val, Value.slice sx zs.length sc] = #[Value.agg #[.int .i64 n.k, .int .i64 n.a, .string n.s, .slice n.x n.l n.c], Value.slice sx zs.length sc] from rfl]
  go_enter Try.func3, Try.ntmps3
  go_upto_region 1 with fail
  rw [← hW]
  clear hW ht hz hbW hcm
  obtain ⟨r, hr⟩ : ∃ r, r = w.heap.size := ⟨_, rfl⟩
  have hrh : Hid (r = w.heap.size) := hr
  rw [← hr] at hq2 hq3 hsz htW hbWh ⊢
  clear hr
  go_wp2_with (go_at_call 5; refine Calls.mono (hbegh.out W) ?_; rintro e W1 ⟨rfl, hb1⟩; have hq2' := (hb1.block r (by omega)).trans hq2; obtain ⟨p0, p1, p2, p3, _, _⟩ := node_cells hq2'; have kA : Hid (Calls Try.prog 6 #[.agg #[.int .i64 n.k, .int .i64 n.a, .string n.s, .slice n.x n.l n.c]] W1 _) := Cut_fresh t W1 n.val (TrV.same (fun p u hp hc => by rw [World.cell?_of_block (hb1.block _ (by omega))]; exact hc) (fun b h => by have := hb1.size; omega) htW.out); clear hbegh)
  refine Calls.mono kA.out ?_
  clear kA
  rintro e w5 ⟨v5, t5, rfl, hT5, hs5, hb5⟩
  obtain ⟨z1, z2, z3, z4, z5, z6, rfl⟩ := trv_form hT5
  have hs1 := hb1.size
  have hs5' := hb5.size
  have hq5 := (hb5.block r (by omega)).trans hq2'
  obtain ⟨o0, o1, o2, o3, of, ol⟩ := node_cells hq5
  have of0 := of 0
  have of1 := of 1
  have of2 := of 2
  have of3 := of 3
  obtain ⟨X, hX⟩ : ∃ X, X = (((w5.setCell ⟨r, 0, none⟩ (.int .i64 z1)).setCell ⟨r, 1, none⟩ (.int .i64 z2)).setCell ⟨r, 2, none⟩ (.string z3)).setCell ⟨r, 3, none⟩ (.slice z4 z5 z6) := ⟨_, rfl⟩
  have same : ∀ b, b ≠ r → X.heap[b]? = w5.heap[b]? := fun b hb => by
    rw [hX, Below.heap_setCell _ _ _ _ hb, Below.heap_setCell _ _ _ _ hb, Below.heap_setCell _ _ _ _ hb, Below.heap_setCell _ _ _ _ hb]
  have hsX : X.heap.size = w5.heap.size := by rw [hX]; simp
  have hqX : Hid (X.heap[r]? = some (.cells #[.int .i64 z1, .int .i64 z2, .string z3, .slice z4 z5 z6] 24 (0, 0))) := by
    show _ = _
    rw [hX]
    simp [World.setCell, Array.getElem?_modify, hq5]
  have hbX : Below r w X := by
    have h1 : Below r w w5 := hbWh.out.trans ((hb1.mono (by omega)).trans (hb5.mono (by omega)))
    rw [hX]
    exact (((h1.setCell (Nat.le_refl _) _).setCell (Nat.le_refl _) _).setCell (Nat.le_refl _) _).setCell (Nat.le_refl _) _
  have hTX : Hid (TrV X (fun b => W1.heap.size ≤ b ∧ b < X.heap.size) (NC.val ⟨z1, z2, z3, z4, z5, z6⟩) t5) := TrV.same (fun p u hp hc => by rw [World.cell?_of_block (same _ (by omega))]; exact hc) (fun b hb => by rw [hsX]; exact hb) hT5
  have hx3 : Boxed X (r + 1) 25 (.slice sx zs.length sc) := (same _ (by omega)).trans ((hb5.block _ (by omega)).trans ((hb1.block _ (by omega)).trans hq3))
  have c3 := hx3.cell
  have f3 := hx3.frozen
  have hzlt : Hid (∀ ad, sx = some ad → 0 < zs.length → ad.block < r) := by show ∀ ad, _; rw [hrh.out]; exact RowI.lt hzh.out
  have hzX : RowI X sx zs := RowI.keep hzh.out (fun ad e h0 => hbX.block _ (hzlt.out ad e h0))
  have hlo : Hid (r + 1 < W1.heap.size) := by show _ < _; omega
  have hx3h : Hid (Boxed X (r + 1) 25 (.slice sx zs.length sc)) := hx3
  have hzXh : Hid (RowI X sx zs) := hzX
  have hbXh : Hid (Below r w X) := hbX
  clear hq2 hq3 hq5 hq2' of hT5 hb5 hb1 same hx3 hbX p0 p1 p2 p3 hs1 hs5'
  go_upto_region 3 with fail
  rw [← hX]
  clear hX of0 of1 of2 of3 hsX ol o0 o1 o2 o3
  by_cases h6 : 6 < zs.length
  · have d6 : decide ((zs.length : Int) > 6) = true := decide_eq_true (by omega)
    have i6 : (6 : Int) < (zs.length : Int) := by omega
    obtain ⟨ad, hsx, hc0⟩ := hzX 0 (by omega)
    have hcm2 : (sc : Int) ≤ 9223372036854775807 := by have := hcmh.out; unfold maxLen at this; omega
    have h6c : (6 : Int) ≤ (sc : Int) := by omega
    have hfin : Hid (∀ X2, X2 = X.setCell ⟨r + 1, 0, none⟩ (.slice (some ad) 6 sc) → St3 w r sx sc X2) := by
      intro X2 h2
      have same2 : ∀ b, b ≠ r + 1 → X2.heap[b]? = X.heap[b]? := fun b hb => by rw [h2, Below.heap_setCell _ _ _ _ hb]
      have hl6 : (zs.take 6).length = 6 := by rw [List.length_take]; omega
      have hlo' := hlo.out
      refine ⟨⟨z1, z2, z3, z4, z5, z6⟩, t5, zs.take 6, W1.heap.size, (same2 r (by omega)).trans hqX.out, hlo.out, ?_, hs5, ?_, ?_, ?_, by omega, ?_⟩
      · exact TrV.same (fun p u hp hc => by rw [World.cell?_of_block (same2 _ (by have := hp.1; omega))]; exact hc) (fun b hb => by rw [h2]; simpa using hb) hTX.out
      · rw [hl6, h2, hsx]
        exact hx3h.out.set _
      · exact RowI.keep (RowI.take hzXh.out 6) (fun ad e h0 => same2 _ (by have := hzlt.out ad e (by omega); omega))
      · exact fun ad e _ => hzlt.out ad e (by omega)
      · rw [h2]
        exact hbXh.out.setCell (by show r ≤ r + 1; omega) _
    rw [hsx] at c3
    clear hzX hc0 hsx
    go_upto_region 5 with fail
    obtain ⟨wc, hwc⟩ : ∃ wc, wc = X.setCell ⟨r + 1, 0, none⟩ (.slice (some ad) 6 sc) := ⟨_, rfl⟩
    rw [← hwc]
    have hst := hfin.out wc hwc
    clear hfin hwc c3 f3 h6c i6 d6 h6
    clear hzh hqX hTX hx3h hzXh hbXh hzlt hlo hzc hbWh htW hcmh
    obtain ⟨n', t', zs', lo, hqr, hrlo, hT, hts, hxs, hzr, hzlt, hz6, hbw⟩ := hst
    have hrl : r < wc.heap.size := (Array.getElem?_eq_some_iff.1 hqr).1
    have hr1l : r + 1 < wc.heap.size := hxs.lt
    obtain ⟨X5, hX5⟩ : ∃ X5, X5 = wc.alloc (.cells #[.int .i64 0] 3) := ⟨_, rfl⟩
    have hb5x : Below wc.heap.size wc X5 := by rw [hX5]; exact (Below.refl _ _).alloc (Nat.le_refl _) _
    have hs5x : X5.heap.size = wc.heap.size + 1 := by rw [hX5]; simp
    have hib : Boxed X5 wc.heap.size 3 (.int .i64 ((0 : Nat) : Int)) := by rw [hX5]; exact Boxed.new _ _ _
    have hq5r := (hb5x.block r hrl).trans hqr
    have hx5s : Boxed X5 (r + 1) 25 (.slice sx zs'.length sc) := (hb5x.block _ hr1l).trans hxs
    have hz5 : RowI X5 sx zs' := RowI.keep hzr (fun ad e h0 => hb5x.block _ (by have := hzlt ad e h0; omega))
    have hT5x : TrV X5 (fun b => lo ≤ b ∧ b < wc.heap.size) n'.val t' := TrV.same (fun p u hp hc => by rw [World.cell?_of_block (hb5x.block _ hp.2)]; exact hc) (fun _ h => h) hT
    have kO : Hid (Calls Try.prog 7 #[.agg #[.int .i64 n'.k, .int .i64 n'.a, .string n'.s, .slice n'.x n'.l n'.c], .int .i64 0, .pointer (some ⟨wc.heap.size, 0, none⟩), .slice sx zs'.length sc] X5 _) := over_any t'.size t' (Nat.le_refl _) X5 n' (fun b => lo ≤ b ∧ b < wc.heap.size) 0 wc.heap.size 0 sx sc zs' (fun b hb => ⟨by omega, by omega⟩) hT5x hib hz5 (fun ad e h0 => by have := hzlt ad e h0; omega) hz6 (by omega) (by omega)
    obtain ⟨p0, p1, p2, p3, _, _⟩ := node_cells hq5r
    have c3 := hx5s.cell
    have hq5rh : Hid (X5.heap[r]? = _) := hq5r
    have hx5sh : Hid (Boxed X5 (r + 1) 25 (.slice sx zs'.length sc)) := hx5s
    have hz5h : Hid (RowI X5 sx zs') := hz5
    have hzlth : Hid (∀ ad, sx = some ad → 0 < zs'.length → ad.block < r) := hzlt
    have hT5h : Hid (TrV X5 (fun b => lo ≤ b ∧ b < wc.heap.size) n'.val t') := hT5x
    have hbwh : Hid (Below r w wc) := hbw
    have hb5h : Hid (Below wc.heap.size wc X5) := hb5x
    have hs5h : Hid (X5.heap.size = wc.heap.size + 1) := hs5x
    have hz6h : Hid (zs'.length ≤ 6) := hz6
    have htsh : Hid (t'.size ≤ 80) := hts
    have hloh : Hid (r + 1 < lo) := hrlo
    have hr1h : Hid (r + 1 < wc.heap.size) := hr1l
    clear hqr hT hxs hzr hzlt hz5 hT5x hbw hb5x hs5x hib hq5r hx5s hz6 hts hrlo
    go_upto_region 6 with fail
    rw [← hX5]
    clear hX5
    go_wp2_with fail
    refine Calls.mono kO.out ?_
    clear kO
    rintro e w5 ⟨vr, xs, rfl, hk5, hO5, hT5, hB5, hR5⟩
    have hpos : 0 < xs.length := by
      have := congrArg List.length hk5
      rw [List.length_map] at this
      rw [this]
      exact ovT_pos _ _ _ _
    have hle : xs.length ≤ 1000 := by
      have := congrArg List.length hk5
      rw [List.length_map] at this
      rw [this]
      exact Nat.le_trans (ov_len _ _ _ _) (by have := htsh.out; omega)
    obtain ⟨gl, cl, rfl, hg1, hg2⟩ := hO5.form hpos
    have hs5 := hR5.size
    obtain ⟨w0, hw0⟩ : ∃ w0, w0 = ((w5.alloc (.cells #[.slice (some ⟨gl, 0, none⟩) xs.length cl] 28)).alloc (.cells #[.int .i64 0] 3)).alloc (.cells #[.bool true] 4) := ⟨_, rfl⟩
    have hs0 : w0.heap.size = w5.heap.size + 1 + 1 + 1 := by rw [hw0]; simp
    have hb0 : Below w5.heap.size w5 w0 := by rw [hw0]; exact (((Below.refl _ _).alloc (Nat.le_refl _) _).alloc (by simp) _).alloc (by simp; omega) _
    have hxl : Boxed w0 w5.heap.size 28 (.slice (some ⟨gl, 0, none⟩) xs.length cl) := by rw [hw0]; exact ((Boxed.new _ _ _).alloc _).alloc _
    have hxk : Boxed w0 (w5.heap.size + 1) 3 (.int .i64 0) := by
      have := (Boxed.new (w5.alloc (.cells #[.slice (some ⟨gl, 0, none⟩) xs.length cl] 28)) 3 (.int .i64 0)).alloc (.cells #[.bool true] 4)
      rw [show (w5.alloc (.cells #[.slice (some ⟨gl, 0, none⟩) xs.length cl] 28)).heap.size = w5.heap.size + 1 by simp] at this
      rw [hw0]
      exact this
    have hxf : Boxed w0 (w5.heap.size + 1 + 1) 4 (.bool true) := by
      have := Boxed.new ((w5.alloc (.cells #[.slice (some ⟨gl, 0, none⟩) xs.length cl] 28)).alloc (.cells #[.int .i64 0] 3)) 4 (.bool true)
      rw [show ((w5.alloc (.cells #[.slice (some ⟨gl, 0, none⟩) xs.length cl] 28)).alloc (.cells #[.int .i64 0] 3)).heap.size = w5.heap.size + 1 + 1 by simp] at this
      rw [hw0]
      exact this
    have hX5s := hs5h.out
    have hr1 := hr1h.out
    have same0 : ∀ b, b < wc.heap.size → w0.heap[b]? = X5.heap[b]? := fun b hb => by rw [hb0.block b (by omega), hR5.block b (by omega) (by omega)]
    obtain ⟨ql, hql⟩ : ∃ ql, ql = w5.heap.size := ⟨_, rfl⟩
    obtain ⟨qk, hqk⟩ : ∃ qk, qk = w5.heap.size + 1 := ⟨_, rfl⟩
    obtain ⟨qf, hqf⟩ : ∃ qf, qf = w5.heap.size + 1 + 1 := ⟨_, rfl⟩
    have hqs : Hid (ql = w5.heap.size ∧ qk = w5.heap.size + 1 ∧ qf = w5.heap.size + 1 + 1 ∧ w0.heap.size = w5.heap.size + 1 + 1 + 1 ∧ X5.heap.size ≤ w5.heap.size) := ⟨hql, hqk, hqf, hs0, hs5⟩
    rw [← hqf] at hxf
    rw [← hqk] at hxk
    rw [← hql] at hxl
    have hq0r : w0.heap[r]? = some (.cells #[.int .i64 n'.k, .int .i64 n'.a, .string n'.s, .slice n'.x n'.l n'.c] 24 (0, 0)) := (same0 r (by omega)).trans hq5rh.out
    have hx0s : Boxed w0 (r + 1) 25 (.slice sx zs'.length sc) := (same0 _ hr1).trans hx5sh.out
    have hO0 : w0.ownsRow X5.heap.size 33 6 (.slice (some ⟨gl, 0, none⟩) xs.length cl) xs.length (flatV xs) := own_at hO5 (hb0.block gl hg2)
    have hT0 : ∀ x ∈ xs, TrV w0 (fun b => b < w0.heap.size ∧ b ≠ qk) x.n.val x.t := fun x hx => TrV.same (fun p u hp hc => by rw [World.cell?_of_block (hb0.block _ (by omega))]; exact hc) (fun b hb => ⟨by omega, by omega⟩) (hT5 x hx)
    have hz0 : RowI w0 sx zs' := RowI.keep hz5h.out (fun ad e h0 => same0 _ (by have := hzlth.out ad e h0; omega))
    have hTn : TrV w0 (fun b => lo ≤ b ∧ b < wc.heap.size) n'.val t' := TrV.same (fun p u hp hc => by rw [World.cell?_of_block (same0 _ hp.2)]; exact hc) (fun _ h => h) hT5h.out
    have hwalk : walkV (fun i => !among zs' i) 0 none (pre0 0 t') = xs.map VN.key := (walk_all _ t').trans hk5.symm
    have kW : Hid (Calls Try.prog 8 #[.agg #[.int .i64 n'.k, .int .i64 n'.a, .string n'.s, .slice n'.x n'.l n'.c], .func (.func 9) #[] #[.pointer (some ⟨qk, 0, none⟩), .pointer (some ⟨ql, 0, none⟩), .pointer (some ⟨qf, 0, none⟩), .pointer (some ⟨r + 1, 0, none⟩)]] w0 _) := Walk9_next qk ql qf (r + 1) (fun b => b = qk) (fun i => !among zs' i) (CloJ w0 qk) (fun b => lo ≤ b ∧ b < wc.heap.size) t' w0 n' (fun b hb => ⟨by omega, by omega⟩) (fun b hb => by omega) hTn (by have := htsh.out; omega)
      (fun vs W W' h hw hst => ⟨(hst.block qk (by have := h.1.lt; omega) (.inr rfl)).trans h.1, by have := hst.size; omega, fun b hb hne => (hst.block b (by omega) (.inl hb)).trans (h.2.2 b hb hne)⟩)
      (fun vs i d x t'' W hnx hJ hw hi hd hts ht => clos_any w0 qk ql qf (r + 1) X5.heap.size gl cl xs sx sc zs' hxl (by omega) hx0s (by omega) hO0 (by omega) hT0 hz0 (fun ad e h0 => by have := hzlth.out ad e h0; omega) hz6h.out hle vs i d x t'' W (by obtain ⟨rest, hr⟩ := hnx; rw [hwalk] at hr; exact next_at hr) hJ hts ht)
      ⟨hxk, Nat.le_refl _, fun _ _ _ => rfl⟩
    obtain ⟨p0, p1, p2, p3, _, _⟩ := node_cells hq0r
    have hfr : Hid (∀ (w6 w7 w9 : World), Rnd (fun _ b => b = qk) w0 w6 → Below w6.heap.size w6 w7 → Below w7.heap.size w7 w9 → Below r w w9) := by
      intro w6 w7 w9 h6 h7 h9
      have e1 := hbwh.out
      have e2 := hb5h.out
      have s6 := h6.size
      have s7 := h7.size
      have s9 := h9.size
      have se := e1.size
      exact ⟨h9.os.trans (h7.os.trans (h6.os.trans (hb0.os.trans (hR5.os.trans (e2.os.trans e1.os))))), h9.tape.trans (h7.tape.trans (h6.tape.trans (hb0.tape.trans (hR5.tape.trans (e2.tape.trans e1.tape))))), h9.output.trans (h7.output.trans (h6.output.trans (hb0.output.trans (hR5.output.trans (e2.output.trans e1.output))))), by omega, fun b hb => by rw [h9.block b (by omega), h7.block b (by omega), h6.block b (by omega) (by omega), same0 b (by omega), e2.block b (by omega), e1.block b hb]⟩
    have hall : Hid (∀ (w6 w7 X : World), CloJ w0 qk (walkV (fun i => !among zs' i) 0 none (pre0 0 t')) w6 → Rnd (fun _ b => b = qk) w0 w6 → Below w6.heap.size w6 w7 → Below w7.heap.size w7 X → Boxed X qf 4 (.bool true) ∧ Boxed X qk 3 (.int .i64 (xs.length : Int)) ∧ Boxed X ql 28 (.slice (some ⟨gl, 0, none⟩) xs.length cl) ∧ X.heap[r]? = some (.cells #[.int .i64 n'.k, .int .i64 n'.a, .string n'.s, .slice n'.x n'.l n'.c] 24 (0, 0)) ∧ TrV X (fun b => b < X.heap.size) n'.val t') := by
      intro w6 w7 X hJ h6 h7 hX
      have s6 := h6.size
      have s7 := h7.size
      have sX := hX.size
      have sm : ∀ b, b < w0.heap.size → b ≠ qk → X.heap[b]? = w0.heap[b]? := fun b hb hne => by rw [hX.block b (by omega), h7.block b (by omega), h6.block b hb hne]
      refine ⟨(sm qf (by omega) (by omega)).trans hxf, ?_, (sm ql (by omega) (by omega)).trans hxl, (sm r (by omega) (by omega)).trans hq0r, TrV.same (fun p u hp hc => by rw [World.cell?_of_block (sm _ (by omega) (by omega))]; exact hc) (fun b hb => by omega) hTn⟩
      have := (hX.block qk (by omega)).trans ((h7.block qk (by omega)).trans hJ.1)
      rw [hwalk, List.length_map] at this
      exact this
    have hq0h : Hid (w0.heap[r]? = some (.cells #[.int .i64 n'.k, .int .i64 n'.a, .string n'.s, .slice n'.x n'.l n'.c] 24 (0, 0))) := hq0r
    clear hk5 hO5 hT5 hB5 hR5 hpos hle hg1 hg2 hs5 hs0 hb0 hxl hxk hxf hX5s hr1 same0 hq0r hx0s hO0 hT0 hz0 hTn hwalk
    go_upto_region 9 with fail
    rw [← hw0, ← hqf, ← hqk, ← hql]
    clear hw0 hqf hqk hql
    go_wp2_with fail
    refine Calls.mono kW.out ?_
    clear kW
    rintro e w6 ⟨⟨u6, rfl⟩, hJ6, hR6⟩
    have hJ6h : Hid (CloJ w0 qk (walkV (fun i => !among zs' i) 0 none (pre0 0 t')) w6) := hJ6
    have hR6h : Hid (Rnd (fun _ b => b = qk) w0 w6) := hR6
    have hq6 := (hR6.block r (by have := hqs.out; have := hr1h.out; have := hs5h.out; omega) (by have := hqs.out; have := hr1h.out; have := hs5h.out; omega)).trans hq0h.out
    obtain ⟨v0, v1, v2, v3, _, _⟩ := node_cells hq6
    have kN : Hid (Calls Try.prog 8 #[.agg #[.int .i64 n'.k, .int .i64 n'.a, .string n'.s, .slice n'.x n'.l n'.c], .nilFunc] w6 _) := Walk_nil w6 n'
    clear hJ6 hR6 hq6 p0 p1 p2 p3
    go_wp2_with fail
    refine Calls.mono kN.out ?_
    clear kN
    rintro e w7 ⟨⟨u7, rfl⟩, hb7⟩
    have hb7h : Hid (Below w6.heap.size w6 w7) := hb7
    clear hb7 v0 v1 v2 v3
    have get : ∀ X, Below w7.heap.size w7 X → Boxed X qf 4 (.bool true) ∧ Boxed X qk 3 (.int .i64 (xs.length : Int)) ∧ Boxed X ql 28 (.slice (some ⟨gl, 0, none⟩) xs.length cl) ∧ X.heap[r]? = some (.cells #[.int .i64 n'.k, .int .i64 n'.a, .string n'.s, .slice n'.x n'.l n'.c] 24 (0, 0)) ∧ TrV X (fun b => b < X.heap.size) n'.val t' := fun X hX => hall.out w6 w7 X hJ6h.out hR6h.out hb7h.out hX
    have cF : ∀ X, Below w7.heap.size w7 X → X.cell? ⟨qf, 0, none⟩ = some (.bool true) := fun X hX => Boxed.cell (get X hX).1
    have cK : ∀ X, Below w7.heap.size w7 X → X.cell? ⟨qk, 0, none⟩ = some (.int .i64 (xs.length : Int)) := fun X hX => Boxed.cell (get X hX).2.1
    have cL : ∀ X, Below w7.heap.size w7 X → X.cell? ⟨ql, 0, none⟩ = some (.slice (some ⟨gl, 0, none⟩) xs.length cl) := fun X hX => Boxed.cell (get X hX).2.2.1
    have cN : ∀ X, Below w7.heap.size w7 X → X.cell? ⟨r, 0, none⟩ = some (.int .i64 n'.k) ∧ X.cell? ⟨r, 0 + 1, none⟩ = some (.int .i64 n'.a) ∧ X.cell? ⟨r, 0 + 2, none⟩ = some (.string n'.s) ∧ X.cell? ⟨r, 0 + 3, none⟩ = some (.slice n'.x n'.l n'.c) := fun X hX => by
      obtain ⟨c0, c1, c2, c3, _, _⟩ := node_cells (get X hX).2.2.2.1
      exact ⟨c0, c1, c2, c3⟩
    have thn : ∀ {X X' : World}, Below w7.heap.size w7 X → Below X.heap.size X X' → Below w7.heap.size w7 X' := fun h h' => h.trans (h'.mono h.size)
    have e11 : ∀ X, Below w7.heap.size w7 X → Calls Try.prog 11 #[n'.val] X fun e X' => e = .returned (.int .i64 (t'.size : Int)) ∧ Below w7.heap.size w7 X' := fun X hX => (Count_any t' X n' (get X hX).2.2.2.2 (by have := htsh.out; omega)).mono fun e X' h => ⟨h.1, thn hX h.2⟩
    have e12 : ∀ X, Below w7.heap.size w7 X → Calls Try.prog 12 #[n'.val] X fun e X' => e = .returned (.int .i64 (t'.size : Int)) ∧ Below w7.heap.size w7 X' := fun X hX => (rCount_any t'.size t' (Nat.le_refl _) (by have := htsh.out; omega) X _ n'.val (get X hX).2.2.2.2).mono fun e X' h => ⟨h.1, thn hX h.2⟩
    have e13 : ∀ X, Below w7.heap.size w7 X → Calls Try.prog 13 #[n'.val] X fun e X' => e = .returned (.int .i64 (depT t' : Int)) ∧ Below w7.heap.size w7 X' := fun X hX => (Depth_any t' X n' (get X hX).2.2.2.2 (by have := htsh.out; omega)).mono fun e X' h => ⟨by rw [h.1, dep_pre, Nat.zero_add], thn hX h.2⟩
    have e14 : ∀ X, Below w7.heap.size w7 X → Calls Try.prog 14 #[n'.val] X fun e X' => e = .returned (.int .i64 (depT t' : Int)) ∧ Below w7.heap.size w7 X' := fun X hX => (rDepth_any t'.size t' (Nat.le_refl _) (by have := htsh.out; omega) X _ n'.val (get X hX).2.2.2.2).mono fun e X' h => ⟨h.1, thn hX h.2⟩
    go_upto_region 11 with fail
    refine reg_class (C := fun X => Below w7.heap.size w7 X) (by kernel_rfl) (by kernel_rfl) (Below.refl _ _).drew ?_
    refine BigFrame.wpQuiet_want rfl (fun K hK => BigFrame.quiet_move _ rfl (hK ⟨List.toArray (_ :: _ :: _ :: _ :: _ :: _ :: _ :: _ :: _ :: _ :: _ :: _ :: _ :: _ :: _ :: _ :: _ :: _ :: _ :: _ :: _ :: _ :: _ :: _ :: _ :: _ :: _ :: _ :: _ :: _ :: _ :: _ :: _ :: _ :: _ :: _ :: _ :: _ :: _ :: _ :: _ :: _ :: _ :: _ :: _ :: _ :: _ :: _ :: _ :: _ :: []), _⟩ ?_)); clear hK K
    refine BigFrame.wpQuiet_want rfl (fun K hK => BigFrame.quiet_move _ rfl (hK ⟨List.toArray (_ :: _ :: _ :: _ :: _ :: _ :: _ :: _ :: _ :: _ :: _ :: _ :: _ :: _ :: _ :: _ :: _ :: _ :: _ :: _ :: _ :: _ :: _ :: _ :: _ :: _ :: _ :: _ :: _ :: _ :: _ :: _ :: _ :: _ :: _ :: _ :: _ :: _ :: _ :: _ :: _ :: _ :: _ :: _ :: _ :: _ :: _ :: _ :: _ :: _ :: []), _⟩ ?_)); clear hK K
    refine BigFrame.wpQuiet_want rfl (fun K hK => qs_load 4 9 (.inr (.inr (.inl rfl))) rfl rfl cF (hK ⟨List.toArray (_ :: _ :: _ :: _ :: _ :: _ :: _ :: _ :: _ :: _ :: _ :: _ :: _ :: _ :: _ :: _ :: _ :: _ :: _ :: _ :: _ :: _ :: _ :: _ :: _ :: _ :: _ :: _ :: _ :: _ :: _ :: _ :: _ :: _ :: _ :: _ :: _ :: _ :: _ :: _ :: _ :: _ :: _ :: _ :: _ :: _ :: _ :: _ :: _ :: _ :: []), _⟩ ?_)); clear hK K
    refine BigFrame.wpQuiet_want rfl (fun K hK => qs_pickF 27 28 rfl rfl rfl (hK ⟨List.toArray (_ :: _ :: _ :: _ :: _ :: _ :: _ :: _ :: _ :: _ :: _ :: _ :: _ :: _ :: _ :: _ :: _ :: _ :: _ :: _ :: _ :: _ :: _ :: _ :: _ :: _ :: _ :: _ :: _ :: _ :: _ :: _ :: _ :: _ :: _ :: _ :: _ :: _ :: _ :: _ :: _ :: _ :: _ :: _ :: _ :: _ :: _ :: _ :: _ :: _ :: []), _⟩ ?_)); clear hK K
    refine BigFrame.wpQuiet_want rfl (fun K hK => BigFrame.quiet_move _ rfl (hK ⟨List.toArray (_ :: _ :: _ :: _ :: _ :: _ :: _ :: _ :: _ :: _ :: _ :: _ :: _ :: _ :: _ :: _ :: _ :: _ :: _ :: _ :: _ :: _ :: _ :: _ :: _ :: _ :: _ :: _ :: _ :: _ :: _ :: _ :: _ :: _ :: _ :: _ :: _ :: _ :: _ :: _ :: _ :: _ :: _ :: _ :: _ :: _ :: _ :: _ :: _ :: _ :: []), _⟩ ?_)); clear hK K
    refine BigFrame.wpQuiet_want rfl (fun K hK => qs_load 3 8 (.inl rfl) rfl rfl cK (hK ⟨List.toArray (_ :: _ :: _ :: _ :: _ :: _ :: _ :: _ :: _ :: _ :: _ :: _ :: _ :: _ :: _ :: _ :: _ :: _ :: _ :: _ :: _ :: _ :: _ :: _ :: _ :: _ :: _ :: _ :: _ :: _ :: _ :: _ :: _ :: _ :: _ :: _ :: _ :: _ :: _ :: _ :: _ :: _ :: _ :: _ :: _ :: _ :: _ :: _ :: _ :: _ :: []), _⟩ ?_)); clear hK K
    refine BigFrame.wpQuiet_want rfl (fun K hK => qs_load 28 7 (.inr (.inl rfl)) rfl rfl cL (hK ⟨List.toArray (_ :: _ :: _ :: _ :: _ :: _ :: _ :: _ :: _ :: _ :: _ :: _ :: _ :: _ :: _ :: _ :: _ :: _ :: _ :: _ :: _ :: _ :: _ :: _ :: _ :: _ :: _ :: _ :: _ :: _ :: _ :: _ :: _ :: _ :: _ :: _ :: _ :: _ :: _ :: _ :: _ :: _ :: _ :: _ :: _ :: _ :: _ :: _ :: _ :: _ :: []), _⟩ ?_)); clear hK K
    refine BigFrame.wpQuiet_want rfl (fun K hK => qs_len 32 rfl rfl rfl (hK ⟨List.toArray (_ :: _ :: _ :: _ :: _ :: _ :: _ :: _ :: _ :: _ :: _ :: _ :: _ :: _ :: _ :: _ :: _ :: _ :: _ :: _ :: _ :: _ :: _ :: _ :: _ :: _ :: _ :: _ :: _ :: _ :: _ :: _ :: _ :: _ :: _ :: _ :: _ :: _ :: _ :: _ :: _ :: _ :: _ :: _ :: _ :: _ :: _ :: _ :: _ :: _ :: []), _⟩ ?_)); clear hK K
    refine BigFrame.wpQuiet_want rfl (fun K hK => qs_eql 31 33 rfl rfl rfl (hK ⟨List.toArray (_ :: _ :: _ :: _ :: _ :: _ :: _ :: _ :: _ :: _ :: _ :: _ :: _ :: _ :: _ :: _ :: _ :: _ :: _ :: _ :: _ :: _ :: _ :: _ :: _ :: _ :: _ :: _ :: _ :: _ :: _ :: _ :: _ :: _ :: _ :: _ :: _ :: _ :: _ :: _ :: _ :: _ :: _ :: _ :: _ :: _ :: _ :: _ :: _ :: _ :: []), _⟩ ?_)); clear hK K
    refine BigFrame.wpQuiet_want rfl (fun K hK => qs_pickF 30 34 rfl rfl rfl (hK ⟨List.toArray (_ :: _ :: _ :: _ :: _ :: _ :: _ :: _ :: _ :: _ :: _ :: _ :: _ :: _ :: _ :: _ :: _ :: _ :: _ :: _ :: _ :: _ :: _ :: _ :: _ :: _ :: _ :: _ :: _ :: _ :: _ :: _ :: _ :: _ :: _ :: _ :: _ :: _ :: _ :: _ :: _ :: _ :: _ :: _ :: _ :: _ :: _ :: _ :: _ :: _ :: []), _⟩ ?_)); clear hK K
    refine BigFrame.wpQuiet_want rfl (fun K hK => BigFrame.quiet_move _ rfl (hK ⟨List.toArray (_ :: _ :: _ :: _ :: _ :: _ :: _ :: _ :: _ :: _ :: _ :: _ :: _ :: _ :: _ :: _ :: _ :: _ :: _ :: _ :: _ :: _ :: _ :: _ :: _ :: _ :: _ :: _ :: _ :: _ :: _ :: _ :: _ :: _ :: _ :: _ :: _ :: _ :: _ :: _ :: _ :: _ :: _ :: _ :: _ :: _ :: _ :: _ :: _ :: _ :: []), _⟩ ?_)); clear hK K
    refine BigFrame.wpQuiet_want rfl (fun K hK => qs_node 2 rfl rfl cN (hK ⟨List.toArray (_ :: _ :: _ :: _ :: _ :: _ :: _ :: _ :: _ :: _ :: _ :: _ :: _ :: _ :: _ :: _ :: _ :: _ :: _ :: _ :: _ :: _ :: _ :: _ :: _ :: _ :: _ :: _ :: _ :: _ :: _ :: _ :: _ :: _ :: _ :: _ :: _ :: _ :: _ :: _ :: _ :: _ :: _ :: _ :: _ :: _ :: _ :: _ :: _ :: _ :: []), _⟩ ?_)); clear hK K
    refine BigFrame.wpQuiet_want rfl (fun K hK => qs_call1 11 37 rfl rfl (fun X => by rfl) e11 (hK ⟨List.toArray (_ :: _ :: _ :: _ :: _ :: _ :: _ :: _ :: _ :: _ :: _ :: _ :: _ :: _ :: _ :: _ :: _ :: _ :: _ :: _ :: _ :: _ :: _ :: _ :: _ :: _ :: _ :: _ :: _ :: _ :: _ :: _ :: _ :: _ :: _ :: _ :: _ :: _ :: _ :: _ :: _ :: _ :: _ :: _ :: _ :: _ :: _ :: _ :: _ :: _ :: []), _⟩ ?_)); clear hK K
    refine BigFrame.wpQuiet_want rfl (fun K hK => qs_node 2 rfl rfl cN (hK ⟨List.toArray (_ :: _ :: _ :: _ :: _ :: _ :: _ :: _ :: _ :: _ :: _ :: _ :: _ :: _ :: _ :: _ :: _ :: _ :: _ :: _ :: _ :: _ :: _ :: _ :: _ :: _ :: _ :: _ :: _ :: _ :: _ :: _ :: _ :: _ :: _ :: _ :: _ :: _ :: _ :: _ :: _ :: _ :: _ :: _ :: _ :: _ :: _ :: _ :: _ :: _ :: []), _⟩ ?_)); clear hK K
    refine BigFrame.wpQuiet_want rfl (fun K hK => qs_call1 12 39 rfl rfl (fun X => by rfl) e12 (hK ⟨List.toArray (_ :: _ :: _ :: _ :: _ :: _ :: _ :: _ :: _ :: _ :: _ :: _ :: _ :: _ :: _ :: _ :: _ :: _ :: _ :: _ :: _ :: _ :: _ :: _ :: _ :: _ :: _ :: _ :: _ :: _ :: _ :: _ :: _ :: _ :: _ :: _ :: _ :: _ :: _ :: _ :: _ :: _ :: _ :: _ :: _ :: _ :: _ :: _ :: _ :: _ :: []), _⟩ ?_)); clear hK K
    refine BigFrame.wpQuiet_want rfl (fun K hK => qs_eql 38 40 rfl rfl rfl (hK ⟨List.toArray (_ :: _ :: _ :: _ :: _ :: _ :: _ :: _ :: _ :: _ :: _ :: _ :: _ :: _ :: _ :: _ :: _ :: _ :: _ :: _ :: _ :: _ :: _ :: _ :: _ :: _ :: _ :: _ :: _ :: _ :: _ :: _ :: _ :: _ :: _ :: _ :: _ :: _ :: _ :: _ :: _ :: _ :: _ :: _ :: _ :: _ :: _ :: _ :: _ :: _ :: []), _⟩ ?_)); clear hK K
    refine BigFrame.wpQuiet_want rfl (fun K hK => qs_pickF 36 41 rfl rfl rfl (hK ⟨List.toArray (_ :: _ :: _ :: _ :: _ :: _ :: _ :: _ :: _ :: _ :: _ :: _ :: _ :: _ :: _ :: _ :: _ :: _ :: _ :: _ :: _ :: _ :: _ :: _ :: _ :: _ :: _ :: _ :: _ :: _ :: _ :: _ :: _ :: _ :: _ :: _ :: _ :: _ :: _ :: _ :: _ :: _ :: _ :: _ :: _ :: _ :: _ :: _ :: _ :: _ :: []), _⟩ ?_)); clear hK K
    refine BigFrame.wpQuiet_want rfl (fun K hK => BigFrame.quiet_move _ rfl (hK ⟨List.toArray (_ :: _ :: _ :: _ :: _ :: _ :: _ :: _ :: _ :: _ :: _ :: _ :: _ :: _ :: _ :: _ :: _ :: _ :: _ :: _ :: _ :: _ :: _ :: _ :: _ :: _ :: _ :: _ :: _ :: _ :: _ :: _ :: _ :: _ :: _ :: _ :: _ :: _ :: _ :: _ :: _ :: _ :: _ :: _ :: _ :: _ :: _ :: _ :: _ :: _ :: []), _⟩ ?_)); clear hK K
    refine BigFrame.wpQuiet_want rfl (fun K hK => qs_node 2 rfl rfl cN (hK ⟨List.toArray (_ :: _ :: _ :: _ :: _ :: _ :: _ :: _ :: _ :: _ :: _ :: _ :: _ :: _ :: _ :: _ :: _ :: _ :: _ :: _ :: _ :: _ :: _ :: _ :: _ :: _ :: _ :: _ :: _ :: _ :: _ :: _ :: _ :: _ :: _ :: _ :: _ :: _ :: _ :: _ :: _ :: _ :: _ :: _ :: _ :: _ :: _ :: _ :: _ :: _ :: []), _⟩ ?_)); clear hK K
    refine BigFrame.wpQuiet_want rfl (fun K hK => qs_call1 13 44 rfl rfl (fun X => by rfl) e13 (hK ⟨List.toArray (_ :: _ :: _ :: _ :: _ :: _ :: _ :: _ :: _ :: _ :: _ :: _ :: _ :: _ :: _ :: _ :: _ :: _ :: _ :: _ :: _ :: _ :: _ :: _ :: _ :: _ :: _ :: _ :: _ :: _ :: _ :: _ :: _ :: _ :: _ :: _ :: _ :: _ :: _ :: _ :: _ :: _ :: _ :: _ :: _ :: _ :: _ :: _ :: _ :: _ :: []), _⟩ ?_)); clear hK K
    refine BigFrame.wpQuiet_want rfl (fun K hK => qs_node 2 rfl rfl cN (hK ⟨List.toArray (_ :: _ :: _ :: _ :: _ :: _ :: _ :: _ :: _ :: _ :: _ :: _ :: _ :: _ :: _ :: _ :: _ :: _ :: _ :: _ :: _ :: _ :: _ :: _ :: _ :: _ :: _ :: _ :: _ :: _ :: _ :: _ :: _ :: _ :: _ :: _ :: _ :: _ :: _ :: _ :: _ :: _ :: _ :: _ :: _ :: _ :: _ :: _ :: _ :: _ :: []), _⟩ ?_)); clear hK K
    refine BigFrame.wpQuiet_want rfl (fun K hK => qs_call1 14 46 rfl rfl (fun X => by rfl) e14 (hK ⟨List.toArray (_ :: _ :: _ :: _ :: _ :: _ :: _ :: _ :: _ :: _ :: _ :: _ :: _ :: _ :: _ :: _ :: _ :: _ :: _ :: _ :: _ :: _ :: _ :: _ :: _ :: _ :: _ :: _ :: _ :: _ :: _ :: _ :: _ :: _ :: _ :: _ :: _ :: _ :: _ :: _ :: _ :: _ :: _ :: _ :: _ :: _ :: _ :: _ :: _ :: _ :: []), _⟩ ?_)); clear hK K
    refine BigFrame.wpQuiet_want rfl (fun K hK => qs_eql 45 47 rfl rfl rfl (hK ⟨List.toArray (_ :: _ :: _ :: _ :: _ :: _ :: _ :: _ :: _ :: _ :: _ :: _ :: _ :: _ :: _ :: _ :: _ :: _ :: _ :: _ :: _ :: _ :: _ :: _ :: _ :: _ :: _ :: _ :: _ :: _ :: _ :: _ :: _ :: _ :: _ :: _ :: _ :: _ :: _ :: _ :: _ :: _ :: _ :: _ :: _ :: _ :: _ :: _ :: _ :: _ :: []), _⟩ ?_)); clear hK K
    refine BigFrame.wpQuiet_want rfl (fun K hK => qs_pickF 43 48 rfl rfl rfl (hK ⟨List.toArray (_ :: _ :: _ :: _ :: _ :: _ :: _ :: _ :: _ :: _ :: _ :: _ :: _ :: _ :: _ :: _ :: _ :: _ :: _ :: _ :: _ :: _ :: _ :: _ :: _ :: _ :: _ :: _ :: _ :: _ :: _ :: _ :: _ :: _ :: _ :: _ :: _ :: _ :: _ :: _ :: _ :: _ :: _ :: _ :: _ :: _ :: _ :: _ :: _ :: _ :: []), _⟩ ?_)); clear hK K
    refine BigFrame.wpQuiet_want rfl (fun K hK => BigFrame.quiet_assign _ rfl (hK ⟨List.toArray (_ :: _ :: _ :: _ :: _ :: _ :: _ :: _ :: _ :: _ :: _ :: _ :: _ :: _ :: _ :: _ :: _ :: _ :: _ :: _ :: _ :: _ :: _ :: _ :: _ :: _ :: _ :: _ :: _ :: _ :: _ :: _ :: _ :: _ :: _ :: _ :: _ :: _ :: _ :: _ :: _ :: _ :: _ :: _ :: _ :: _ :: _ :: _ :: _ :: _ :: []), _⟩ ?_)); clear hK K
    refine wpQuiet_nil ?_
    intro w9 h9
    go_wp2
    go_ret
    exact ⟨rfl, by rw [← hrh.out]; exact hfr.out w6 w7 w9 hR6h.out hb7h.out h9⟩
  · have d6 : decide ((zs.length : Int) > 6) = false := decide_eq_false (by omega)
    have i6 : ¬ (6 : Int) < (zs.length : Int) := by omega
    have hst0 : Hid (St3 w r sx sc X) := ⟨⟨z1, z2, z3, z4, z5, z6⟩, t5, zs, W1.heap.size, hqX.out, hlo.out, hTX.out, hs5, hx3h.out, hzXh.out, hzlt.out, by omega, hbXh.out⟩
    clear hzX
    go_upto_region 5 with fail
    obtain ⟨wc, hwc⟩ : ∃ wc, wc = X := ⟨_, rfl⟩
    rw [← hwc]
    have hst : St3 w r sx sc wc := by rw [hwc]; exact hst0.out
    clear hst0 hwc c3 f3 i6 d6 h6
    clear hzh hqX hTX hx3h hzXh hbXh hzlt hlo hzc hbWh htW hcmh
    obtain ⟨n', t', zs', lo, hqr, hrlo, hT, hts, hxs, hzr, hzlt, hz6, hbw⟩ := hst
    have hrl : r < wc.heap.size := (Array.getElem?_eq_some_iff.1 hqr).1
    have hr1l : r + 1 < wc.heap.size := hxs.lt
    obtain ⟨X5, hX5⟩ : ∃ X5, X5 = wc.alloc (.cells #[.int .i64 0] 3) := ⟨_, rfl⟩
    have hb5x : Below wc.heap.size wc X5 := by rw [hX5]; exact (Below.refl _ _).alloc (Nat.le_refl _) _
    have hs5x : X5.heap.size = wc.heap.size + 1 := by rw [hX5]; simp
    have hib : Boxed X5 wc.heap.size 3 (.int .i64 ((0 : Nat) : Int)) := by rw [hX5]; exact Boxed.new _ _ _
    have hq5r := (hb5x.block r hrl).trans hqr
    have hx5s : Boxed X5 (r + 1) 25 (.slice sx zs'.length sc) := (hb5x.block _ hr1l).trans hxs
    have hz5 : RowI X5 sx zs' := RowI.keep hzr (fun ad e h0 => hb5x.block _ (by have := hzlt ad e h0; omega))
    have hT5x : TrV X5 (fun b => lo ≤ b ∧ b < wc.heap.size) n'.val t' := TrV.same (fun p u hp hc => by rw [World.cell?_of_block (hb5x.block _ hp.2)]; exact hc) (fun _ h => h) hT
    have kO : Hid (Calls Try.prog 7 #[.agg #[.int .i64 n'.k, .int .i64 n'.a, .string n'.s, .slice n'.x n'.l n'.c], .int .i64 0, .pointer (some ⟨wc.heap.size, 0, none⟩), .slice sx zs'.length sc] X5 _) := over_any t'.size t' (Nat.le_refl _) X5 n' (fun b => lo ≤ b ∧ b < wc.heap.size) 0 wc.heap.size 0 sx sc zs' (fun b hb => ⟨by omega, by omega⟩) hT5x hib hz5 (fun ad e h0 => by have := hzlt ad e h0; omega) hz6 (by omega) (by omega)
    obtain ⟨p0, p1, p2, p3, _, _⟩ := node_cells hq5r
    have c3 := hx5s.cell
    have hq5rh : Hid (X5.heap[r]? = _) := hq5r
    have hx5sh : Hid (Boxed X5 (r + 1) 25 (.slice sx zs'.length sc)) := hx5s
    have hz5h : Hid (RowI X5 sx zs') := hz5
    have hzlth : Hid (∀ ad, sx = some ad → 0 < zs'.length → ad.block < r) := hzlt
    have hT5h : Hid (TrV X5 (fun b => lo ≤ b ∧ b < wc.heap.size) n'.val t') := hT5x
    have hbwh : Hid (Below r w wc) := hbw
    have hb5h : Hid (Below wc.heap.size wc X5) := hb5x
    have hs5h : Hid (X5.heap.size = wc.heap.size + 1) := hs5x
    have hz6h : Hid (zs'.length ≤ 6) := hz6
    have htsh : Hid (t'.size ≤ 80) := hts
    have hloh : Hid (r + 1 < lo) := hrlo
    have hr1h : Hid (r + 1 < wc.heap.size) := hr1l
    clear hqr hT hxs hzr hzlt hz5 hT5x hbw hb5x hs5x hib hq5r hx5s hz6 hts hrlo
    go_upto_region 6 with fail
    rw [← hX5]
    clear hX5
    go_wp2_with fail
    refine Calls.mono kO.out ?_
    clear kO
    rintro e w5 ⟨vr, xs, rfl, hk5, hO5, hT5, hB5, hR5⟩
    have hpos : 0 < xs.length := by
      have := congrArg List.length hk5
      rw [List.length_map] at this
      rw [this]
      exact ovT_pos _ _ _ _
    have hle : xs.length ≤ 1000 := by
      have := congrArg List.length hk5
      rw [List.length_map] at this
      rw [this]
      exact Nat.le_trans (ov_len _ _ _ _) (by have := htsh.out; omega)
    obtain ⟨gl, cl, rfl, hg1, hg2⟩ := hO5.form hpos
    have hs5 := hR5.size
    obtain ⟨w0, hw0⟩ : ∃ w0, w0 = ((w5.alloc (.cells #[.slice (some ⟨gl, 0, none⟩) xs.length cl] 28)).alloc (.cells #[.int .i64 0] 3)).alloc (.cells #[.bool true] 4) := ⟨_, rfl⟩
    have hs0 : w0.heap.size = w5.heap.size + 1 + 1 + 1 := by rw [hw0]; simp
    have hb0 : Below w5.heap.size w5 w0 := by rw [hw0]; exact (((Below.refl _ _).alloc (Nat.le_refl _) _).alloc (by simp) _).alloc (by simp; omega) _
    have hxl : Boxed w0 w5.heap.size 28 (.slice (some ⟨gl, 0, none⟩) xs.length cl) := by rw [hw0]; exact ((Boxed.new _ _ _).alloc _).alloc _
    have hxk : Boxed w0 (w5.heap.size + 1) 3 (.int .i64 0) := by
      have := (Boxed.new (w5.alloc (.cells #[.slice (some ⟨gl, 0, none⟩) xs.length cl] 28)) 3 (.int .i64 0)).alloc (.cells #[.bool true] 4)
      rw [show (w5.alloc (.cells #[.slice (some ⟨gl, 0, none⟩) xs.length cl] 28)).heap.size = w5.heap.size + 1 by simp] at this
      rw [hw0]
      exact this
    have hxf : Boxed w0 (w5.heap.size + 1 + 1) 4 (.bool true) := by
      have := Boxed.new ((w5.alloc (.cells #[.slice (some ⟨gl, 0, none⟩) xs.length cl] 28)).alloc (.cells #[.int .i64 0] 3)) 4 (.bool true)
      rw [show ((w5.alloc (.cells #[.slice (some ⟨gl, 0, none⟩) xs.length cl] 28)).alloc (.cells #[.int .i64 0] 3)).heap.size = w5.heap.size + 1 + 1 by simp] at this
      rw [hw0]
      exact this
    have hX5s := hs5h.out
    have hr1 := hr1h.out
    have same0 : ∀ b, b < wc.heap.size → w0.heap[b]? = X5.heap[b]? := fun b hb => by rw [hb0.block b (by omega), hR5.block b (by omega) (by omega)]
    obtain ⟨ql, hql⟩ : ∃ ql, ql = w5.heap.size := ⟨_, rfl⟩
    obtain ⟨qk, hqk⟩ : ∃ qk, qk = w5.heap.size + 1 := ⟨_, rfl⟩
    obtain ⟨qf, hqf⟩ : ∃ qf, qf = w5.heap.size + 1 + 1 := ⟨_, rfl⟩
    have hqs : Hid (ql = w5.heap.size ∧ qk = w5.heap.size + 1 ∧ qf = w5.heap.size + 1 + 1 ∧ w0.heap.size = w5.heap.size + 1 + 1 + 1 ∧ X5.heap.size ≤ w5.heap.size) := ⟨hql, hqk, hqf, hs0, hs5⟩
    rw [← hqf] at hxf
    rw [← hqk] at hxk
    rw [← hql] at hxl
    have hq0r : w0.heap[r]? = some (.cells #[.int .i64 n'.k, .int .i64 n'.a, .string n'.s, .slice n'.x n'.l n'.c] 24 (0, 0)) := (same0 r (by omega)).trans hq5rh.out
    have hx0s : Boxed w0 (r + 1) 25 (.slice sx zs'.length sc) := (same0 _ hr1).trans hx5sh.out
    have hO0 : w0.ownsRow X5.heap.size 33 6 (.slice (some ⟨gl, 0, none⟩) xs.length cl) xs.length (flatV xs) := own_at hO5 (hb0.block gl hg2)
    have hT0 : ∀ x ∈ xs, TrV w0 (fun b => b < w0.heap.size ∧ b ≠ qk) x.n.val x.t := fun x hx => TrV.same (fun p u hp hc => by rw [World.cell?_of_block (hb0.block _ (by omega))]; exact hc) (fun b hb => ⟨by omega, by omega⟩) (hT5 x hx)
    have hz0 : RowI w0 sx zs' := RowI.keep hz5h.out (fun ad e h0 => same0 _ (by have := hzlth.out ad e h0; omega))
    have hTn : TrV w0 (fun b => lo ≤ b ∧ b < wc.heap.size) n'.val t' := TrV.same (fun p u hp hc => by rw [World.cell?_of_block (same0 _ hp.2)]; exact hc) (fun _ h => h) hT5h.out
    have hwalk : walkV (fun i => !among zs' i) 0 none (pre0 0 t') = xs.map VN.key := (walk_all _ t').trans hk5.symm
    have kW : Hid (Calls Try.prog 8 #[.agg #[.int .i64 n'.k, .int .i64 n'.a, .string n'.s, .slice n'.x n'.l n'.c], .func (.func 9) #[] #[.pointer (some ⟨qk, 0, none⟩), .pointer (some ⟨ql, 0, none⟩), .pointer (some ⟨qf, 0, none⟩), .pointer (some ⟨r + 1, 0, none⟩)]] w0 _) := Walk9_next qk ql qf (r + 1) (fun b => b = qk) (fun i => !among zs' i) (CloJ w0 qk) (fun b => lo ≤ b ∧ b < wc.heap.size) t' w0 n' (fun b hb => ⟨by omega, by omega⟩) (fun b hb => by omega) hTn (by have := htsh.out; omega)
      (fun vs W W' h hw hst => ⟨(hst.block qk (by have := h.1.lt; omega) (.inr rfl)).trans h.1, by have := hst.size; omega, fun b hb hne => (hst.block b (by omega) (.inl hb)).trans (h.2.2 b hb hne)⟩)
      (fun vs i d x t'' W hnx hJ hw hi hd hts ht => clos_any w0 qk ql qf (r + 1) X5.heap.size gl cl xs sx sc zs' hxl (by omega) hx0s (by omega) hO0 (by omega) hT0 hz0 (fun ad e h0 => by have := hzlth.out ad e h0; omega) hz6h.out hle vs i d x t'' W (by obtain ⟨rest, hr⟩ := hnx; rw [hwalk] at hr; exact next_at hr) hJ hts ht)
      ⟨hxk, Nat.le_refl _, fun _ _ _ => rfl⟩
    obtain ⟨p0, p1, p2, p3, _, _⟩ := node_cells hq0r
    have hfr : Hid (∀ (w6 w7 w9 : World), Rnd (fun _ b => b = qk) w0 w6 → Below w6.heap.size w6 w7 → Below w7.heap.size w7 w9 → Below r w w9) := by
      intro w6 w7 w9 h6 h7 h9
      have e1 := hbwh.out
      have e2 := hb5h.out
      have s6 := h6.size
      have s7 := h7.size
      have s9 := h9.size
      have se := e1.size
      exact ⟨h9.os.trans (h7.os.trans (h6.os.trans (hb0.os.trans (hR5.os.trans (e2.os.trans e1.os))))), h9.tape.trans (h7.tape.trans (h6.tape.trans (hb0.tape.trans (hR5.tape.trans (e2.tape.trans e1.tape))))), h9.output.trans (h7.output.trans (h6.output.trans (hb0.output.trans (hR5.output.trans (e2.output.trans e1.output))))), by omega, fun b hb => by rw [h9.block b (by omega), h7.block b (by omega), h6.block b (by omega) (by omega), same0 b (by omega), e2.block b (by omega), e1.block b hb]⟩
    have hall : Hid (∀ (w6 w7 X : World), CloJ w0 qk (walkV (fun i => !among zs' i) 0 none (pre0 0 t')) w6 → Rnd (fun _ b => b = qk) w0 w6 → Below w6.heap.size w6 w7 → Below w7.heap.size w7 X → Boxed X qf 4 (.bool true) ∧ Boxed X qk 3 (.int .i64 (xs.length : Int)) ∧ Boxed X ql 28 (.slice (some ⟨gl, 0, none⟩) xs.length cl) ∧ X.heap[r]? = some (.cells #[.int .i64 n'.k, .int .i64 n'.a, .string n'.s, .slice n'.x n'.l n'.c] 24 (0, 0)) ∧ TrV X (fun b => b < X.heap.size) n'.val t') := by
      intro w6 w7 X hJ h6 h7 hX
      have s6 := h6.size
      have s7 := h7.size
      have sX := hX.size
      have sm : ∀ b, b < w0.heap.size → b ≠ qk → X.heap[b]? = w0.heap[b]? := fun b hb hne => by rw [hX.block b (by omega), h7.block b (by omega), h6.block b hb hne]
      refine ⟨(sm qf (by omega) (by omega)).trans hxf, ?_, (sm ql (by omega) (by omega)).trans hxl, (sm r (by omega) (by omega)).trans hq0r, TrV.same (fun p u hp hc => by rw [World.cell?_of_block (sm _ (by omega) (by omega))]; exact hc) (fun b hb => by omega) hTn⟩
      have := (hX.block qk (by omega)).trans ((h7.block qk (by omega)).trans hJ.1)
      rw [hwalk, List.length_map] at this
      exact this
    have hq0h : Hid (w0.heap[r]? = some (.cells #[.int .i64 n'.k, .int .i64 n'.a, .string n'.s, .slice n'.x n'.l n'.c] 24 (0, 0))) := hq0r
    clear hk5 hO5 hT5 hB5 hR5 hpos hle hg1 hg2 hs5 hs0 hb0 hxl hxk hxf hX5s hr1 same0 hq0r hx0s hO0 hT0 hz0 hTn hwalk
    go_upto_region 9 with fail
    rw [← hw0, ← hqf, ← hqk, ← hql]
    clear hw0 hqf hqk hql
    go_wp2_with fail
    refine Calls.mono kW.out ?_
    clear kW
    rintro e w6 ⟨⟨u6, rfl⟩, hJ6, hR6⟩
    have hJ6h : Hid (CloJ w0 qk (walkV (fun i => !among zs' i) 0 none (pre0 0 t')) w6) := hJ6
    have hR6h : Hid (Rnd (fun _ b => b = qk) w0 w6) := hR6
    have hq6 := (hR6.block r (by have := hqs.out; have := hr1h.out; have := hs5h.out; omega) (by have := hqs.out; have := hr1h.out; have := hs5h.out; omega)).trans hq0h.out
    obtain ⟨v0, v1, v2, v3, _, _⟩ := node_cells hq6
    have kN : Hid (Calls Try.prog 8 #[.agg #[.int .i64 n'.k, .int .i64 n'.a, .string n'.s, .slice n'.x n'.l n'.c], .nilFunc] w6 _) := Walk_nil w6 n'
    clear hJ6 hR6 hq6 p0 p1 p2 p3
    go_wp2_with fail
    refine Calls.mono kN.out ?_
    clear kN
    rintro e w7 ⟨⟨u7, rfl⟩, hb7⟩
    have hb7h : Hid (Below w6.heap.size w6 w7) := hb7
    clear hb7 v0 v1 v2 v3
    have get : ∀ X, Below w7.heap.size w7 X → Boxed X qf 4 (.bool true) ∧ Boxed X qk 3 (.int .i64 (xs.length : Int)) ∧ Boxed X ql 28 (.slice (some ⟨gl, 0, none⟩) xs.length cl) ∧ X.heap[r]? = some (.cells #[.int .i64 n'.k, .int .i64 n'.a, .string n'.s, .slice n'.x n'.l n'.c] 24 (0, 0)) ∧ TrV X (fun b => b < X.heap.size) n'.val t' := fun X hX => hall.out w6 w7 X hJ6h.out hR6h.out hb7h.out hX
    have cF : ∀ X, Below w7.heap.size w7 X → X.cell? ⟨qf, 0, none⟩ = some (.bool true) := fun X hX => Boxed.cell (get X hX).1
    have cK : ∀ X, Below w7.heap.size w7 X → X.cell? ⟨qk, 0, none⟩ = some (.int .i64 (xs.length : Int)) := fun X hX => Boxed.cell (get X hX).2.1
    have cL : ∀ X, Below w7.heap.size w7 X → X.cell? ⟨ql, 0, none⟩ = some (.slice (some ⟨gl, 0, none⟩) xs.length cl) := fun X hX => Boxed.cell (get X hX).2.2.1
    have cN : ∀ X, Below w7.heap.size w7 X → X.cell? ⟨r, 0, none⟩ = some (.int .i64 n'.k) ∧ X.cell? ⟨r, 0 + 1, none⟩ = some (.int .i64 n'.a) ∧ X.cell? ⟨r, 0 + 2, none⟩ = some (.string n'.s) ∧ X.cell? ⟨r, 0 + 3, none⟩ = some (.slice n'.x n'.l n'.c) := fun X hX => by
      obtain ⟨c0, c1, c2, c3, _, _⟩ := node_cells (get X hX).2.2.2.1
      exact ⟨c0, c1, c2, c3⟩
    have thn : ∀ {X X' : World}, Below w7.heap.size w7 X → Below X.heap.size X X' → Below w7.heap.size w7 X' := fun h h' => h.trans (h'.mono h.size)
    have e11 : ∀ X, Below w7.heap.size w7 X → Calls Try.prog 11 #[n'.val] X fun e X' => e = .returned (.int .i64 (t'.size : Int)) ∧ Below w7.heap.size w7 X' := fun X hX => (Count_any t' X n' (get X hX).2.2.2.2 (by have := htsh.out; omega)).mono fun e X' h => ⟨h.1, thn hX h.2⟩
    have e12 : ∀ X, Below w7.heap.size w7 X → Calls Try.prog 12 #[n'.val] X fun e X' => e = .returned (.int .i64 (t'.size : Int)) ∧ Below w7.heap.size w7 X' := fun X hX => (rCount_any t'.size t' (Nat.le_refl _) (by have := htsh.out; omega) X _ n'.val (get X hX).2.2.2.2).mono fun e X' h => ⟨h.1, thn hX h.2⟩
    have e13 : ∀ X, Below w7.heap.size w7 X → Calls Try.prog 13 #[n'.val] X fun e X' => e = .returned (.int .i64 (depT t' : Int)) ∧ Below w7.heap.size w7 X' := fun X hX => (Depth_any t' X n' (get X hX).2.2.2.2 (by have := htsh.out; omega)).mono fun e X' h => ⟨by rw [h.1, dep_pre, Nat.zero_add], thn hX h.2⟩
    have e14 : ∀ X, Below w7.heap.size w7 X → Calls Try.prog 14 #[n'.val] X fun e X' => e = .returned (.int .i64 (depT t' : Int)) ∧ Below w7.heap.size w7 X' := fun X hX => (rDepth_any t'.size t' (Nat.le_refl _) (by have := htsh.out; omega) X _ n'.val (get X hX).2.2.2.2).mono fun e X' h => ⟨h.1, thn hX h.2⟩
    go_upto_region 11 with fail
    refine reg_class (C := fun X => Below w7.heap.size w7 X) (by kernel_rfl) (by kernel_rfl) (Below.refl _ _).drew ?_
    refine BigFrame.wpQuiet_want rfl (fun K hK => BigFrame.quiet_move _ rfl (hK ⟨List.toArray (_ :: _ :: _ :: _ :: _ :: _ :: _ :: _ :: _ :: _ :: _ :: _ :: _ :: _ :: _ :: _ :: _ :: _ :: _ :: _ :: _ :: _ :: _ :: _ :: _ :: _ :: _ :: _ :: _ :: _ :: _ :: _ :: _ :: _ :: _ :: _ :: _ :: _ :: _ :: _ :: _ :: _ :: _ :: _ :: _ :: _ :: _ :: _ :: _ :: _ :: []), _⟩ ?_)); clear hK K
    refine BigFrame.wpQuiet_want rfl (fun K hK => BigFrame.quiet_move _ rfl (hK ⟨List.toArray (_ :: _ :: _ :: _ :: _ :: _ :: _ :: _ :: _ :: _ :: _ :: _ :: _ :: _ :: _ :: _ :: _ :: _ :: _ :: _ :: _ :: _ :: _ :: _ :: _ :: _ :: _ :: _ :: _ :: _ :: _ :: _ :: _ :: _ :: _ :: _ :: _ :: _ :: _ :: _ :: _ :: _ :: _ :: _ :: _ :: _ :: _ :: _ :: _ :: _ :: []), _⟩ ?_)); clear hK K
    refine BigFrame.wpQuiet_want rfl (fun K hK => qs_load 4 9 (.inr (.inr (.inl rfl))) rfl rfl cF (hK ⟨List.toArray (_ :: _ :: _ :: _ :: _ :: _ :: _ :: _ :: _ :: _ :: _ :: _ :: _ :: _ :: _ :: _ :: _ :: _ :: _ :: _ :: _ :: _ :: _ :: _ :: _ :: _ :: _ :: _ :: _ :: _ :: _ :: _ :: _ :: _ :: _ :: _ :: _ :: _ :: _ :: _ :: _ :: _ :: _ :: _ :: _ :: _ :: _ :: _ :: _ :: _ :: []), _⟩ ?_)); clear hK K
    refine BigFrame.wpQuiet_want rfl (fun K hK => qs_pickF 27 28 rfl rfl rfl (hK ⟨List.toArray (_ :: _ :: _ :: _ :: _ :: _ :: _ :: _ :: _ :: _ :: _ :: _ :: _ :: _ :: _ :: _ :: _ :: _ :: _ :: _ :: _ :: _ :: _ :: _ :: _ :: _ :: _ :: _ :: _ :: _ :: _ :: _ :: _ :: _ :: _ :: _ :: _ :: _ :: _ :: _ :: _ :: _ :: _ :: _ :: _ :: _ :: _ :: _ :: _ :: _ :: []), _⟩ ?_)); clear hK K
    refine BigFrame.wpQuiet_want rfl (fun K hK => BigFrame.quiet_move _ rfl (hK ⟨List.toArray (_ :: _ :: _ :: _ :: _ :: _ :: _ :: _ :: _ :: _ :: _ :: _ :: _ :: _ :: _ :: _ :: _ :: _ :: _ :: _ :: _ :: _ :: _ :: _ :: _ :: _ :: _ :: _ :: _ :: _ :: _ :: _ :: _ :: _ :: _ :: _ :: _ :: _ :: _ :: _ :: _ :: _ :: _ :: _ :: _ :: _ :: _ :: _ :: _ :: _ :: []), _⟩ ?_)); clear hK K
    refine BigFrame.wpQuiet_want rfl (fun K hK => qs_load 3 8 (.inl rfl) rfl rfl cK (hK ⟨List.toArray (_ :: _ :: _ :: _ :: _ :: _ :: _ :: _ :: _ :: _ :: _ :: _ :: _ :: _ :: _ :: _ :: _ :: _ :: _ :: _ :: _ :: _ :: _ :: _ :: _ :: _ :: _ :: _ :: _ :: _ :: _ :: _ :: _ :: _ :: _ :: _ :: _ :: _ :: _ :: _ :: _ :: _ :: _ :: _ :: _ :: _ :: _ :: _ :: _ :: _ :: []), _⟩ ?_)); clear hK K
    refine BigFrame.wpQuiet_want rfl (fun K hK => qs_load 28 7 (.inr (.inl rfl)) rfl rfl cL (hK ⟨List.toArray (_ :: _ :: _ :: _ :: _ :: _ :: _ :: _ :: _ :: _ :: _ :: _ :: _ :: _ :: _ :: _ :: _ :: _ :: _ :: _ :: _ :: _ :: _ :: _ :: _ :: _ :: _ :: _ :: _ :: _ :: _ :: _ :: _ :: _ :: _ :: _ :: _ :: _ :: _ :: _ :: _ :: _ :: _ :: _ :: _ :: _ :: _ :: _ :: _ :: _ :: []), _⟩ ?_)); clear hK K
    refine BigFrame.wpQuiet_want rfl (fun K hK => qs_len 32 rfl rfl rfl (hK ⟨List.toArray (_ :: _ :: _ :: _ :: _ :: _ :: _ :: _ :: _ :: _ :: _ :: _ :: _ :: _ :: _ :: _ :: _ :: _ :: _ :: _ :: _ :: _ :: _ :: _ :: _ :: _ :: _ :: _ :: _ :: _ :: _ :: _ :: _ :: _ :: _ :: _ :: _ :: _ :: _ :: _ :: _ :: _ :: _ :: _ :: _ :: _ :: _ :: _ :: _ :: _ :: []), _⟩ ?_)); clear hK K
    refine BigFrame.wpQuiet_want rfl (fun K hK => qs_eql 31 33 rfl rfl rfl (hK ⟨List.toArray (_ :: _ :: _ :: _ :: _ :: _ :: _ :: _ :: _ :: _ :: _ :: _ :: _ :: _ :: _ :: _ :: _ :: _ :: _ :: _ :: _ :: _ :: _ :: _ :: _ :: _ :: _ :: _ :: _ :: _ :: _ :: _ :: _ :: _ :: _ :: _ :: _ :: _ :: _ :: _ :: _ :: _ :: _ :: _ :: _ :: _ :: _ :: _ :: _ :: _ :: []), _⟩ ?_)); clear hK K
    refine BigFrame.wpQuiet_want rfl (fun K hK => qs_pickF 30 34 rfl rfl rfl (hK ⟨List.toArray (_ :: _ :: _ :: _ :: _ :: _ :: _ :: _ :: _ :: _ :: _ :: _ :: _ :: _ :: _ :: _ :: _ :: _ :: _ :: _ :: _ :: _ :: _ :: _ :: _ :: _ :: _ :: _ :: _ :: _ :: _ :: _ :: _ :: _ :: _ :: _ :: _ :: _ :: _ :: _ :: _ :: _ :: _ :: _ :: _ :: _ :: _ :: _ :: _ :: _ :: []), _⟩ ?_)); clear hK K
    refine BigFrame.wpQuiet_want rfl (fun K hK => BigFrame.quiet_move _ rfl (hK ⟨List.toArray (_ :: _ :: _ :: _ :: _ :: _ :: _ :: _ :: _ :: _ :: _ :: _ :: _ :: _ :: _ :: _ :: _ :: _ :: _ :: _ :: _ :: _ :: _ :: _ :: _ :: _ :: _ :: _ :: _ :: _ :: _ :: _ :: _ :: _ :: _ :: _ :: _ :: _ :: _ :: _ :: _ :: _ :: _ :: _ :: _ :: _ :: _ :: _ :: _ :: _ :: []), _⟩ ?_)); clear hK K
    refine BigFrame.wpQuiet_want rfl (fun K hK => qs_node 2 rfl rfl cN (hK ⟨List.toArray (_ :: _ :: _ :: _ :: _ :: _ :: _ :: _ :: _ :: _ :: _ :: _ :: _ :: _ :: _ :: _ :: _ :: _ :: _ :: _ :: _ :: _ :: _ :: _ :: _ :: _ :: _ :: _ :: _ :: _ :: _ :: _ :: _ :: _ :: _ :: _ :: _ :: _ :: _ :: _ :: _ :: _ :: _ :: _ :: _ :: _ :: _ :: _ :: _ :: _ :: []), _⟩ ?_)); clear hK K
    refine BigFrame.wpQuiet_want rfl (fun K hK => qs_call1 11 37 rfl rfl (fun X => by rfl) e11 (hK ⟨List.toArray (_ :: _ :: _ :: _ :: _ :: _ :: _ :: _ :: _ :: _ :: _ :: _ :: _ :: _ :: _ :: _ :: _ :: _ :: _ :: _ :: _ :: _ :: _ :: _ :: _ :: _ :: _ :: _ :: _ :: _ :: _ :: _ :: _ :: _ :: _ :: _ :: _ :: _ :: _ :: _ :: _ :: _ :: _ :: _ :: _ :: _ :: _ :: _ :: _ :: _ :: []), _⟩ ?_)); clear hK K
    refine BigFrame.wpQuiet_want rfl (fun K hK => qs_node 2 rfl rfl cN (hK ⟨List.toArray (_ :: _ :: _ :: _ :: _ :: _ :: _ :: _ :: _ :: _ :: _ :: _ :: _ :: _ :: _ :: _ :: _ :: _ :: _ :: _ :: _ :: _ :: _ :: _ :: _ :: _ :: _ :: _ :: _ :: _ :: _ :: _ :: _ :: _ :: _ :: _ :: _ :: _ :: _ :: _ :: _ :: _ :: _ :: _ :: _ :: _ :: _ :: _ :: _ :: _ :: []), _⟩ ?_)); clear hK K
    refine BigFrame.wpQuiet_want rfl (fun K hK => qs_call1 12 39 rfl rfl (fun X => by rfl) e12 (hK ⟨List.toArray (_ :: _ :: _ :: _ :: _ :: _ :: _ :: _ :: _ :: _ :: _ :: _ :: _ :: _ :: _ :: _ :: _ :: _ :: _ :: _ :: _ :: _ :: _ :: _ :: _ :: _ :: _ :: _ :: _ :: _ :: _ :: _ :: _ :: _ :: _ :: _ :: _ :: _ :: _ :: _ :: _ :: _ :: _ :: _ :: _ :: _ :: _ :: _ :: _ :: _ :: []), _⟩ ?_)); clear hK K
    refine BigFrame.wpQuiet_want rfl (fun K hK => qs_eql 38 40 rfl rfl rfl (hK ⟨List.toArray (_ :: _ :: _ :: _ :: _ :: _ :: _ :: _ :: _ :: _ :: _ :: _ :: _ :: _ :: _ :: _ :: _ :: _ :: _ :: _ :: _ :: _ :: _ :: _ :: _ :: _ :: _ :: _ :: _ :: _ :: _ :: _ :: _ :: _ :: _ :: _ :: _ :: _ :: _ :: _ :: _ :: _ :: _ :: _ :: _ :: _ :: _ :: _ :: _ :: _ :: []), _⟩ ?_)); clear hK K
    refine BigFrame.wpQuiet_want rfl (fun K hK => qs_pickF 36 41 rfl rfl rfl (hK ⟨List.toArray (_ :: _ :: _ :: _ :: _ :: _ :: _ :: _ :: _ :: _ :: _ :: _ :: _ :: _ :: _ :: _ :: _ :: _ :: _ :: _ :: _ :: _ :: _ :: _ :: _ :: _ :: _ :: _ :: _ :: _ :: _ :: _ :: _ :: _ :: _ :: _ :: _ :: _ :: _ :: _ :: _ :: _ :: _ :: _ :: _ :: _ :: _ :: _ :: _ :: _ :: []), _⟩ ?_)); clear hK K
    refine BigFrame.wpQuiet_want rfl (fun K hK => BigFrame.quiet_move _ rfl (hK ⟨List.toArray (_ :: _ :: _ :: _ :: _ :: _ :: _ :: _ :: _ :: _ :: _ :: _ :: _ :: _ :: _ :: _ :: _ :: _ :: _ :: _ :: _ :: _ :: _ :: _ :: _ :: _ :: _ :: _ :: _ :: _ :: _ :: _ :: _ :: _ :: _ :: _ :: _ :: _ :: _ :: _ :: _ :: _ :: _ :: _ :: _ :: _ :: _ :: _ :: _ :: _ :: []), _⟩ ?_)); clear hK K
    refine BigFrame.wpQuiet_want rfl (fun K hK => qs_node 2 rfl rfl cN (hK ⟨List.toArray (_ :: _ :: _ :: _ :: _ :: _ :: _ :: _ :: _ :: _ :: _ :: _ :: _ :: _ :: _ :: _ :: _ :: _ :: _ :: _ :: _ :: _ :: _ :: _ :: _ :: _ :: _ :: _ :: _ :: _ :: _ :: _ :: _ :: _ :: _ :: _ :: _ :: _ :: _ :: _ :: _ :: _ :: _ :: _ :: _ :: _ :: _ :: _ :: _ :: _ :: []), _⟩ ?_)); clear hK K
    refine BigFrame.wpQuiet_want rfl (fun K hK => qs_call1 13 44 rfl rfl (fun X => by rfl) e13 (hK ⟨List.toArray (_ :: _ :: _ :: _ :: _ :: _ :: _ :: _ :: _ :: _ :: _ :: _ :: _ :: _ :: _ :: _ :: _ :: _ :: _ :: _ :: _ :: _ :: _ :: _ :: _ :: _ :: _ :: _ :: _ :: _ :: _ :: _ :: _ :: _ :: _ :: _ :: _ :: _ :: _ :: _ :: _ :: _ :: _ :: _ :: _ :: _ :: _ :: _ :: _ :: _ :: []), _⟩ ?_)); clear hK K
    refine BigFrame.wpQuiet_want rfl (fun K hK => qs_node 2 rfl rfl cN (hK ⟨List.toArray (_ :: _ :: _ :: _ :: _ :: _ :: _ :: _ :: _ :: _ :: _ :: _ :: _ :: _ :: _ :: _ :: _ :: _ :: _ :: _ :: _ :: _ :: _ :: _ :: _ :: _ :: _ :: _ :: _ :: _ :: _ :: _ :: _ :: _ :: _ :: _ :: _ :: _ :: _ :: _ :: _ :: _ :: _ :: _ :: _ :: _ :: _ :: _ :: _ :: _ :: []), _⟩ ?_)); clear hK K
    refine BigFrame.wpQuiet_want rfl (fun K hK => qs_call1 14 46 rfl rfl (fun X => by rfl) e14 (hK ⟨List.toArray (_ :: _ :: _ :: _ :: _ :: _ :: _ :: _ :: _ :: _ :: _ :: _ :: _ :: _ :: _ :: _ :: _ :: _ :: _ :: _ :: _ :: _ :: _ :: _ :: _ :: _ :: _ :: _ :: _ :: _ :: _ :: _ :: _ :: _ :: _ :: _ :: _ :: _ :: _ :: _ :: _ :: _ :: _ :: _ :: _ :: _ :: _ :: _ :: _ :: _ :: []), _⟩ ?_)); clear hK K
    refine BigFrame.wpQuiet_want rfl (fun K hK => qs_eql 45 47 rfl rfl rfl (hK ⟨List.toArray (_ :: _ :: _ :: _ :: _ :: _ :: _ :: _ :: _ :: _ :: _ :: _ :: _ :: _ :: _ :: _ :: _ :: _ :: _ :: _ :: _ :: _ :: _ :: _ :: _ :: _ :: _ :: _ :: _ :: _ :: _ :: _ :: _ :: _ :: _ :: _ :: _ :: _ :: _ :: _ :: _ :: _ :: _ :: _ :: _ :: _ :: _ :: _ :: _ :: _ :: []), _⟩ ?_)); clear hK K
    refine BigFrame.wpQuiet_want rfl (fun K hK => qs_pickF 43 48 rfl rfl rfl (hK ⟨List.toArray (_ :: _ :: _ :: _ :: _ :: _ :: _ :: _ :: _ :: _ :: _ :: _ :: _ :: _ :: _ :: _ :: _ :: _ :: _ :: _ :: _ :: _ :: _ :: _ :: _ :: _ :: _ :: _ :: _ :: _ :: _ :: _ :: _ :: _ :: _ :: _ :: _ :: _ :: _ :: _ :: _ :: _ :: _ :: _ :: _ :: _ :: _ :: _ :: _ :: _ :: []), _⟩ ?_)); clear hK K
    refine BigFrame.wpQuiet_want rfl (fun K hK => BigFrame.quiet_assign _ rfl (hK ⟨List.toArray (_ :: _ :: _ :: _ :: _ :: _ :: _ :: _ :: _ :: _ :: _ :: _ :: _ :: _ :: _ :: _ :: _ :: _ :: _ :: _ :: _ :: _ :: _ :: _ :: _ :: _ :: _ :: _ :: _ :: _ :: _ :: _ :: _ :: _ :: _ :: _ :: _ :: _ :: _ :: _ :: _ :: _ :: _ :: _ :: _ :: _ :: _ :: _ :: _ :: _ :: []), _⟩ ?_)); clear hK K
    refine wpQuiet_nil ?_
    intro w9 h9
    go_wp2
    go_ret
    exact ⟨rfl, by rw [← hrh.out]; exact hfr.out w6 w7 w9 hR6h.out hb7h.out h9⟩
end Go.Proofs.Ytbfklindcmmncaa
