/- constants: the second road adds and divides numbers. -/
import Derived.Test.YtclokcoimdjaeaaGreatDoorZd
import Derived.Deep.RegionWith
namespace Go.Proofs.YtclokcoimdjaeaaGreatDoor
open Go.RowKit
attribute [local go_sem ↓] Go.wp_at_zero Go.wp_at_succ
/-- A store where no number lies leaves all rows. -/
theorem Row.setNon {w : World} {k : IntKind} {B : Int} {a : Option Addr} {cap : Nat} {ds : List Int} (h : Row w k B a cap ds) {p : Addr} {v : Value} (hc : w.cell? p = some v) (hn : notInt v) (u : Value) : Row (w.setCell p u) k B a cap ds := by
  refine ⟨h.le, h.max, h.nil, fun x hx i hi => ?_, h.words⟩
  have h1 := h.cell x hx i hi
  by_cases e : p = x.add i
  · exfalso
    rw [← e, hc] at h1
    exact hn _ _ (Option.some.inj h1)
  · rw [World.cell?_setCell_other _ _ _ _ e]
    exact h1
theorem RatR.setNon {w : World} {v : Value} {p q : Int} {m : Nat} (h : RatR w v p q m) {x : Addr} {y : Value} (hc : w.cell? x = some y) (hn : notInt y) (u : Value) : RatR (w.setCell x u) v p q m := by
  obtain ⟨n1, a1, l1, c1, n2, a2, l2, c2, e, ⟨x1, x2, x3, x4, e1, r1, y1⟩, ⟨z1, z2, z3, z4, e2, r2, y2⟩⟩ := h
  exact ⟨n1, a1, l1, c1, n2, a2, l2, c2, e, ⟨x1, x2, x3, x4, e1, r1.setNon hc hn u, y1⟩, ⟨z1, z2, z3, z4, e2, r2.setNon hc hn u, y2⟩⟩
/-- A box's fraction put anew. -/
theorem RatR.set4 {w : World} {v : Value} {p q : Int} {m : Nat} (h : RatR w v p q m) {b T : Nat} {u0 u1 u2 : Value} {m1 : Bool} {b1 : Option Addr} {k1 d1 : Nat} {m2 : Bool} {b2 : Option Addr} {k2 d2 : Nat} (hq : w.heap[b]? = some (.cells #[u0, u1, u2, .bool m1, .slice b1 k1 d1, .bool m2, .slice b2 k2 d2] T (0, 0))) (v3 v4 v5 v6 : Value) : RatR ((((w.setCell ⟨b, 3, none⟩ v3).setCell ⟨b, 4, none⟩ v4).setCell ⟨b, 5, none⟩ v5).setCell ⟨b, 6, none⟩ v6) v p q m := by
  obtain ⟨⟨_, _, _, h3, h4, h5, h6⟩, _, _⟩ := cells7 hq
  have o1 : ∀ (x y : Nat), x ≠ y → (⟨b, x, none⟩ : Addr) ≠ ⟨b, y, none⟩ := fun x y hne e => hne (by injection e)
  refine (((h.setNon h3 (notInt_bool _) v3).setNon (x := ⟨b, 4, none⟩) ?_ (notInt_slice b1 k1 d1) v4).setNon (x := ⟨b, 5, none⟩) ?_ (notInt_bool m2) v5).setNon (x := ⟨b, 6, none⟩) ?_ (notInt_slice b2 k2 d2) v6
  · rw [World.cell?_setCell_other _ _ _ _ (o1 _ _ (by decide))]; exact h4
  · rw [World.cell?_setCell_other _ _ _ _ (o1 _ _ (by decide)), World.cell?_setCell_other _ _ _ _ (o1 _ _ (by decide))]; exact h5
  · rw [World.cell?_setCell_other _ _ _ _ (o1 _ _ (by decide)), World.cell?_setCell_other _ _ _ _ (o1 _ _ (by decide)), World.cell?_setCell_other _ _ _ _ (o1 _ _ (by decide))]; exact h6
theorem low_simple {x y p q : Int} (hy : 0 < y) (h : Low (pN x y) (pD y) p q) : Low x y p q := by
  rw [pN_pos hy, pD_of hy] at h
  exact h
end Go.Proofs.YtclokcoimdjaeaaGreatDoor
namespace Go.Proofs.YtclokcoimdjaeaaGreatDoor
open Go.RowKit
attribute [local go_sem ↓] Go.wp_at_zero Go.wp_at_succ
theorem Frac.set4 {w : World} {v : Value} {n d : Int} {m : Nat} (h : Frac w v n d m) {b T : Nat} {u0 u1 u2 : Value} {m1 : Bool} {b1 : Option Addr} {k1 d1 : Nat} {m2 : Bool} {b2 : Option Addr} {k2 d2 : Nat} (hq : w.heap[b]? = some (.cells #[u0, u1, u2, .bool m1, .slice b1 k1 d1, .bool m2, .slice b2 k2 d2] T (0, 0))) (v3 v4 v5 v6 : Value) : Frac ((((w.setCell ⟨b, 3, none⟩ v3).setCell ⟨b, 4, none⟩ v4).setCell ⟨b, 5, none⟩ v5).setCell ⟨b, 6, none⟩ v6) v n d m := by
  obtain ⟨⟨_, _, _, h3, h4, h5, h6⟩, _, _⟩ := cells7 hq
  have o1 : ∀ (x y : Nat), x ≠ y → (⟨b, x, none⟩ : Addr) ≠ ⟨b, y, none⟩ := fun x y hne e => hne (by injection e)
  have key : ∀ {k : IntKind} {B : Int} {a : Option Addr} {cap : Nat} {ds : List Int}, Row w k B a cap ds → Row ((((w.setCell ⟨b, 3, none⟩ v3).setCell ⟨b, 4, none⟩ v4).setCell ⟨b, 5, none⟩ v5).setCell ⟨b, 6, none⟩ v6) k B a cap ds := by
    intro k B a cap ds hr
    refine (((hr.setNon h3 (notInt_bool _) v3).setNon (p := ⟨b, 4, none⟩) ?_ (notInt_slice b1 k1 d1) v4).setNon (p := ⟨b, 5, none⟩) ?_ (notInt_bool m2) v5).setNon (p := ⟨b, 6, none⟩) ?_ (notInt_slice b2 k2 d2) v6
    · rw [World.cell?_setCell_other _ _ _ _ (o1 _ _ (by decide))]; exact h4
    · rw [World.cell?_setCell_other _ _ _ _ (o1 _ _ (by decide)), World.cell?_setCell_other _ _ _ _ (o1 _ _ (by decide))]; exact h5
    · rw [World.cell?_setCell_other _ _ _ _ (o1 _ _ (by decide)), World.cell?_setCell_other _ _ _ _ (o1 _ _ (by decide)), World.cell?_setCell_other _ _ _ _ (o1 _ _ (by decide))]; exact h6
  obtain ⟨_, _, _, _, _, _, _, _, ev, ⟨x1, x2, x3, x4, e1, r1, y1⟩, ⟨z1, z2, z3, z4, e2, r2, y2⟩⟩ := h
  exact ⟨_, _, _, _, _, _, _, _, ev, ⟨x1, x2, x3, x4, e1, key r1, y1⟩, ⟨z1, z2, z3, z4, e2, key r2, y2⟩⟩
set_option maxRecDepth 20000 in
set_option maxHeartbeats 2000000 in
theorem To30_num {w : World} {u : Value} {k p q : Int} {m : Nat} (hu : CRn w u k p q m) (hm : m ≤ 1000) (hk : k = 3 ∨ k = 4) :
    Calls Tryz.prog 30 #[u] w fun e w' => ∃ t, e = .returned t ∧ CNum w' t k p q m ∧ Below w.heap.size w w' := by
  obtain ⟨m1, b1, k1, d1, n1, a1, l1, c1, rfl, hR1⟩ := hu
  obtain ⟨W, hW, hqa, hqb, hbW, hsz⟩ := two_new (w := w) (A := .cells #[.int .i64 k, .bool false, .string ⟨#[]⟩, .bool m1, .slice b1 k1 d1, .bool n1, .slice a1 l1 c1] 42) (B := .cells #[.int .i64 0, .bool false, .string ⟨#[]⟩, .bool false, .slice none 0 0, .bool false, .slice none 0 0] 32)
  obtain ⟨⟨p0, p1, p2, p3, p4, p5, p6⟩, _, _⟩ := cells7 hqa
  obtain ⟨W2, hW2⟩ : ∃ W2, W2 = W.alloc (.cells #[.int .i64 k, .bool false, .string ⟨#[]⟩, .bool false, .slice none 0 0, .bool false, .slice none 0 0] 32) := ⟨_, rfl⟩
  have hb2 : Below W.heap.size W W2 := by rw [hW2]; exact (Below.refl _ _).alloc (Nat.le_refl _) _
  have q2' : Hid (W2.heap[W.heap.size]? = some (.cells #[.int .i64 k, .bool false, .string ⟨#[]⟩, .bool false, .slice none 0 0, .bool false, .slice none 0 0] 32 (0, 0))) := by show _ = _; rw [hW2]; exact newAt _ _
  have hall : Hid (Below w.heap.size w W ∧ W.heap[w.heap.size + 1]? = some (.cells #[.int .i64 0, .bool false, .string ⟨#[]⟩, .bool false, .slice none 0 0, .bool false, .slice none 0 0] 32 (0, 0)) ∧ Below W.heap.size W W2 ∧ W.heap.size = w.heap.size + 1 + 1) := ⟨hbW, hqb, hb2, hsz⟩
  have kT : Hid (Calls Tryz.prog 69 #[.agg #[.bool m1, .slice b1 k1 d1, .bool n1, .slice a1 l1 c1]] W2 _) := ToRat_num ((hR1.next hbW).next hb2) (by omega)
  clear hqa hqb hbW hsz hR1
  go_enter Tryz.func30, Tryz.ntmps30
  go_upto_region 1 with fail
  rw [← hW]
  clear hW
  go_upto_region 2 with fail
  rw [← hW2]
  clear hW2
  replace p0 := keep_cell hb2 p0
  replace p1 := keep_cell hb2 p1
  replace p2 := keep_cell hb2 p2
  replace p3 := keep_cell hb2 p3
  replace p4 := keep_cell hb2 p4
  replace p5 := keep_cell hb2 p5
  replace p6 := keep_cell hb2 p6
  clear hb2
  generalize W.heap.size = pC at *
  rcases hk with rfl | rfl
  ·
   go_wp2_with fail
   refine Calls.mono kT.out ?_
   clear kT
   rintro e w3 ⟨t, rfl, hF, hb3⟩
   obtain ⟨m3, b3, k3, d3, n3, a3, l3, c3, rfl⟩ := (FracE.frac hF).form
   have q4 := keep_heap hb3 q2'.out
   obtain ⟨⟨s0, s1, s2, s3, s4, s5, s6⟩, sf, _⟩ := cells7 q4
   have sf3 := sf 3
   have sf4 := sf 4
   have sf5 := sf 5
   have sf6 := sf 6
   have hF' := FracE.frac hF
   obtain ⟨W5, hW5⟩ : ∃ W5, W5 = (((w3.setCell ⟨pC, 3, none⟩ (.bool m3)).setCell ⟨pC, 4, none⟩ (.slice b3 k3 d3)).setCell ⟨pC, 5, none⟩ (.bool n3)).setCell ⟨pC, 6, none⟩ (.slice a3 l3 c3) := ⟨_, rfl⟩
   have hpc : w.heap.size + 1 + 1 ≤ pC := by have := hall.out.2.2.2; omega
   have hbA := hall.out.2.2.1
   have q5 := by have h := put5_at q4 (v3 := .bool m3) (v4 := .slice b3 k3 d3) (v5 := .bool n3) (v6 := .slice a3 l3 c3); rw [← hW5] at h; exact h
   have hF5 : Frac W5 (.agg #[.bool m3, .slice b3 k3 d3, .bool n3, .slice a3 l3 c3]) p q m := by rw [hW5]; exact hF'.set4 q4 _ _ _ _
   have hb5 : Below pC W W5 := by rw [hW5]; exact (((((hbA.trans (hb3.mono (Nat.le_of_lt (Array.getElem?_eq_some_iff.1 q2'.out).1))).setCell (Nat.le_refl _) _).setCell (Nat.le_refl _) _).setCell (Nat.le_refl _) _).setCell (Nat.le_refl _) _)
   have q6 : W5.heap[w.heap.size + 1]? = some (.cells #[.int .i64 0, .bool false, .string ⟨#[]⟩, .bool false, .slice none 0 0, .bool false, .slice none 0 0] 32 (0, 0)) := (hb5.block _ (by omega)).trans hall.out.2.1
   obtain ⟨⟨y0, y1, y2, y3, y4, y5, y6⟩, rf, _⟩ := cells7 q6
   obtain ⟨⟨z0, z1, z2, z3, z4, z5, z6⟩, _, _⟩ := cells7 q5
   have rf0 := rf 0
   have rf1 := rf 1
   have rf2 := rf 2
   have rf3 := rf 3
   have rf4 := rf 4
   have rf5 := rf 5
   have rf6 := rf 6
   obtain ⟨W8, hW8⟩ : ∃ W8, W8 = put7 W5 (w.heap.size + 1) (.int .i64 3) (.bool false) (.string ⟨#[]⟩) (.bool m3) (.slice b3 k3 d3) (.bool n3) (.slice a3 l3 c3) := ⟨_, rfl⟩
   have hqW8 : Hid (W8.heap[w.heap.size + 1]? = some (.cells #[.int .i64 3, .bool false, .string ⟨#[]⟩, .bool m3, .slice b3 k3 d3, .bool n3, .slice a3 l3 c3] 32 (0, 0))) := by show _ = _; rw [hW8]; exact put7_at q6
   have hBW8 : Hid (Below w.heap.size w W8 ∧ CNum W8 (.agg #[.int .i64 3, .bool false, .string ⟨#[]⟩, .bool m3, .slice b3 k3 d3, .bool n3, .slice a3 l3 c3]) 3 p q m) := by
     show _ ∧ _
     rw [hW8]
     exact ⟨put7_below (hall.out.1.trans (hb5.mono (by omega))) (by omega), ⟨_, _, _, _, _, _, _, _, rfl, frac_put7 ⟨_, _, _, _, _, _, _, _, _, _, _, q6⟩ hF5⟩⟩
   clear q4 q5 q6 hF5 hb5 hF hF' hb3 sf rf hall q2' hbA hpc
   go_upto_region 4 with fail
   rw [← hW5]
   clear hW5 s0 s1 s2 s3 s4 s5 s6 sf3 sf4 sf5 sf6 p0 p1 p2 p3 p4 p5 p6
   go_wp2
   unfold put7 at hW8
   rw [← hW8]
   obtain ⟨⟨j0, j1, j2, j3, j4, j5, j6⟩, _, _⟩ := cells7 hqW8.out
   exact bodyPost_ret (v := .agg #[.int .i64 3, .bool false, .string ⟨#[]⟩, .bool m3, .slice b3 k3 d3, .bool n3, .slice a3 l3 c3]) (by simp [results, Tryz.results30, go_sem, j0, j1, j2, j3, j4, j5, j6]) rfl ⟨_, rfl, hBW8.out.2, hBW8.out.1⟩
  ·
   go_wp2_with fail
   refine Calls.mono kT.out ?_
   clear kT
   rintro e w3 ⟨t, rfl, hF, hb3⟩
   obtain ⟨m3, b3, k3, d3, n3, a3, l3, c3, rfl⟩ := (FracE.frac hF).form
   have q4 := keep_heap hb3 q2'.out
   obtain ⟨⟨s0, s1, s2, s3, s4, s5, s6⟩, sf, _⟩ := cells7 q4
   have sf3 := sf 3
   have sf4 := sf 4
   have sf5 := sf 5
   have sf6 := sf 6
   have hF' := FracE.frac hF
   obtain ⟨W5, hW5⟩ : ∃ W5, W5 = (((w3.setCell ⟨pC, 3, none⟩ (.bool m3)).setCell ⟨pC, 4, none⟩ (.slice b3 k3 d3)).setCell ⟨pC, 5, none⟩ (.bool n3)).setCell ⟨pC, 6, none⟩ (.slice a3 l3 c3) := ⟨_, rfl⟩
   have hpc : w.heap.size + 1 + 1 ≤ pC := by have := hall.out.2.2.2; omega
   have hbA := hall.out.2.2.1
   have q5 := by have h := put5_at q4 (v3 := .bool m3) (v4 := .slice b3 k3 d3) (v5 := .bool n3) (v6 := .slice a3 l3 c3); rw [← hW5] at h; exact h
   have hF5 : Frac W5 (.agg #[.bool m3, .slice b3 k3 d3, .bool n3, .slice a3 l3 c3]) p q m := by rw [hW5]; exact hF'.set4 q4 _ _ _ _
   have hb5 : Below pC W W5 := by rw [hW5]; exact (((((hbA.trans (hb3.mono (Nat.le_of_lt (Array.getElem?_eq_some_iff.1 q2'.out).1))).setCell (Nat.le_refl _) _).setCell (Nat.le_refl _) _).setCell (Nat.le_refl _) _).setCell (Nat.le_refl _) _)
   have q6 : W5.heap[w.heap.size + 1]? = some (.cells #[.int .i64 0, .bool false, .string ⟨#[]⟩, .bool false, .slice none 0 0, .bool false, .slice none 0 0] 32 (0, 0)) := (hb5.block _ (by omega)).trans hall.out.2.1
   obtain ⟨⟨y0, y1, y2, y3, y4, y5, y6⟩, rf, _⟩ := cells7 q6
   obtain ⟨⟨z0, z1, z2, z3, z4, z5, z6⟩, _, _⟩ := cells7 q5
   have rf0 := rf 0
   have rf1 := rf 1
   have rf2 := rf 2
   have rf3 := rf 3
   have rf4 := rf 4
   have rf5 := rf 5
   have rf6 := rf 6
   obtain ⟨W8, hW8⟩ : ∃ W8, W8 = put7 W5 (w.heap.size + 1) (.int .i64 4) (.bool false) (.string ⟨#[]⟩) (.bool m3) (.slice b3 k3 d3) (.bool n3) (.slice a3 l3 c3) := ⟨_, rfl⟩
   have hqW8 : Hid (W8.heap[w.heap.size + 1]? = some (.cells #[.int .i64 4, .bool false, .string ⟨#[]⟩, .bool m3, .slice b3 k3 d3, .bool n3, .slice a3 l3 c3] 32 (0, 0))) := by show _ = _; rw [hW8]; exact put7_at q6
   have hBW8 : Hid (Below w.heap.size w W8 ∧ CNum W8 (.agg #[.int .i64 4, .bool false, .string ⟨#[]⟩, .bool m3, .slice b3 k3 d3, .bool n3, .slice a3 l3 c3]) 4 p q m) := by
     show _ ∧ _
     rw [hW8]
     exact ⟨put7_below (hall.out.1.trans (hb5.mono (by omega))) (by omega), ⟨_, _, _, _, _, _, _, _, rfl, frac_put7 ⟨_, _, _, _, _, _, _, _, _, _, _, q6⟩ hF5⟩⟩
   clear q4 q5 q6 hF5 hb5 hF hF' hb3 sf rf hall q2' hbA hpc
   go_upto_region 4 with fail
   rw [← hW5]
   clear hW5 s0 s1 s2 s3 s4 s5 s6 sf3 sf4 sf5 sf6 p0 p1 p2 p3 p4 p5 p6
   go_wp2
   unfold put7 at hW8
   rw [← hW8]
   obtain ⟨⟨j0, j1, j2, j3, j4, j5, j6⟩, _, _⟩ := cells7 hqW8.out
   exact bodyPost_ret (v := .agg #[.int .i64 4, .bool false, .string ⟨#[]⟩, .bool m3, .slice b3 k3 d3, .bool n3, .slice a3 l3 c3]) (by simp [results, Tryz.results30, go_sem, j0, j1, j2, j3, j4, j5, j6]) rfl ⟨_, rfl, hBW8.out.2, hBW8.out.1⟩
end Go.Proofs.YtclokcoimdjaeaaGreatDoor
