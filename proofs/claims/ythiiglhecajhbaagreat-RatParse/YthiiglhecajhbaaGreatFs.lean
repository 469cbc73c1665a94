/- Two fractions over one denominator. -/
import Derived.Test.YthiiglhecajhbaaGreatFl
namespace Go.Proofs.YthiiglhecajhbaaGreat
set_option linter.unusedVariables false
open Go.RowKit
attribute [local go_sem ↓] Go.wp_at_zero Go.wp_at_succ
theorem Box2.chg {w w' : World} {g b : Nat} (h : Box2 w g) (hc : Chg b w w') (hb : Box2 w' b) : Box2 w' g := by
  by_cases e : g = b
  · subst e; exact hb
  · exact h.same (hc.block g e)
theorem Box4.chg {w w' : World} {g b : Nat} (h : Box4 w g) (hc : Chg b w w') (hb : Box4 w' b) : Box4 w' g := by
  by_cases e : g = b
  · subst e; exact hb
  · exact h.same (hc.block g e)
/-- An answer in lowest terms. -/
def LowE (w : World) (v : Value) (n d : Int) (m : Nat) : Prop := ∃ p q, FracE w v p q m ∧ Low n d p q
theorem LowE.next {w w' : World} {v : Value} {n d : Int} {m : Nat} (h : LowE w v n d m) (hb : Below w.heap.size w w') : LowE w' v n d m := by
  obtain ⟨p, q, h1, h2⟩ := h
  exact ⟨p, q, h1.next hb, h2⟩
theorem LowE.chg {w w' : World} {b : Nat} {v : Value} {n d : Int} {m : Nat} (h : LowE w v n d m) (hc : Chg b w w') (hb : NoInt w b) : LowE w' v n d m := by
  obtain ⟨p, q, h1, h2⟩ := h
  exact ⟨p, q, h1.chg hc hb, h2⟩
section
variable {ops : Array Oper} {Q : Exit → Act → World → Prop} {V : Nat → Value → World → Prop} {C : Nat → Nat → World → Prop} {S : List Nat} {N : Nat} {w : World}
theorem step_put2 {o : Oper} (j s t : Nat) (ho : o.op = .store 24 (.tmp s) (.tmp t)) (hd : o.dst = none) (hg : o.guard = none) (hl : (o.looksAt ops).contains t = true) (_hl' : (o.looksAt ops).contains s = true)
    (hf : (∀ v w, V t v w → ∃ m a l c, v = .agg #[.bool m, .slice a l c]) ∧ ∀ g w' w'' m a l c, V t (.agg #[.bool m, .slice a l c]) w' → Chg g w' w'' → Box2 w' g → w''.cell? ⟨g, 0, none⟩ = some (.bool m) → w''.cell? ⟨g, 1, none⟩ = some (.slice a l c) → C j g w'') : PutStep Tryz.prog ops Q V Box2 C S N w j s o := by
  intro b w' hs hB hlk g hgp hbx K hK
  have hw : Region.wanted o (yielded ops b.tmps) = true := by simp [Region.wanted, hg]
  rw [if_pos hw]
  have hvt := look hlk t hl
  obtain ⟨m, a, l, c, hv⟩ := hf.1 _ _ hvt
  rw [hv] at hvt
  obtain ⟨m0, a0, l0, c0, k0, k1, f⟩ := hbx.cells
  have hch : Chg g w' ((w'.setCell ⟨g, 0, none⟩ (.bool m)).setCell ⟨g, 1, none⟩ (.slice a l c)) := (Chg.set _ _ _ _).trans (Chg.set _ _ _ _)
  have r0 : ((w'.setCell ⟨g, 0, none⟩ (.bool m)).setCell ⟨g, 1, none⟩ (.slice a l c)).cell? ⟨g, 0, none⟩ = some (.bool m) := by simp [go_sem, k0]
  have r1 : ((w'.setCell ⟨g, 0, none⟩ (.bool m)).setCell ⟨g, 1, none⟩ (.slice a l c)).cell? ⟨g, 1, none⟩ = some (.slice a l c) := by simp [go_sem, k1]
  have key := hK undef _ hch (hbx.put m a l c) (hf.2 g _ _ m a l c hvt hch hbx r0 r1)
  have e : b.put o.dst undef = b := by rw [hd]; rfl
  rw [e] at key
  exact st24 k0 k1 f s t ho hd hgp hv key
theorem step_put4 {o : Oper} (j s t : Nat) (ho : o.op = .store 26 (.tmp s) (.tmp t)) (hd : o.dst = none) (hg : o.guard = none) (hl : (o.looksAt ops).contains t = true) (_hl' : (o.looksAt ops).contains s = true)
    (hf : (∀ v w, V t v w → ∃ m a l c m' a' l' c', v = .agg #[.bool m, .slice a l c, .bool m', .slice a' l' c']) ∧ ∀ g w' w'' m a l c m' a' l' c', V t (.agg #[.bool m, .slice a l c, .bool m', .slice a' l' c']) w' → Chg g w' w'' → Box4 w' g → w''.cell? ⟨g, 0, none⟩ = some (.bool m) → w''.cell? ⟨g, 1, none⟩ = some (.slice a l c) → w''.cell? ⟨g, 2, none⟩ = some (.bool m') → w''.cell? ⟨g, 3, none⟩ = some (.slice a' l' c') → C j g w'') : PutStep Tryz.prog ops Q V Box4 C S N w j s o := by
  intro b w' hs hB hlk g hgp hbx K hK
  have hw : Region.wanted o (yielded ops b.tmps) = true := by simp [Region.wanted, hg]
  rw [if_pos hw]
  have hvt := look hlk t hl
  obtain ⟨m, a, l, c, m', a', l', c', hv⟩ := hf.1 _ _ hvt
  rw [hv] at hvt
  obtain ⟨_, _, _, _, _, _, _, _, k0, k1, k2, k3, f⟩ := hbx.cells
  obtain ⟨X, hX⟩ : ∃ X, X = (((w'.setCell ⟨g, 0, none⟩ (.bool m)).setCell ⟨g, 1, none⟩ (.slice a l c)).setCell ⟨g, 2, none⟩ (.bool m')).setCell ⟨g, 3, none⟩ (.slice a' l' c') := ⟨_, rfl⟩
  have hch : Chg g w' X := by rw [hX]; exact (((Chg.set _ _ _ _).trans (Chg.set _ _ _ _)).trans (Chg.set _ _ _ _)).trans (Chg.set _ _ _ _)
  have r0 : X.cell? ⟨g, 0, none⟩ = some (.bool m) := by rw [hX]; simp [go_sem, k0]
  have r1 : X.cell? ⟨g, 1, none⟩ = some (.slice a l c) := by rw [hX]; simp [go_sem, k1]
  have r2 : X.cell? ⟨g, 2, none⟩ = some (.bool m') := by rw [hX]; simp [go_sem, k2]
  have r3 : X.cell? ⟨g, 3, none⟩ = some (.slice a' l' c') := by rw [hX]; simp [go_sem, k3]
  have hbp : Box4 X g := by rw [hX]; exact hbx.put m a l c m' a' l' c'
  have key := hK undef _ hch hbp (hf.2 g _ _ m a l c m' a' l' c' hvt hch hbx r0 r1 r2 r3)
  have e : b.put o.dst undef = b := by rw [hd]; rfl
  rw [e, hX] at key
  exact st26 k0 k1 k2 k3 f s t ho hd hgp hv key
end
theorem Frac.form {w : World} {v : Value} {n d : Int} {m : Nat} (h : Frac w v n d m) : ∃ n1 a1 l1 c1 n2 a2 l2 c2, v = .agg #[.bool n1, .slice a1 l1 c1, .bool n2, .slice a2 l2 c2] := by
  obtain ⟨n1, a1, l1, c1, n2, a2, l2, c2, hv, _⟩ := h
  exact ⟨n1, a1, l1, c1, n2, a2, l2, c2, hv⟩
def sdV (p4 p5 p6 b7 b9 K : Nat) (AN AD BN BD : Value) (x y z : Int) (t : Nat) (v : Value) (w : World) : Prop := match t with
  | 4 => v = .pointer (some ⟨p4, 0, none⟩) ∧ Box2 w p4
  | 5 => v = .pointer (some ⟨p5, 0, none⟩) ∧ Box2 w p5
  | 6 => v = .pointer (some ⟨p6, 0, none⟩) ∧ Box2 w p6
  | 7 => v = .pointer (some ⟨b7, 0, none⟩)
  | 8 => v = .pointer (some ⟨b7 + 1, 0, none⟩)
  | 9 => v = .pointer (some ⟨b9, 0, none⟩)
  | 10 => v = .pointer (some ⟨b9 + 1, 0, none⟩)
  | 21 => v = AN
  | 22 => v = BD
  | 23 => Num w v x K
  | 24 => v = BN
  | 25 => v = AD
  | 26 => Num w v y K
  | 27 => v = AD
  | 28 => v = BD
  | 29 => Num w v z K
  | _ => True
theorem sdV_next {p4 p5 p6 b7 b9 K : Nat} {AN AD BN BD : Value} {x y z : Int} (t : Nat) (v : Value) (w w' : World) (hb : Below w.heap.size w w') (h : sdV p4 p5 p6 b7 b9 K AN AD BN BD x y z t v w) : sdV p4 p5 p6 b7 b9 K AN AD BN BD x y z t v w' := by
  unfold sdV at h ⊢
  split at h <;> first | exact h | exact Num.next h hb | exact OutE.next h hb | exact Frac.next h hb | exact FracE.next h hb | exact LowE.next h hb | exact ⟨h.1, h.2.next hb⟩
theorem sdV_chg {p4 p5 p6 b7 b9 K : Nat} {AN AD BN BD : Value} {x y z : Int} (t : Nat) (v : Value) (w w' : World) (b : Nat) (hc : Chg b w w') (hb : Box2 w b) (hb' : Box2 w' b) (h : sdV p4 p5 p6 b7 b9 K AN AD BN BD x y z t v w) : sdV p4 p5 p6 b7 b9 K AN AD BN BD x y z t v w' := by
  unfold sdV at h ⊢
  split at h <;> first | exact h | exact Num.chg h hc hb.noint | exact OutE.chg h hc hb.noint | exact Frac.chg h hc hb.noint | exact FracE.chg h hc hb.noint | exact LowE.chg h hc hb.noint | exact ⟨h.1, h.2.chg hc hb'⟩
def sdC (p4 p5 p6 b7 b9 K : Nat) (AN AD BN BD : Value) (x y z : Int) (j b : Nat) (w : World) : Prop := match j with
  | 9 => Holds2 w b (fun v => Num w v x K)
  | 10 => Holds2 w b (fun v => Num w v y K)
  | 11 => Holds2 w b (fun v => Num w v z K)
  | _ => True
theorem sdC_next {p4 p5 p6 b7 b9 K : Nat} {AN AD BN BD : Value} {x y z : Int} (j b : Nat) (w w' : World) (hb : Below w.heap.size w w') (_ : b < w.heap.size) (h : sdC p4 p5 p6 b7 b9 K AN AD BN BD x y z j b w) : sdC p4 p5 p6 b7 b9 K AN AD BN BD x y z j b w' := by
  unfold sdC at h ⊢
  split at h <;> first | exact h | exact Holds2.next h hb (fun v k => k.next hb)
theorem sdC_chg {p4 p5 p6 b7 b9 K : Nat} {AN AD BN BD : Value} {x y z : Int} (j b b' : Nat) (w w' : World) (hc : Chg b' w w') (hb : Box2 w b') (_ : Box2 w' b') (hne : b ≠ b') (h : sdC p4 p5 p6 b7 b9 K AN AD BN BD x y z j b w) : sdC p4 p5 p6 b7 b9 K AN AD BN BD x y z j b w' := by
  unfold sdC at h ⊢
  split at h <;> first | exact h | exact Holds2.chg h hc hne (fun v k => k.chg hc hb.noint)
theorem boxes_sd (w : World) (n1 : Bool) (a1 : Option Addr) (l1 c1 : Nat) (n2 : Bool) (a2 : Option Addr) (l2 c2 : Nat) (n3 : Bool) (a3 : Option Addr) (l3 c3 : Nat) (n4 : Bool) (a4 : Option Addr) (l4 c4 : Nat) : ∃ W, W = ((((w.alloc (.cells #[.bool n1, .slice a1 l1 c1, .bool n2, .slice a2 l2 c2] 26)).alloc (.cells #[.bool n3, .slice a3 l3 c3, .bool n4, .slice a4 l4 c4] 26)).alloc (.cells #[.bool false, .slice none 0 0] 24)).alloc (.cells #[.bool false, .slice none 0 0] 24)).alloc (.cells #[.bool false, .slice none 0 0] 24) ∧ Below w.heap.size w W ∧
    (W.cell? ⟨w.heap.size, 0, none⟩ = some (.bool n1) ∧ W.cell? ⟨w.heap.size, 1, none⟩ = some (.slice a1 l1 c1) ∧ W.cell? ⟨w.heap.size, 2, none⟩ = some (.bool n2) ∧ W.cell? ⟨w.heap.size, 3, none⟩ = some (.slice a2 l2 c2)) ∧
    (W.cell? ⟨w.heap.size + 1, 0, none⟩ = some (.bool n3) ∧ W.cell? ⟨w.heap.size + 1, 1, none⟩ = some (.slice a3 l3 c3) ∧ W.cell? ⟨w.heap.size + 1, 2, none⟩ = some (.bool n4) ∧ W.cell? ⟨w.heap.size + 1, 3, none⟩ = some (.slice a4 l4 c4)) ∧
    Box2 W (w.heap.size + 1 + 1) ∧ Box2 W (w.heap.size + 1 + 1 + 1) ∧ Box2 W (w.heap.size + 1 + 1 + 1 + 1) := by
  refine ⟨_, rfl, (((((Below.refl _ _).alloc (Nat.le_refl _) _).alloc (by simp) _).alloc (by simp; omega) _).alloc (by simp; omega) _).alloc (by simp; omega) _, ⟨?_, ?_, ?_, ?_⟩, ⟨?_, ?_, ?_, ?_⟩, ?n0, ?n1, ?n2⟩
  case n0 =>
    have h := Box2.new ((w.alloc (.cells #[.bool n1, .slice a1 l1 c1, .bool n2, .slice a2 l2 c2] 26)).alloc (.cells #[.bool n3, .slice a3 l3 c3, .bool n4, .slice a4 l4 c4] 26)) false none 0 0 24 (by decide)
    rw [show ((w.alloc (.cells #[.bool n1, .slice a1 l1 c1, .bool n2, .slice a2 l2 c2] 26)).alloc (.cells #[.bool n3, .slice a3 l3 c3, .bool n4, .slice a4 l4 c4] 26)).heap.size = w.heap.size + 1 + 1 from by simp] at h
    exact (h.next ((Below.refl _ _).alloc (Nat.le_refl _) _)).next ((Below.refl _ _).alloc (Nat.le_refl _) _)
  case n1 =>
    have h := Box2.new (((w.alloc (.cells #[.bool n1, .slice a1 l1 c1, .bool n2, .slice a2 l2 c2] 26)).alloc (.cells #[.bool n3, .slice a3 l3 c3, .bool n4, .slice a4 l4 c4] 26)).alloc (.cells #[.bool false, .slice none 0 0] 24)) false none 0 0 24 (by decide)
    rw [show (((w.alloc (.cells #[.bool n1, .slice a1 l1 c1, .bool n2, .slice a2 l2 c2] 26)).alloc (.cells #[.bool n3, .slice a3 l3 c3, .bool n4, .slice a4 l4 c4] 26)).alloc (.cells #[.bool false, .slice none 0 0] 24)).heap.size = w.heap.size + 1 + 1 + 1 from by simp] at h
    exact h.next ((Below.refl _ _).alloc (Nat.le_refl _) _)
  case n2 =>
    have h := Box2.new ((((w.alloc (.cells #[.bool n1, .slice a1 l1 c1, .bool n2, .slice a2 l2 c2] 26)).alloc (.cells #[.bool n3, .slice a3 l3 c3, .bool n4, .slice a4 l4 c4] 26)).alloc (.cells #[.bool false, .slice none 0 0] 24)).alloc (.cells #[.bool false, .slice none 0 0] 24)) false none 0 0 24 (by decide)
    rw [show ((((w.alloc (.cells #[.bool n1, .slice a1 l1 c1, .bool n2, .slice a2 l2 c2] 26)).alloc (.cells #[.bool n3, .slice a3 l3 c3, .bool n4, .slice a4 l4 c4] 26)).alloc (.cells #[.bool false, .slice none 0 0] 24)).alloc (.cells #[.bool false, .slice none 0 0] 24)).heap.size = w.heap.size + 1 + 1 + 1 + 1 from by simp] at h
    exact h
  all_goals simp [go_sem, World.cell?_alloc_past]
/-- Numbers below a world's size stay where only boxes are filled. -/
theorem Num.but {S : List Nat} {w w' : World} {v : Value} {z : Int} {n : Nat} (h : Num w v z n) (hW : BelowBut S w w') (hS : ∀ k, k ∈ S → NoInt w k) : Num w' v z n := by
  obtain ⟨neg, a, cap, ds, hv, hr, r⟩ := h
  refine ⟨neg, a, cap, ds, hv, ⟨hr.le, hr.max, hr.nil, fun x hx i hi => ?_, hr.words⟩, r⟩
  subst hx
  have hc := hr.cell x rfl i hi
  refine hW.cell hc ?_
  rw [add_block]
  intro hs
  exact (hS _ hs).apart hr (by intro e; subst e; simp at hi) rfl
set_option maxRecDepth 20000 in
set_option maxHeartbeats 4000000 in
theorem sameDen_num {w : World} {u v : Value} {n d n' d' : Int} {m : Nat} (hu : Frac w u n d m) (hv : Frac w v n' d' m) (hm : m ≤ 200) :
    Calls Tryz.prog 44 #[u, v] w fun e w' => ∃ r s t, e = .returned (.tuple #[r, s, t]) ∧ Num w' r (pN n d * pD d') (2 * m + 4) ∧ Num w' s (pN n' d' * pD d) (2 * m + 4) ∧ Num w' t (pD d * pD d') (2 * m + 4) ∧ Below w.heap.size w w' := by
  obtain ⟨n1, a1, l1, c1, n2, a2, l2, c2, rfl⟩ := hu.form
  obtain ⟨n3, a3, l3, c3, n4, a4, l4, c4, rfl⟩ := hv.form
  obtain ⟨W, hW, hbW, ⟨e0, e1, e2, e3⟩, ⟨g0, g1, g2, g3⟩, x0, x1, x2⟩ := boxes_sd w n1 a1 l1 c1 n2 a2 l2 c2 n3 a3 l3 c3 n4 a4 l4 c4
  have k1 := parts_num (hu.next hbW) (by omega)
  replace k1 : Hid _ := k1
  go_enter Tryz.func44, Tryz.ntmps44
  go_wp2_with fail
  rw [← hW]
  clear hW
  refine Calls.mono k1.out ?_
  rintro e w1 ⟨s, t, rfl, hN, hD, hb1⟩
  clear k1
  obtain ⟨n5, a5, l5, c5, rfl⟩ := hN.form
  obtain ⟨n6, a6, l6, c6, rfl⟩ := hD.form
  obtain ⟨W1, hW1, hbW1, ⟨p0, p1, p2, p3⟩, y0, y1⟩ := boxes_two w1 n5 a5 l5 c5 n6 a6 l6 c6
  have hbx1 := bthen hb1 hbW1
  have k2 := parts_num ((hv.next hbW).next hbx1) (by omega)
  replace k2 : Hid _ := k2
  have j0 := keep_cell hb1 g0
  have j1 := keep_cell hb1 g1
  have j2 := keep_cell hb1 g2
  have j3 := keep_cell hb1 g3
  have j4 : w.heap.size + 1 < w1.heap.size := cell_lt j0
  have j5 : w.heap.size + 1 < w1.heap.size + 1 := by omega
  go_wp2_with fail
  rw [← hW1]
  clear hW1 j0 j1 j2 j3 j5
  refine Calls.mono k2.out ?_
  rintro e w2 ⟨s, t, rfl, hN', hD', hb2⟩
  clear k2
  obtain ⟨n7, a7, l7, c7, rfl⟩ := hN'.form
  obtain ⟨n8, a8, l8, c8, rfl⟩ := hD'.form
  obtain ⟨W2, hW2, hbW2, ⟨s0, s1, s2, s3⟩, z0, z1⟩ := boxes_two w2 n7 a7 l7 c7 n8 a8 l8 c8
  have hbx2 := bthen hb2 hbW2
  have hbx12 := bthen hbx1 hbx2
  have r0 := keep_cell hbx2 p0
  have r1 := keep_cell hbx2 p1
  have r2 := keep_cell hbx2 p2
  have r3 := keep_cell hbx2 p3
  have hAN := (hN.next hbW1).next hbx2
  have hAD := (hD.next hbW1).next hbx2
  have hBN := hN'.next hbW2
  have hBD := hD'.next hbW2
  have u0 := x0.next hbx12
  have u1 := x1.next hbx12
  have u2 := x2.next hbx12
  have hBB := bthen hbW hbx12
  have hx2 := x2.noint.lt
  have hs1 := hb1.size
  have hs2 := hb2.size
  have hs3 := hbW1.size
  have hy1 := y1.noint.lt
  go_wp2
  rw [← hW2]
  clear hW2 e0 e1 e2 e3 g0 g1 g2 g3 p0 p1 p2 p3 hN hD hN' hD'
  have hS : ∀ k, k ∈ [w.heap.size + 1 + 1, w.heap.size + 1 + 1 + 1, w.heap.size + 1 + 1 + 1 + 1] → NoInt W2 k := by
    intro k hk
    simp only [List.mem_cons, List.not_mem_nil, or_false] at hk
    rcases hk with rfl | rfl | rfl
    · exact u0.noint
    · exact u1.noint
    · exact u2.noint
  have hB_num : ∀ {w' : World} {v : Value} {z : Int} {n : Nat}, BelowBut [w.heap.size + 1 + 1, w.heap.size + 1 + 1 + 1, w.heap.size + 1 + 1 + 1 + 1] W2 w' → Num W2 v z n → Num w' v z n := fun hW h => h.but hW hS
  refine wp_region_boxes (sdV (w.heap.size + 1 + 1) (w.heap.size + 1 + 1 + 1) (w.heap.size + 1 + 1 + 1 + 1) w1.heap.size w2.heap.size (2 * m + 4) (.agg #[.bool n5, .slice a5 l5 c5]) (.agg #[.bool n6, .slice a6 l6 c6]) (.agg #[.bool n7, .slice a7 l7 c7]) (.agg #[.bool n8, .slice a8 l8 c8]) (pN n d * pD d') (pN n' d' * pD d) (pD d * pD d')) Box2 (sdC (w.heap.size + 1 + 1) (w.heap.size + 1 + 1 + 1) (w.heap.size + 1 + 1 + 1 + 1) w1.heap.size w2.heap.size (2 * m + 4) (.agg #[.bool n5, .slice a5 l5 c5]) (.agg #[.bool n6, .slice a6 l6 c6]) (.agg #[.bool n7, .slice a7 l7 c7]) (.agg #[.bool n8, .slice a8 l8 c8]) (pN n d * pD d') (pN n' d' * pD d) (pD d * pD d')) [4, 5, 6, 7, 8, 9, 10] [4, 5, 6] [w.heap.size + 1 + 1, w.heap.size + 1 + 1 + 1, w.heap.size + 1 + 1 + 1 + 1] [(9, 4), (10, 5), (11, 6)] 30 (by kernel_rfl) (by kernel_rfl) rfl sdV_next sdV_chg ?hA sdC_next sdC_chg ?hstart ?hdis (StepsFrom.all ?hstep) ?hend
  case hA =>
    intro s v w' hs hv
    have hs' : s = 4 ∨ s = 5 ∨ s = 6 := by simpa using hs
    rcases hs' with rfl | rfl | rfl
    · exact ⟨_, hv.1, hv.2, .inr (by simp), hv.2.noint.lt⟩
    · exact ⟨_, hv.1, hv.2, .inr (by simp), hv.2.noint.lt⟩
    · exact ⟨_, hv.1, hv.2, .inr (by simp), hv.2.noint.lt⟩
  case hstart =>
    intro t ht
    have hD0 : Below W2.heap.size W2 W2.drew := (Below.refl _ _).drew
    simp only [List.mem_cons, List.not_mem_nil, or_false] at ht
    rcases ht with rfl | rfl | rfl | rfl | rfl | rfl | rfl
    · exact ⟨rfl, u0.next hD0⟩
    · exact ⟨rfl, u1.next hD0⟩
    · exact ⟨rfl, u2.next hD0⟩
    all_goals rfl
  case hdis =>
    intro s t hs ht hne _ _
    have hs' : s = 4 ∨ s = 5 ∨ s = 6 := by simpa using hs
    have ht' : t = 4 ∨ t = 5 ∨ t = 6 := by simpa using ht
    rcases hs' with rfl | rfl | rfl <;> rcases ht' with rfl | rfl | rfl <;> first | exact absurd rfl hne | simp
  case hstep =>
    refine ⟨?s0, ?s1, ?s2, ?s3, ?s4, ?s5, ?s6, ?s7, ?s8, ?s9, ?s10, ?s11, trivial⟩
    case s0 => exact plain_at (plain_of (guard_none rfl) fun b w' _ hW hl K hK => ld24 (hW.cell r0 (by simp; omega)) (hW.cell r1 (by simp; omega)) 7 rfl (look hl 7 (by kernel_rfl)) (hK _ _ (Below.refl _ _) (dst_eq rfl rfl))) (dst_eq rfl rfl) rfl
    case s1 => exact plain_at (plain_of (guard_none rfl) fun b w' _ hW hl K hK => ld24 (hW.cell s2 (by simp; omega)) (hW.cell s3 (by simp; omega)) 10 rfl (look hl 10 (by kernel_rfl)) (hK _ _ (Below.refl _ _) (dst_eq rfl rfl))) (dst_eq rfl rfl) rfl
    case s2 => exact plain_at (pl_call2 39 21 22 23 _ (by kernel_rfl) rfl rfl (guard_none rfl) (by kernel_rfl) (by kernel_rfl) (fun u v w' hW hu hv => by subst hu; subst hv; exact (Mul_num (hB_num hW hAN) (hB_num hW hBD) (by omega) (by omega)).mono fun e w'' h => by obtain ⟨t, h1, h2, h3⟩ := h; exact ⟨t, h1, h2.num.more' (by omega), h3⟩)) (dst_eq rfl rfl) rfl
    case s3 => exact plain_at (plain_of (guard_none rfl) fun b w' _ hW hl K hK => ld24 (hW.cell s0 (by simp; omega)) (hW.cell s1 (by simp; omega)) 9 rfl (look hl 9 (by kernel_rfl)) (hK _ _ (Below.refl _ _) (dst_eq rfl rfl))) (dst_eq rfl rfl) rfl
    case s4 => exact plain_at (plain_of (guard_none rfl) fun b w' _ hW hl K hK => ld24 (hW.cell r2 (by simp; omega)) (hW.cell r3 (by simp; omega)) 8 rfl (look hl 8 (by kernel_rfl)) (hK _ _ (Below.refl _ _) (dst_eq rfl rfl))) (dst_eq rfl rfl) rfl
    case s5 => exact plain_at (pl_call2 39 24 25 26 _ (by kernel_rfl) rfl rfl (guard_none rfl) (by kernel_rfl) (by kernel_rfl) (fun u v w' hW hu hv => by subst hu; subst hv; exact (Mul_num (hB_num hW hBN) (hB_num hW hAD) (by omega) (by omega)).mono fun e w'' h => by obtain ⟨t, h1, h2, h3⟩ := h; exact ⟨t, h1, h2.num.more' (by omega), h3⟩)) (dst_eq rfl rfl) rfl
    case s6 => exact plain_at (plain_of (guard_none rfl) fun b w' _ hW hl K hK => ld24 (hW.cell r2 (by simp; omega)) (hW.cell r3 (by simp; omega)) 8 rfl (look hl 8 (by kernel_rfl)) (hK _ _ (Below.refl _ _) (dst_eq rfl rfl))) (dst_eq rfl rfl) rfl
    case s7 => exact plain_at (plain_of (guard_none rfl) fun b w' _ hW hl K hK => ld24 (hW.cell s2 (by simp; omega)) (hW.cell s3 (by simp; omega)) 10 rfl (look hl 10 (by kernel_rfl)) (hK _ _ (Below.refl _ _) (dst_eq rfl rfl))) (dst_eq rfl rfl) rfl
    case s8 => exact plain_at (pl_call2 39 27 28 29 _ (by kernel_rfl) rfl rfl (guard_none rfl) (by kernel_rfl) (by kernel_rfl) (fun u v w' hW hu hv => by subst hu; subst hv; exact (Mul_num (hB_num hW hAD) (hB_num hW hBD) (by omega) (by omega)).mono fun e w'' h => by obtain ⟨t, h1, h2, h3⟩ := h; exact ⟨t, h1, h2.num.more' (by omega), h3⟩)) (dst_eq rfl rfl) rfl
    case s9 => exact put_at (step_put2 9 4 23 rfl rfl rfl (by kernel_rfl) (by kernel_rfl) ⟨fun v w h => Num.form h, fun g w' w'' m a l c hv hc hb r0 r1 => ⟨m, a, l, c, r0, r1, Num.chg hv hc hb.noint⟩⟩) rfl rfl (by kernel_rfl)
    case s10 => exact put_at (step_put2 10 5 26 rfl rfl rfl (by kernel_rfl) (by kernel_rfl) ⟨fun v w h => Num.form h, fun g w' w'' m a l c hv hc hb r0 r1 => ⟨m, a, l, c, r0, r1, Num.chg hv hc hb.noint⟩⟩) rfl rfl (by kernel_rfl)
    case s11 => exact put_at (step_put2 11 6 29 rfl rfl rfl (by kernel_rfl) (by kernel_rfl) ⟨fun v w h => Num.form h, fun g w' w'' m a l c hv hc hb r0 r1 => ⟨m, a, l, c, r0, r1, Num.chg hv hc hb.noint⟩⟩) rfl rfl (by kernel_rfl)
  case hend =>
    intro b w' hs hd hW hv hdis hC hfr
    obtain ⟨h4, _⟩ := hv 4 (.inl rfl)
    obtain ⟨h5, _⟩ := hv 5 (.inl rfl)
    obtain ⟨h6, _⟩ := hv 6 (.inl rfl)
    obtain ⟨q1, b1, i1, o1, m0, m1, hR⟩ := hC 9 4 (by simp) (by decide) _ h4
    obtain ⟨q2, b2, i2, o2, m2, m3, hS'⟩ := hC 10 5 (by simp) (by decide) _ h5
    obtain ⟨q3, b3, i3, o3, m4, m5, hT⟩ := hC 11 6 (by simp) (by decide) _ h6
    have hBf : Below w.heap.size w w' := hBB.trans (hW.below hBB.size (by intro k hk; simp only [List.mem_cons, List.not_mem_nil, or_false] at hk; omega))
    rw [Array.getD_eq_getD_getElem?] at h4 h5 h6
    clear hv hdis hC hfr hW
    go_wp2
    exact bodyPost_ret (v := .tuple #[.agg #[.bool q1, .slice b1 i1 o1], .agg #[.bool q2, .slice b2 i2 o2], .agg #[.bool q3, .slice b3 i3 o3]]) (by simp [results, Tryz.results44, go_sem, h4, h5, h6, m0, m1, m2, m3, m4, m5]) hd ⟨_, _, _, rfl, hR, hS', hT, hBf⟩
end Go.Proofs.YthiiglhecajhbaaGreat
