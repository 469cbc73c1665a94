/- Two fractions over one denominator. -/
import Derived.Test.YtmpefgemlpnbiaaGreatFl
namespace Go.Proofs.YtmpefgemlpnbiaaGreat
set_option linter.unusedVariables false
open Go.RowKit
attribute [local go_sem ↓] Go.wp_at_zero Go.wp_at_succ
theorem Box2.chg {w w' : World} {g b : Nat} (h : Box2 w g) (hc : Chg b w w') (hb : Box2 w' b) : Box2 w' g := by
  by_cases e : g = b
  · subst e; exact hb
  · exact h.same (hc.block g e)
theorem Box4.chg {w w' : World} {g b : Nat} (h : Box4 w g) (hc : Chg b w w') (hb : Box4 w' b) : Box4 w' g := by
  by_cases e : g = b
  · subst e; exact hb
  · exact h.same (hc.block g e)
/-- An answer in lowest terms. -/
def LowE (w : World) (v : Value) (n d : Int) (m : Nat) : Prop := ∃ p q, FracE w v p q m ∧ Low n d p q
theorem LowE.next {w w' : World} {v : Value} {n d : Int} {m : Nat} (h : LowE w v n d m) (hb : Below w.heap.size w w') : LowE w' v n d m := by
  obtain ⟨p, q, h1, h2⟩ := h
  exact ⟨p, q, h1.next hb, h2⟩
theorem LowE.chg {w w' : World} {b : Nat} {v : Value} {n d : Int} {m : Nat} (h : LowE w v n d m) (hc : Chg b w w') (hb : NoInt w b) : LowE w' v n d m := by
  obtain ⟨p, q, h1, h2⟩ := h
  exact ⟨p, q, h1.chg hc hb, h2⟩
section
variable {ops : Array Oper} {Q : Exit → Act → World → Prop} {V : Nat → Value → World → Prop} {C : Nat → Nat → World → Prop} {S : List Nat} {N : Nat} {w : World}
theorem step_put2 {o : Oper} (j s t : Nat) (ho : o.op = .store 24 (.tmp s) (.tmp t)) (hd : o.dst = none) (hg : o.guard = none) (hl : (o.looksAt ops).contains t = true) (_hl' : (o.looksAt ops).contains s = true)
    (hf : (∀ v w, V t v w → ∃ m a l c, v = .agg #[.bool m, .slice a l c]) ∧ ∀ g w' w'' m a l c, V t (.agg #[.bool m, .slice a l c]) w' → Chg g w' w'' → Box2 w' g → w''.cell? ⟨g, 0, none⟩ = some (.bool m) → w''.cell? ⟨g, 1, none⟩ = some (.slice a l c) → C j g w'') : PutStep Tryz.prog ops Q V Box2 C S N w j s o := by
  intro b w' hs hB hlk g hgp hbx K hK
  have hw : Region.wanted o (yielded ops b.tmps) = true := by simp [Region.wanted, hg]
  rw [if_pos hw]
  have hvt := look hlk t hl
  obtain ⟨m, a, l, c, hv⟩ := hf.1 _ _ hvt
  rw [hv] at hvt
  obtain ⟨m0, a0, l0, c0, k0, k1, f⟩ := hbx.cells
  have hch : Chg g w' ((w'.setCell ⟨g, 0, none⟩ (.bool m)).setCell ⟨g, 1, none⟩ (.slice a l c)) := (Chg.set _ _ _ _).trans (Chg.set _ _ _ _)
  have r0 : ((w'.setCell ⟨g, 0, none⟩ (.bool m)).setCell ⟨g, 1, none⟩ (.slice a l c)).cell? ⟨g, 0, none⟩ = some (.bool m) := by simp [go_sem, k0]
  have r1 : ((w'.setCell ⟨g, 0, none⟩ (.bool m)).setCell ⟨g, 1, none⟩ (.slice a l c)).cell? ⟨g, 1, none⟩ = some (.slice a l c) := by simp [go_sem, k1]
  have key := hK undef _ hch (hbx.put m a l c) (hf.2 g _ _ m a l c hvt hch hbx r0 r1)
  have e : b.put o.dst undef = b := by rw [hd]; rfl
  rw [e] at key
  exact st24 k0 k1 f s t ho hd hgp hv key
theorem step_put4 {o : Oper} (j s t : Nat) (ho : o.op = .store 26 (.tmp s) (.tmp t)) (hd : o.dst = none) (hg : o.guard = none) (hl : (o.looksAt ops).contains t = true) (_hl' : (o.looksAt ops).contains s = true)
    (hf : (∀ v w, V t v w → ∃ m a l c m' a' l' c', v = .agg #[.bool m, .slice a l c, .bool m', .slice a' l' c']) ∧ ∀ g w' w'' m a l c m' a' l' c', V t (.agg #[.bool m, .slice a l c, .bool m', .slice a' l' c']) w' → Chg g w' w'' → Box4 w' g → w''.cell? ⟨g, 0, none⟩ = some (.bool m) → w''.cell? ⟨g, 1, none⟩ = some (.slice a l c) → w''.cell? ⟨g, 2, none⟩ = some (.bool m') → w''.cell? ⟨g, 3, none⟩ = some (.slice a' l' c') → C j g w'') : PutStep Tryz.prog ops Q V Box4 C S N w j s o := by
  intro b w' hs hB hlk g hgp hbx K hK
  have hw : Region.wanted o (yielded ops b.tmps) = true := by simp [Region.wanted, hg]
  rw [if_pos hw]
  have hvt := look hlk t hl
  obtain ⟨m, a, l, c, m', a', l', c', hv⟩ := hf.1 _ _ hvt
  rw [hv] at hvt
  obtain ⟨_, _, _, _, _, _, _, _, k0, k1, k2, k3, f⟩ := hbx.cells
  obtain ⟨X, hX⟩ : ∃ X, X = (((w'.setCell ⟨g, 0, none⟩ (.bool m)).setCell ⟨g, 1, none⟩ (.slice a l c)).setCell ⟨g, 2, none⟩ (.bool m')).setCell ⟨g, 3, none⟩ (.slice a' l' c') := ⟨_, rfl⟩
  have hch : Chg g w' X := by rw [hX]; exact (((Chg.set _ _ _ _).trans (Chg.set _ _ _ _)).trans (Chg.set _ _ _ _)).trans (Chg.set _ _ _ _)
  have r0 : X.cell? ⟨g, 0, none⟩ = some (.bool m) := by rw [hX]; simp [go_sem, k0]
  have r1 : X.cell? ⟨g, 1, none⟩ = some (.slice a l c) := by rw [hX]; simp [go_sem, k1]
  have r2 : X.cell? ⟨g, 2, none⟩ = some (.bool m') := by rw [hX]; simp [go_sem, k2]
  have r3 : X.cell? ⟨g, 3, none⟩ = some (.slice a' l' c') := by rw [hX]; simp [go_sem, k3]
  have hbp : Box4 X g := by rw [hX]; exact hbx.put m a l c m' a' l' c'
  have key := hK undef _ hch hbp (hf.2 g _ _ m a l c m' a' l' c' hvt hch hbx r0 r1 r2 r3)
  have e : b.put o.dst undef = b := by rw [hd]; rfl
  rw [e, hX] at key
  exact st26 k0 k1 k2 k3 f s t ho hd hgp hv key
end
theorem Frac.form {w : World} {v : Value} {n d : Int} {m : Nat} (h : Frac w v n d m) : ∃ n1 a1 l1 c1 n2 a2 l2 c2, v = .agg #[.bool n1, .slice a1 l1 c1, .bool n2, .slice a2 l2 c2] := by
  obtain ⟨n1, a1, l1, c1, n2, a2, l2, c2, hv, _⟩ := h
  exact ⟨n1, a1, l1, c1, n2, a2, l2, c2, hv⟩
def sdV (p4 p5 p6 b7 b9 K : Nat) (AN AD BN BD : Value) (x y z : Int) (t : Nat) (v : Value) (w : World) : Prop := match t with
  | 4 => v = .pointer (some ⟨p4, 0, none⟩) ∧ Box2 w p4
  | 5 => v = .pointer (some ⟨p5, 0, none⟩) ∧ Box2 w p5
  | 6 => v = .pointer (some ⟨p6, 0, none⟩) ∧ Box2 w p6
  | 7 => v = .pointer (some ⟨b7, 0, none⟩)
  | 8 => v = .pointer (some ⟨b7 + 1, 0, none⟩)
  | 9 => v = .pointer (some ⟨b9, 0, none⟩)
  | 10 => v = .pointer (some ⟨b9 + 1, 0, none⟩)
  | 21 => v = AN
  | 22 => v = BD
  | 23 => Num w v x K
  | 24 => v = BN
  | 25 => v = AD
  | 26 => Num w v y K
  | 27 => v = AD
  | 28 => v = BD
  | 29 => Num w v z K
  | _ => True
theorem sdV_next {p4 p5 p6 b7 b9 K : Nat} {AN AD BN BD : Value} {x y z : Int} (t : Nat) (v : Value) (w w' : World) (hb : Below w.heap.size w w') (h : sdV p4 p5 p6 b7 b9 K AN AD BN BD x y z t v w) : sdV p4 p5 p6 b7 b9 K AN AD BN BD x y z t v w' := by
  unfold sdV at h ⊢
  split at h <;> first | exact h | exact Num.next h hb | exact OutE.next h hb | exact Frac.next h hb | exact FracE.next h hb | exact LowE.next h hb | exact ⟨h.1, h.2.next hb⟩
theorem sdV_chg {p4 p5 p6 b7 b9 K : Nat} {AN AD BN BD : Value} {x y z : Int} (t : Nat) (v : Value) (w w' : World) (b : Nat) (hc : Chg b w w') (hb : Box2 w b) (hb' : Box2 w' b) (h : sdV p4 p5 p6 b7 b9 K AN AD BN BD x y z t v w) : sdV p4 p5 p6 b7 b9 K AN AD BN BD x y z t v w' := by
  unfold sdV at h ⊢
  split at h <;> first | exact h | exact Num.chg h hc hb.noint | exact OutE.chg h hc hb.noint | exact Frac.chg h hc hb.noint | exact FracE.chg h hc hb.noint | exact LowE.chg h hc hb.noint | exact ⟨h.1, h.2.chg hc hb'⟩
def sdC (p4 p5 p6 b7 b9 K : Nat) (AN AD BN BD : Value) (x y z : Int) (j b : Nat) (w : World) : Prop := match j with
  | 9 => Holds2 w b (fun v => Num w v x K)
  | 10 => Holds2 w b (fun v => Num w v y K)
  | 11 => Holds2 w b (fun v => Num w v z K)
  | _ => True
theorem sdC_next {p4 p5 p6 b7 b9 K : Nat} {AN AD BN BD : Value} {x y z : Int} (j b : Nat) (w w' : World) (hb : Below w.heap.size w w') (_ : b < w.heap.size) (h : sdC p4 p5 p6 b7 b9 K AN AD BN BD x y z j b w) : sdC p4 p5 p6 b7 b9 K AN AD BN BD x y z j b w' := by
  unfold sdC at h ⊢
  split at h <;> first | exact h | exact Holds2.next h hb (fun v k => k.next hb)
theorem sdC_chg {p4 p5 p6 b7 b9 K : Nat} {AN AD BN BD : Value} {x y z : Int} (j b b' : Nat) (w w' : World) (hc : Chg b' w w') (hb : Box2 w b') (_ : Box2 w' b') (hne : b ≠ b') (h : sdC p4 p5 p6 b7 b9 K AN AD BN BD x y z j b w) : sdC p4 p5 p6 b7 b9 K AN AD BN BD x y z j b w' := by
  unfold sdC at h ⊢
  split at h <;> first | exact h | exact Holds2.chg h hc hne (fun v k => k.chg hc hb.noint)
theorem boxes_sd (w : World) (n1 : Bool) (a1 : Option Addr) (l1 c1 : Nat) (n2 : Bool) (a2 : Option Addr) (l2 c2 : Nat) (n3 : Bool) (a3 : Option Addr) (l3 c3 : Nat) (n4 : Bool) (a4 : Option Addr) (l4 c4 : Nat) : ∃ W, W = ((((w.alloc (.cells #[.bool n1, .slice a1 l1 c1, .bool n2, .slice a2 l2 c2] 26)).alloc (.cells #[.bool n3, .slice a3 l3 c3, .bool n4, .slice a4 l4 c4] 26)).alloc (.cells #[.bool false, .slice none 0 0] 24)).alloc (.cells #[.bool false, .slice none 0 0] 24)).alloc (.cells #[.bool false, .slice none 0 0] 24) ∧ Below w.heap.size w W ∧
    (W.cell? ⟨w.heap.size, 0, none⟩ = some (.bool n1) ∧ W.cell? ⟨w.heap.size, 1, none⟩ = some (.slice a1 l1 c1) ∧ W.cell? ⟨w.heap.size, 2, none⟩ = some (.bool n2) ∧ W.cell? ⟨w.heap.size, 3, none⟩ = some (.slice a2 l2 c2)) ∧
    (W.cell? ⟨w.heap.size + 1, 0, none⟩ = some (.bool n3) ∧ W.cell? ⟨w.heap.size + 1, 1, none⟩ = some (.slice a3 l3 c3) ∧ W.cell? ⟨w.heap.size + 1, 2, none⟩ = some (.bool n4) ∧ W.cell? ⟨w.heap.size + 1, 3, none⟩ = some (.slice a4 l4 c4)) ∧
    Box2 W (w.heap.size + 1 + 1) ∧ Box2 W (w.heap.size + 1 + 1 + 1) ∧ Box2 W (w.heap.size + 1 + 1 + 1 + 1) := by
  refine ⟨_, rfl, (((((Below.refl _ _).alloc (Nat.le_refl _) _).alloc (by simp) _).alloc (by simp; omega) _).alloc (by simp; omega) _).alloc (by simp; omega) _, ⟨?_, ?_, ?_, ?_⟩, ⟨?_, ?_, ?_, ?_⟩, ?n0, ?n1, ?n2⟩
  case n0 =>
    have h := Box2.new ((w.alloc (.cells #[.bool n1, .slice a1 l1 c1, .bool n2, .slice a2 l2 c2] 26)).alloc (.cells #[.bool n3, .slice a3 l3 c3, .bool n4, .slice a4 l4 c4] 26)) false none 0 0 24 (by decide)
    rw [show ((w.alloc (.cells #[.bool n1, .slice a1 l1 c1, .bool n2, .slice a2 l2 c2] 26)).alloc (.cells #[.bool n3, .slice a3 l3 c3, .bool n4, .slice a4 l4 c4] 26)).heap.size = w.heap.size + 1 + 1 from by simp] at h
    exact (h.next ((Below.refl _ _).alloc (Nat.le_refl _) _)).next ((Below.refl _ _).alloc (Nat.le_refl _) _)
  case n1 =>
    have h := Box2.new (((w.alloc (.cells #[.bool n1, .slice a1 l1 c1, .bool n2, .slice a2 l2 c2] 26)).alloc (.cells #[.bool n3, .slice a3 l3 c3, .bool n4, .slice a4 l4 c4] 26)).alloc (.cells #[.bool false, .slice none 0 0] 24)) false none 0 0 24 (by decide)
    rw [show (((w.alloc (.cells #[.bool n1, .slice a1 l1 c1, .bool n2, .slice a2 l2 c2] 26)).alloc (.cells #[.bool n3, .slice a3 l3 c3, .bool n4, .slice a4 l4 c4] 26)).alloc (.cells #[.bool false, .slice none 0 0] 24)).heap.size = w.heap.size + 1 + 1 + 1 from by simp] at h
    exact h.next ((Below.refl _ _).alloc (Nat.le_refl _) _)
  case n2 =>
    have h := Box2.new ((((w.alloc (.cells #[.bool n1, .slice a1 l1 c1, .bool n2, .slice a2 l2 c2] 26)).alloc (.cells #[.bool n3, .slice a3 l3 c3, .bool n4, .slice a4 l4 c4] 26)).alloc (.cells #[.bool false, .slice none 0 0] 24)).alloc (.cells #[.bool false, .slice none 0 0] 24)) false none 0 0 24 (by decide)
    rw [show ((((w.alloc (.cells #[.bool n1, .slice a1 l1 c1, .bool n2, .slice a2 l2 c2] 26)).alloc (.cells #[.bool n3, .slice a3 l3 c3, .bool n4, .slice a4 l4 c4] 26)).alloc (.cells #[.bool false, .slice none 0 0] 24)).alloc (.cells #[.bool false, .slice none 0 0] 24)).heap.size = w.heap.size + 1 + 1 + 1 + 1 from by simp] at h
    exact h
  all_goals simp [go_sem, World.cell?_alloc_past]
/-- Numbers below a world's size stay where only boxes are filled. -/
theorem Num.but {S : List Nat} {w w' : World} {v : Value} {z : Int} {n : Nat} (h : Num w v z n) (hW : BelowBut S w w') (hS : ∀ k, k ∈ S → NoInt w k) : Num w' v z n := by
  obtain ⟨neg, a, cap, ds, hv, hr, r⟩ := h
  refine ⟨neg, a, cap, ds, hv, ⟨hr.le, hr.max, hr.nil, fun x hx i hi => ?_, hr.words⟩, r⟩
  subst hx
  have hc := hr.cell x rfl i hi
  refine hW.cell hc ?_
  rw [add_block]
  intro hs
  exact (hS _ hs).apart hr (by intro e; subst e; simp at hi) rfl
end Go.Proofs.YtmpefgemlpnbiaaGreat
