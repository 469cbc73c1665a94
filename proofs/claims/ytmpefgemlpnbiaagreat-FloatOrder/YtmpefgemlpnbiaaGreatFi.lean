/- Whole fractions as numbers. -/
import Derived.Test.YtmpefgemlpnbiaaGreatFw
namespace Go.Proofs.YtmpefgemlpnbiaaGreat
open Go.RowKit
attribute [local go_sem ↓] Go.wp_at_zero Go.wp_at_succ
theorem boxes_int (w : World) (m1 : Bool) (a1 : Option Addr) (l1 c1 : Nat) (m2 : Bool) (a2 : Option Addr) (l2 c2 : Nat) : ∃ W, W = (w.alloc (.cells #[.bool m1, .slice a1 l1 c1, .bool m2, .slice a2 l2 c2] 26)).alloc (.cells #[.bool false, .slice none 0 0] 24) ∧ Below w.heap.size w W ∧
    (W.cell? ⟨w.heap.size, 0, none⟩ = some (.bool m1) ∧ W.cell? ⟨w.heap.size, 1, none⟩ = some (.slice a1 l1 c1) ∧ W.cell? ⟨w.heap.size, 2, none⟩ = some (.bool m2) ∧ W.cell? ⟨w.heap.size, 3, none⟩ = some (.slice a2 l2 c2)) ∧ Box2 W (w.heap.size + 1) := by
  refine ⟨_, rfl, ((Below.refl _ _).alloc (Nat.le_refl _) _).alloc (by simp) _, ⟨?_, ?_, ?_, ?_⟩, ?n⟩
  case n =>
    have h := Box2.new (w.alloc (.cells #[.bool m1, .slice a1 l1 c1, .bool m2, .slice a2 l2 c2] 26)) false none 0 0 24 (by decide)
    rw [show (w.alloc (.cells #[.bool m1, .slice a1 l1 c1, .bool m2, .slice a2 l2 c2] 26)).heap.size = w.heap.size + 1 from by simp] at h
    exact h
  all_goals simp [go_sem, World.cell?_alloc_past]
theorem put2_boxed {base : Nat} {w : World} {g : Nat} (hg : NoInt w g) (bg : base ≤ g) (m1 : Bool) (a1 : Option Addr) (l1 c1 : Nat) : Boxed base w ((w.setCell ⟨g, 0, none⟩ (.bool m1)).setCell ⟨g, 1, none⟩ (.slice a1 l1 c1)) :=
  (Boxed.refl.set _ _ _ hg bg (notInt_bool _)).set _ _ _ hg bg (notInt_slice _ _ _)
/-- What Int answers. -/
def IntAns (w : World) (v : Value) (n d : Int) (m : Nat) : Prop :=
  ∃ t, v = .tuple #[t, .bool (decide ((pN n d).tmod (pD d) = 0))] ∧ ((pN n d).tmod (pD d) = 0 → OutE w t ((pN n d).tdiv (pD d)) (m + 3)) ∧ ((pN n d).tmod (pD d) ≠ 0 → t = .agg #[.bool false, .slice none 0 0])
end Go.Proofs.YtmpefgemlpnbiaaGreat
