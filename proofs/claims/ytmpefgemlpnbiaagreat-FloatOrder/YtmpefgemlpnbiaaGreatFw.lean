/- Opposites of fractions; whole numbers as fractions. -/
import Derived.Test.YtmpefgemlpnbiaaGreatFq
namespace Go.Proofs.YtmpefgemlpnbiaaGreat
open Go.RowKit
attribute [local go_sem ↓] Go.wp_at_zero Go.wp_at_succ
theorem boxes_whole (w : World) (n1 : Bool) (a1 : Option Addr) (l1 c1 : Nat) : ∃ W, W = (w.alloc (.cells #[.bool n1, .slice a1 l1 c1] 24)).alloc (.cells #[.bool false, .slice none 0 0, .bool false, .slice none 0 0] 26) ∧ Below w.heap.size w W ∧
    (W.cell? ⟨w.heap.size, 0, none⟩ = some (.bool n1) ∧ W.cell? ⟨w.heap.size, 1, none⟩ = some (.slice a1 l1 c1)) ∧ Box4 W (w.heap.size + 1) := by
  refine ⟨_, rfl, ((Below.refl _ _).alloc (Nat.le_refl _) _).alloc (by simp) _, ⟨?_, ?_⟩, ?n0⟩
  case n0 =>
    have h := Box4.new (w.alloc (.cells #[.bool n1, .slice a1 l1 c1] 24)) false none 0 0 false none 0 0 26 (by decide)
    rw [show (w.alloc (.cells #[.bool n1, .slice a1 l1 c1] 24)).heap.size = w.heap.size + 1 from by simp] at h
    exact h
  all_goals simp [go_sem, World.cell?_alloc_past]
set_option maxRecDepth 20000 in
set_option maxHeartbeats 4000000 in
theorem Whole_num {w : World} {u : Value} {n : Int} {m : Nat} (hu : Num w u n m) (hm : m ≤ 190) :
    Calls Tryz.prog 63 #[u] w fun e w' => ∃ t, e = .returned t ∧ LowE w' t n 1 (m + 4) ∧ Below w.heap.size w w' := by
  obtain ⟨n1, a1, l1, c1, rfl⟩ := hu.form
  obtain ⟨W, hW, hbW, ⟨e0, e1⟩, x0⟩ := boxes_whole w n1 a1 l1 c1
  have hU := hu.next hbW
  have hD0 : Below W.heap.size W W.drew := (Below.refl _ _).drew
  go_enter Tryz.func63, Tryz.ntmps63
  go_wp2
  rw [← hW]
  clear hW
  go_region_with (first
    | (go_at_call 46; refine (Of_any 1 _ (by decide) (by decide)).mono ?_; rintro e w2 ⟨t, rfl, hO, hb2⟩; obtain ⟨n3, a3, l3, c3, rfl⟩ := hO.form; have hB2 : Below W.heap.size W w2 := bthen hD0 hb2; have p0 := keep_cell hB2 e0; have p1 := keep_cell hB2 e1)
    | (go_at_call 90; refine (lowest_pos (Num.frac ((hU.next hB2).more' (m := m + 2) (by omega)) (hO.num.more' (m := m + 2) (by omega)) rfl rfl) (by omega) (by decide)).mono ?_; rintro e w3 ⟨t, rfl, hL, hb3⟩; obtain ⟨n4, a4, l4, c4, n5, a5, l5, c5, rfl⟩ := hL.form; have hB3 : Below W.heap.size W w3 := bthen hB2 hb3; have y0 := x0.next hB3; obtain ⟨_, _, _, _, _, _, _, _, j0, j1, j2, j3, f⟩ := y0.cells; have f0 := f 0; have f1 := f 1; have f2 := f 2; have f3 := f 3; clear f))
  all_goals
    have hbx : Hid _ := put4_boxed (base := w.heap.size) y0.noint (by omega) n4 a4 l4 c4 n5 a5 l5 c5
    have hBf := bthen hbW hB3
    have hLf : Hid _ := hbx.out.lowE hL
    clear hO hL hU hb2 hb3 hB2 hB3
    go_wp2
    exact bodyPost_ret (v := .agg #[.bool n4, .slice a4 l4 c4, .bool n5, .slice a5 l5 c5]) (by simp [results, Tryz.results63, go_sem, j0, j1, j2, j3]) rfl ⟨_, rfl, hLf.out, hbx.out.keep hBf (Nat.le_refl _) hBf.size⟩
end Go.Proofs.YtmpefgemlpnbiaaGreat
