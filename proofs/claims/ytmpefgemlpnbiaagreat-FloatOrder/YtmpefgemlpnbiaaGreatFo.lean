/- A fraction of two numbers; the order of fractions. -/
import Derived.Test.YtmpefgemlpnbiaaGreatFm
namespace Go.Proofs.YtmpefgemlpnbiaaGreat
open Go.RowKit
attribute [local go_sem ↓] Go.wp_at_zero Go.wp_at_succ
theorem boxes_of (w : World) (n1 : Bool) (a1 : Option Addr) (l1 c1 : Nat) (n2 : Bool) (a2 : Option Addr) (l2 c2 : Nat) : ∃ W, W = ((w.alloc (.cells #[.bool n1, .slice a1 l1 c1] 24)).alloc (.cells #[.bool n2, .slice a2 l2 c2] 24)).alloc (.cells #[.bool false, .slice none 0 0, .bool false, .slice none 0 0] 26) ∧ Below w.heap.size w W ∧
    (W.cell? ⟨w.heap.size, 0, none⟩ = some (.bool n1) ∧ W.cell? ⟨w.heap.size, 1, none⟩ = some (.slice a1 l1 c1) ∧ W.cell? ⟨w.heap.size + 1, 0, none⟩ = some (.bool n2) ∧ W.cell? ⟨w.heap.size + 1, 1, none⟩ = some (.slice a2 l2 c2)) ∧ Box4 W (w.heap.size + 1 + 1) := by
  refine ⟨_, rfl, (((Below.refl _ _).alloc (Nat.le_refl _) _).alloc (by simp) _).alloc (by simp; omega) _, ⟨?_, ?_, ?_, ?_⟩, ?n0⟩
  case n0 =>
    have h := Box4.new ((w.alloc (.cells #[.bool n1, .slice a1 l1 c1] 24)).alloc (.cells #[.bool n2, .slice a2 l2 c2] 24)) false none 0 0 false none 0 0 26 (by decide)
    rw [show ((w.alloc (.cells #[.bool n1, .slice a1 l1 c1] 24)).alloc (.cells #[.bool n2, .slice a2 l2 c2] 24)).heap.size = w.heap.size + 1 + 1 from by simp] at h
    exact h
  all_goals simp [go_sem, World.cell?_alloc_past]
theorem put4_boxed {base : Nat} {w : World} {g : Nat} (hg : NoInt w g) (bg : base ≤ g) (m1 : Bool) (a1 : Option Addr) (l1 c1 : Nat) (m2 : Bool) (a2 : Option Addr) (l2 c2 : Nat) : Boxed base w ((((w.setCell ⟨g, 0, none⟩ (.bool m1)).setCell ⟨g, 1, none⟩ (.slice a1 l1 c1)).setCell ⟨g, 2, none⟩ (.bool m2)).setCell ⟨g, 3, none⟩ (.slice a2 l2 c2)) :=
  (((Boxed.refl.set _ _ _ hg bg (notInt_bool _)).set _ _ _ hg bg (notInt_slice _ _ _)).set _ _ _ hg bg (notInt_bool _)).set _ _ _ hg bg (notInt_slice _ _ _)
theorem Boxed.fracE {base : Nat} {w w' : World} (h : Boxed base w w') {v : Value} {n d : Int} {m : Nat} (hf : FracE w v n d m) : FracE w' v n d m := by
  obtain ⟨n1, a1, l1, c1, n2, a2, l2, c2, hv, h1, h2⟩ := hf
  exact ⟨n1, a1, l1, c1, n2, a2, l2, c2, hv, h.out h1, h.out h2⟩
theorem Boxed.lowE {base : Nat} {w w' : World} (h : Boxed base w w') {v : Value} {n d : Int} {m : Nat} (hf : LowE w v n d m) : LowE w' v n d m := by
  obtain ⟨p, q, h1, h2⟩ := hf
  exact ⟨p, q, h.fracE h1, h2⟩
/-- What Of answers. -/
def OfAns (w : World) (v : Value) (n d : Int) (m : Nat) : Prop := ∃ t, v = .tuple #[t, .bool (decide (d ≠ 0))] ∧ (d = 0 → FracE w t 0 1 (m + 2)) ∧ (d ≠ 0 → LowE w t (pN n d) (pD d) (m + 2))
theorem FracE.more {w : World} {v : Value} {n d : Int} {m k : Nat} (h : FracE w v n d m) (hk : m ≤ k) : FracE w v n d k := by
  obtain ⟨n1, a1, l1, c1, n2, a2, l2, c2, hv, h1, h2⟩ := h
  exact ⟨n1, a1, l1, c1, n2, a2, l2, c2, hv, h1.more hk, h2.more hk⟩
theorem LowE.more {w : World} {v : Value} {n d : Int} {m k : Nat} (h : LowE w v n d m) (hk : m ≤ k) : LowE w v n d k := by
  obtain ⟨p, q, h1, h2⟩ := h
  exact ⟨p, q, h1.more hk, h2⟩
set_option maxRecDepth 20000 in
set_option maxHeartbeats 4000000 in
theorem Of26_num {w : World} {u v : Value} {n d : Int} {m : Nat} (hu : Num w u n m) (hv : Num w v d m) (hm : m ≤ 200) :
    Calls Tryz.prog 68 #[u, v] w fun e w' => ∃ t, e = .returned t ∧ OfAns w' t n d m ∧ Below w.heap.size w w' := by
  obtain ⟨n1, a1, l1, c1, rfl⟩ := hu.form
  obtain ⟨n2, a2, l2, c2, rfl⟩ := hv.form
  obtain ⟨W, hW, hbW, ⟨e0, e1, e2, e3⟩, x0⟩ := boxes_of w n1 a1 l1 c1 n2 a2 l2 c2
  have k1 := isZero_num (hv.next hbW) (by omega)
  replace k1 : Hid _ := k1
  go_enter Tryz.func68, Tryz.ntmps68
  go_wp2_with fail
  rw [← hW]
  clear hW
  refine Calls.mono k1.out ?_
  rintro e w1 ⟨rfl, hb1⟩
  clear k1
  have p0 := keep_cell hb1 e0
  have p1 := keep_cell hb1 e1
  have p2 := keep_cell hb1 e2
  have p3 := keep_cell hb1 e3
  have y0 := x0.next hb1
  have hN := (hu.next hbW).next hb1
  have hD := (hv.next hbW).next hb1
  have hB1 := bthen hbW hb1
  clear e0 e1 e2 e3
  by_cases hz : d = 0
  · have hd : decide (d = 0) = true := by simpa using hz
    have hd' : Hid (decide (d ≠ 0) = false) := by show _ = _; simpa using hz
    have k2 := zero_any w1
    replace k2 : Hid _ := k2
    rw [hd]
    have hz' : Hid _ := hz
    clear hz hd
    go_wp2_with fail
    refine Calls.mono k2.out ?_
    rintro e w2 ⟨t, rfl, hF, hb2⟩
    clear k2
    obtain ⟨n3, a3, l3, c3, n4, a4, l4, c4, rfl⟩ := hF.form
    have y1 := y0.next hb2
    obtain ⟨_, _, _, _, _, _, _, _, j0, j1, j2, j3, f⟩ := y1.cells
    have f0 := f 0
    have f1 := f 1
    have f2 := f 2
    have f3 := f 3
    have hbx : Hid _ := put4_boxed (base := w.heap.size) y1.noint (by omega) n3 a3 l3 c3 n4 a4 l4 c4
    have hB2 := bthen hB1 hb2
    clear f
    go_wp2
    exact bodyPost_ret (v := .tuple #[.agg #[.bool n3, .slice a3 l3 c3, .bool n4, .slice a4 l4 c4], .bool false]) (by simp [results, Tryz.results68, go_sem, j0, j1, j2, j3]) rfl ⟨_, rfl, ⟨_, by rw [hd'.out], fun _ => (hbx.out.fracE hF).more (by omega), fun h => absurd hz'.out h⟩, hbx.out.keep hB2 (Nat.le_refl _) hB2.size⟩
  · have hd : decide (d = 0) = false := by simpa using hz
    have hd' : Hid (decide (d ≠ 0) = true) := by show _ = _; simpa using hz
    have k2 := lowest_num (Num.frac hN hD rfl rfl) hm
    replace k2 : Hid _ := k2
    rw [hd]
    have hz' : Hid (d ≠ 0) := hz
    clear hz hd
    go_wp2_with fail
    refine Calls.mono k2.out ?_
    rintro e w2 ⟨t, p, q, rfl, hF, hlow, hb2⟩
    clear k2
    obtain ⟨n3, a3, l3, c3, n4, a4, l4, c4, rfl⟩ := hF.form
    have y1 := y0.next hb2
    obtain ⟨_, _, _, _, _, _, _, _, j0, j1, j2, j3, f⟩ := y1.cells
    have f0 := f 0
    have f1 := f 1
    have f2 := f 2
    have f3 := f 3
    have hbx : Hid _ := put4_boxed (base := w.heap.size) y1.noint (by omega) n3 a3 l3 c3 n4 a4 l4 c4
    have hB2 := bthen hB1 hb2
    replace hlow : Hid _ := hlow
    clear f
    go_wp2
    exact bodyPost_ret (v := .tuple #[.agg #[.bool n3, .slice a3 l3 c3, .bool n4, .slice a4 l4 c4], .bool true]) (by simp [results, Tryz.results68, go_sem, j0, j1, j2, j3]) rfl ⟨_, rfl, ⟨_, by rw [hd'.out], fun h => absurd h hz'.out, fun _ => ⟨p, q, hbx.out.fracE hF, hlow.out⟩⟩, hbx.out.keep hB2 (Nat.le_refl _) hB2.size⟩
end Go.Proofs.YtmpefgemlpnbiaaGreat
