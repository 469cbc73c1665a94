/- The greatest common divisor. -/
import Derived.Test.YthiiglhecajhbaaGreatRgf
import Derived.Deep.LoopGhost
namespace Go.Proofs.YthiiglhecajhbaaGreat
open Go.RowKit
attribute [local go_sem ↓] Go.wp_at_zero Go.wp_at_succ
theorem Num.abs {w : World} {m : Bool} {a : Option Addr} {l c : Nat} {z : Int} {n : Nat} (h : Num w (.agg #[.bool m, .slice a l c]) z n) : Num w (.agg #[.bool false, .slice a l c]) (z.natAbs : Int) n := by
  obtain ⟨neg, a', cap, ds, hv, hr, rfl, hl⟩ := h
  simp at hv
  obtain ⟨rfl, rfl, rfl, rfl⟩ := hv
  exact ⟨false, a, c, ds, rfl, hr, val_abs (by decide) hr.words, hl⟩
theorem Num.bound {w : World} {v : Value} {z : Int} {n : Nat} (h : Num w v z n) : (z.natAbs : Int) < 4294967296 ^ n := by
  obtain ⟨neg, a', cap, ds, hv, hr, rfl, hl⟩ := h
  rw [← val_abs (by decide) hr.words]
  have h1 := val_lt (B := 4294967296) (by decide) hr.words
  have h2 := pow_mono (B := 4294967296) (by decide) hl
  omega
theorem OutE.fit {w : World} {v : Value} {z : Int} {n k : Nat} (h : OutE w v z n) (hz : (z.natAbs : Int) < 4294967296 ^ k) : OutE w v z k := by
  obtain ⟨b, neg, a, cap, ds, r1, r2, r3, r4, r5⟩ := h
  refine ⟨b, neg, a, cap, ds, r1, r2, r3, r4, nrm_len (B := 4294967296) (by decide) r2.words r3.1 ?_⟩
  rw [val_abs (n := neg) (by decide) r2.words, r4]
  exact hz
theorem gcd_step (A B : Nat) : Nat.gcd A B = Nat.gcd B (A % B) := by rw [Nat.gcd_comm A B, Nat.gcd_rec B A, Nat.gcd_comm]
theorem boxes3g (w : World) (m1 : Bool) (a1 : Option Addr) (l1 c1 : Nat) (m2 : Bool) (a2 : Option Addr) (l2 c2 : Nat) : ∃ W, W = ((w.alloc (.cells #[.bool m1, .slice a1 l1 c1] 24)).alloc (.cells #[.bool m2, .slice a2 l2 c2] 24)).alloc (.cells #[.bool false, .slice none 0 0] 24) ∧ Below w.heap.size w W ∧ w.heap.size + 1 + 1 < W.heap.size ∧
    (W.cell? ⟨w.heap.size, 0, none⟩ = some (.bool m1) ∧ W.cell? ⟨w.heap.size, 1, none⟩ = some (.slice a1 l1 c1) ∧ W.cell? ⟨w.heap.size + 1, 0, none⟩ = some (.bool m2) ∧ W.cell? ⟨w.heap.size + 1, 1, none⟩ = some (.slice a2 l2 c2) ∧ W.cell? ⟨w.heap.size + 1 + 1, 0, none⟩ = some (.bool false) ∧ W.cell? ⟨w.heap.size + 1 + 1, 1, none⟩ = some (.slice none 0 0)) ∧
    Box2 W w.heap.size ∧ Box2 W (w.heap.size + 1) ∧ Box2 W (w.heap.size + 1 + 1) := by
  refine ⟨_, rfl, (((Below.refl _ _).alloc (Nat.le_refl _) _).alloc (by simp) _).alloc (by simp; omega) _, by simp, ⟨?_, ?_, ?_, ?_, ?_, ?_⟩, ?n0, ?n1, ?n2⟩
  case n0 => exact ((Box2.new w m1 a1 l1 c1 24 (by decide)).next ((Below.refl _ _).alloc (Nat.le_refl _) _)).next ((Below.refl _ _).alloc (Nat.le_refl _) _)
  case n1 =>
    have h := Box2.new (w.alloc (.cells #[.bool m1, .slice a1 l1 c1] 24)) m2 a2 l2 c2 24 (by decide)
    rw [show (w.alloc (.cells #[.bool m1, .slice a1 l1 c1] 24)).heap.size = w.heap.size + 1 from by simp] at h
    exact h.next ((Below.refl _ _).alloc (Nat.le_refl _) _)
  case n2 =>
    have h := Box2.new ((w.alloc (.cells #[.bool m1, .slice a1 l1 c1] 24)).alloc (.cells #[.bool m2, .slice a2 l2 c2] 24)) false none 0 0 24 (by decide)
    rw [show ((w.alloc (.cells #[.bool m1, .slice a1 l1 c1] 24)).alloc (.cells #[.bool m2, .slice a2 l2 c2] 24)).heap.size = w.heap.size + 1 + 1 from by simp] at h
    exact h
  all_goals simp [go_sem, World.cell?_alloc_past]
/-- What the loop keeps: two numbers in their boxes, the answer's box beside. -/
def GcdAt (w w' : World) (p : Nat) (M : Nat) (A B : Nat) : Prop :=
  (∃ a l c, w'.cell? ⟨p, 0, none⟩ = some (.bool false) ∧ w'.cell? ⟨p, 1, none⟩ = some (.slice a l c) ∧ Num w' (.agg #[.bool false, .slice a l c]) (A : Int) M) ∧
  (∃ a l c, w'.cell? ⟨p + 1, 0, none⟩ = some (.bool false) ∧ w'.cell? ⟨p + 1, 1, none⟩ = some (.slice a l c) ∧ Num w' (.agg #[.bool false, .slice a l c]) (B : Int) M) ∧
  (∃ m a l c, w'.cell? ⟨p + 1 + 1, 0, none⟩ = some (.bool m) ∧ w'.cell? ⟨p + 1 + 1, 1, none⟩ = some (.slice a l c)) ∧
  Box2 w' p ∧ Box2 w' (p + 1) ∧ Box2 w' (p + 1 + 1) ∧ Below p w w'
theorem Box2.set_other {w : World} {b : Nat} (h : Box2 w b) (g o : Nat) (u : Value) (hg : g ≠ b) : Box2 (w.setCell ⟨g, o, none⟩ u) b := h.same (Below.heap_setCell _ _ _ _ (Ne.symm hg))
theorem GcdAt.of {w w1 : World} {p M A B : Nat} {a : Option Addr} {l c : Nat} {a' : Option Addr} {l' c' : Nat} (hA : Num w1 (.agg #[.bool false, .slice a l c]) (A : Int) M) (hB : Num w1 (.agg #[.bool false, .slice a' l' c']) (B : Int) M) (x0 : Box2 w1 p) (x1 : Box2 w1 (p + 1)) (x2 : Box2 w1 (p + 1 + 1)) (hb : Below p w w1) :
    GcdAt w ((((w1.setCell ⟨p, 0, none⟩ (.bool false)).setCell ⟨p, 1, none⟩ (.slice a l c)).setCell ⟨p + 1, 0, none⟩ (.bool false)).setCell ⟨p + 1, 1, none⟩ (.slice a' l' c')) p M A B := by
  obtain ⟨_, _, _, _, k0, k1, _⟩ := x0.cells
  obtain ⟨_, _, _, _, k2, k3, _⟩ := x1.cells
  obtain ⟨m, b, i, d, k4, k5, _⟩ := x2.cells
  have hbx : Boxed p w1 ((((w1.setCell ⟨p, 0, none⟩ (.bool false)).setCell ⟨p, 1, none⟩ (.slice a l c)).setCell ⟨p + 1, 0, none⟩ (.bool false)).setCell ⟨p + 1, 1, none⟩ (.slice a' l' c')) := put22 x0.noint x1.noint (Nat.le_refl _) (by omega) _ _ _ _ _ _ _ _
  have hlt := x0.noint.lt
  refine ⟨⟨a, l, c, by simp [go_sem, k0], by simp [go_sem, k1], hbx.num hA⟩, ⟨a', l', c', by simp [go_sem, k2], by simp [go_sem, k3], hbx.num hB⟩, ⟨m, b, i, d, by simp [go_sem, k4], by simp [go_sem, k5]⟩, ?_, ?_, ?_, hbx.keep hb (Nat.le_refl _) (by omega)⟩
  · exact ((x0.put _ _ _ _).set_other _ _ _ (by omega)).set_other _ _ _ (by omega)
  · exact ((x1.set_other _ _ _ (by omega)).set_other _ _ _ (by omega)).put _ _ _ _
  · exact (((x2.set_other _ _ _ (by omega)).set_other _ _ _ (by omega)).set_other _ _ _ (by omega)).set_other _ _ _ (by omega)
theorem GcdAt.next {w w1 w2 : World} {p M A B : Nat} (h : GcdAt w w1 p M A B) (hb : Below w1.heap.size w1 w2) : GcdAt w w2 p M A B := by
  obtain ⟨⟨a, l, c, h1, h2, h3⟩, ⟨a', l', c', h4, h5, h6⟩, ⟨m, b, i, d, h7, h8⟩, x0, x1, x2, hbl⟩ := h
  have hlt := x0.noint.lt
  exact ⟨⟨a, l, c, keep_cell hb h1, keep_cell hb h2, h3.next hb⟩, ⟨a', l', c', keep_cell hb h4, keep_cell hb h5, h6.next hb⟩, ⟨m, b, i, d, keep_cell hb h7, keep_cell hb h8⟩, x0.next hb, x1.next hb, x2.next hb, hbl.trans (hb.mono (by omega))⟩
theorem out_plus {w : World} {b : Nat} {m : Bool} {a : Option Addr} {l c : Nat} {z : Int} {n : Nat} (h : Out w b (.agg #[.bool m, .slice a l c]) z n) (hz : 0 ≤ z) : m = false := by
  obtain ⟨neg, a', cap, ds, hv, hr, hn, hzz, _⟩ := h
  simp at hv
  obtain ⟨rfl, rfl, rfl, rfl⟩ := hv
  cases m with
  | false => rfl
  | true => have := nrm_val_pos (B := 4294967296) (by decide) hr.words hn.1 (hn.2 rfl); simp [num] at hzz; omega
theorem two_boxes24 (w : World) (v0 v1 v2 v3 : Value) (T : TypeId) : ∃ W, W = (w.alloc (.cells #[v0, v1] T)).alloc (.cells #[v2, v3] T) ∧ Below w.heap.size w W ∧ w.heap.size + 1 < W.heap.size ∧
    (W.cell? ⟨w.heap.size, 0, none⟩ = some v0 ∧ W.cell? ⟨w.heap.size, 1, none⟩ = some v1 ∧ W.cell? ⟨w.heap.size + 1, 0, none⟩ = some v2 ∧ W.cell? ⟨w.heap.size + 1, 1, none⟩ = some v3) := by
  refine ⟨_, rfl, ((Below.refl _ _).alloc (Nat.le_refl _) _).alloc (by simp) _, by simp, ⟨?_, ?_, ?_, ?_⟩⟩ <;> simp [go_sem, World.cell?_alloc_past]
set_option maxRecDepth 20000 in
set_option maxHeartbeats 4000000 in
theorem gcd_num {w : World} {u v : Value} {y z : Int} {M : Nat} (hu : Num w u y M) (hv : Num w v z M) (hM : M ≤ 500) :
    Calls Tryz.prog 82 #[u, v] w fun e w' => ∃ t, e = .returned t ∧ Num w' t ((Nat.gcd y.natAbs z.natAbs : Nat) : Int) M ∧ Below w.heap.size w w' := by
  obtain ⟨n1, a1, l1, c1, rfl⟩ := hu.form
  obtain ⟨n2, a2, l2, c2, rfl⟩ := hv.form
  obtain ⟨W, hW, hbW, hlt, ⟨e0, e1, e2, e3, e4, e5⟩, x0, x1, x2⟩ := boxes3g w n1 a1 l1 c1 n2 a2 l2 c2
  obtain ⟨_, _, _, _, _, _, f0⟩ := x0.cells
  obtain ⟨_, _, _, _, _, _, f1⟩ := x1.cells
  have g0 := f0 0
  have g1 := f0 1
  have g2 := f1 0
  have g3 := f1 1
  have hA := (hu.next hbW).abs
  have hB := (hv.next hbW).abs
  go_enter Tryz.func82, Tryz.ntmps82
  go_wp2
  rw [← hW]
  clear hW
  have hG := (GcdAt.of hA hB x0 x1 x2 hbW).next ((Below.refl _ _).drew)
  replace hG : Hid _ := hG
  have hMb := hB.bound
  go_region
  go_wp2
  clear e0 e1 e2 e3 e4 e5 f0 f1 g0 g1 g2 g3 x0 x1 x2 hA hB hbW
  generalize ((((W.setCell { block := w.heap.size, off := 0 } (Value.bool false)).setCell { block := w.heap.size, off := 1 } (Value.slice a1 l1 c1)).setCell { block := w.heap.size + 1, off := 0 } (Value.bool false)).setCell { block := w.heap.size + 1, off := 1 } (Value.slice a2 l2 c2)).drew = W1 at *
  go_loopg [7] (z.natAbs) (fun k t wr => ∃ A B : Nat, k = B ∧ GcdAt w wr w.heap.size M A B ∧ Hid (Nat.gcd A B = Nat.gcd y.natAbs z.natAbs))
  case atStart => exact ⟨y.natAbs, z.natAbs, rfl, hG.out, rfl⟩
  case round =>
    clear hG
    obtain ⟨A, B, rfl, ⟨⟨aA, lA, cA, p0, p1, hA⟩, ⟨aB, lB, cB, p2, p3, hB⟩, ⟨mR, aR, lR, cR, p4, p5⟩, x0, x1, x2, hbel⟩, hg⟩ := hrel
    obtain ⟨_, _, _, _, _, _, f0⟩ := x0.cells
    obtain ⟨_, _, _, _, _, _, f1⟩ := x1.cells
    obtain ⟨_, _, _, _, _, _, f2⟩ := x2.cells
    have l2 : w.heap.size + 1 + 1 < wr.heap.size := x2.noint.lt
    by_cases hB0 : gk = 0
    · subst hB0
      have kq := Quo_none hA hB (by omega) (by omega)
      replace kq : Hid _ := kq
      go_wp2_with fail
      refine Calls.mono kq.out ?_
      rintro e w3 ⟨rfl, hb3⟩
      clear kq
      have q0 := keep_cell hb3 p0
      have q1 := keep_cell hb3 p1
      have q4 := keep_cell hb3 p4
      have q5 := keep_cell hb3 p5
      have g4 := keep_frozen hb3 p4 (f2 0)
      have g5 := keep_frozen hb3 p5 (f2 1)
      have hs3 := hb3.size
      have i0 : w.heap.size < w3.heap.size := by omega
      have i1 : w.heap.size < w3.heap.size + 1 := by omega
      have i2 : w.heap.size + 1 + 1 < w3.heap.size := by omega
      have i3 : w.heap.size + 1 + 1 < w3.heap.size + 1 := by omega
      have hA3 := hA.next hb3
      have hgA : Hid (((Nat.gcd y.natAbs z.natAbs : Nat) : Int) = (A : Int)) := by show _ = _; rw [← hg.out, Nat.gcd_zero_right]
      have hbx : Boxed w.heap.size w3 ((w3.setCell ⟨w.heap.size + 1 + 1, 0, none⟩ (.bool false)).setCell ⟨w.heap.size + 1 + 1, 1, none⟩ (.slice aA lA cA)) := (Boxed.refl.set _ _ _ (x2.next hb3).noint (by omega) (notInt_bool _)).set _ _ _ (x2.next hb3).noint (by omega) (notInt_slice _ _ _)
      have hbx := (hbx.alloc (.cells #[.bool false, .slice none 0 0] 24)).alloc (.cells #[.bool false, .slice none 0 0] 24)
      have hB3 := hbel.trans (hb3.mono (by omega))
      replace hbx : Hid _ := hbx
      clear hA hB hb3 p0 p1 p2 p3 p4 p5
      go_wp2
      exact bodyPost_ret (v := .agg #[.bool false, .slice aA lA cA]) (by simp [results, Tryz.results82, go_sem, q4, q5, i2, i3]) rfl ⟨_, rfl, by rw [hgA.out]; exact hbx.out.num hA3, hbx.out.keep hB3 (Nat.le_refl _) hB3.size⟩
    · have hBne : ((gk : Nat) : Int) ≠ 0 := by omega
      have kq := Quo_num hA hB (by omega) (by omega) hBne
      have hmod : ((A : Int)).tmod (gk : Int) = ((A % gk : Nat) : Int) := by rw [Int.tmod_eq_emod_of_nonneg (by omega)]; omega
      rw [hmod] at kq
      replace kq : Hid _ := kq
      replace hmod : Hid _ := hmod
      have hlt' : A % gk < gk := Nat.mod_lt _ (by omega)
      have hBb := hB.bound
      go_wp2_with fail
      refine Calls.mono kq.out ?_
      rintro e w3 ⟨t, t', rfl, hO, hO', hb3⟩
      clear kq
      obtain ⟨n3, a3, l3, d3, rfl⟩ := hO.form
      obtain ⟨n4, a4, l4, d4, rfl⟩ := hO'.form
      have hn4 : n4 = false := out_plus hO' (by omega)
      subst hn4
      obtain ⟨W3, hW3, hbW3, hlW3, r0, r1, r2, r3⟩ := two_boxes24 w3 (.bool n3) (.slice a3 l3 d3) (.bool false) (.slice a4 l4 d4) 24
      have oR : OutE w3 (.agg #[.bool false, .slice a4 l4 d4]) ((A % gk : Nat) : Int) M := (OutE.fit ⟨_, hO'⟩ (by simp only [Int.natAbs_natCast] at hBb ⊢; omega))
      have nR := oR.num
      have hbx := bthen hb3 hbW3
      have y0 := x0.next hb3
      have y1 := x1.next hb3
      have y2 := x2.next hb3
      have hB3 := hB.next hb3
      have hbl3 := hbel.trans (hb3.mono (by omega))
      have hG := (GcdAt.of (A := gk) (B := A % gk) hB3 nR y0 y1 y2 hbl3).next ((((Below.refl _ _).alloc (Nat.le_refl _) (.cells #[.bool n3, .slice a3 l3 d3] 24)).alloc (by simp) (.cells #[.bool false, .slice a4 l4 d4] 24)).drew)
      have hs3 := hb3.size
      have q2 := keep_cell hb3 p2
      have q3 := keep_cell hb3 p3
      have q0 := keep_cell hb3 p0
      have q1 := keep_cell hb3 p1
      have g0 := keep_frozen hb3 p0 (f0 0)
      have g1 := keep_frozen hb3 p1 (f0 1)
      have g2 := keep_frozen hb3 p2 (f1 0)
      have g3 := keep_frozen hb3 p3 (f1 1)
      have i0 : w.heap.size < w3.heap.size := by omega
      have i1 : w.heap.size < w3.heap.size + 1 := by omega
      have i2 : w.heap.size + 1 < w3.heap.size := by omega
      have i3 : w.heap.size + 1 < w3.heap.size + 1 := by omega
      have hgg : Hid (Nat.gcd gk (A % gk) = Nat.gcd y.natAbs z.natAbs) := by show _ = _; rw [← gcd_step]; exact hg.out
      replace hG : Hid _ := hG
      clear hA hB hB3 nR oR hO hO' y0 y1 y2 x0 x1 x2 hbx hbl3 p0 p1 p2 p3 p4 p5 hbel
      go_wp2
      go_region
      go_wp2
      go_roundg (A % gk)
      case measure => exact hlt'
      case rel => exact ⟨gk, A % gk, rfl, hG.out, hgg⟩
end Go.Proofs.YthiiglhecajhbaaGreat
