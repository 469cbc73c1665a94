/- The greatest common divisor. -/
import Derived.Test.YtclokcoimdjaeaaGreatDoorRgfm
import Derived.Deep.LoopGhost
namespace Go.Proofs.YtclokcoimdjaeaaGreatDoor
open Go.RowKit
attribute [local go_sem ↓] Go.wp_at_zero Go.wp_at_succ
theorem Num.abs {w : World} {m : Bool} {a : Option Addr} {l c : Nat} {z : Int} {n : Nat} (h : Num w (.agg #[.bool m, .slice a l c]) z n) : Num w (.agg #[.bool false, .slice a l c]) (z.natAbs : Int) n := by
  obtain ⟨neg, a', cap, ds, hv, hr, rfl, hl⟩ := h
  simp at hv
  obtain ⟨rfl, rfl, rfl, rfl⟩ := hv
  exact ⟨false, a, c, ds, rfl, hr, val_abs (by decide) hr.words, hl⟩
theorem Num.bound {w : World} {v : Value} {z : Int} {n : Nat} (h : Num w v z n) : (z.natAbs : Int) < 4294967296 ^ n := by
  obtain ⟨neg, a', cap, ds, hv, hr, rfl, hl⟩ := h
  rw [← val_abs (by decide) hr.words]
  have h1 := val_lt (B := 4294967296) (by decide) hr.words
  have h2 := pow_mono (B := 4294967296) (by decide) hl
  omega
theorem OutE.fit {w : World} {v : Value} {z : Int} {n k : Nat} (h : OutE w v z n) (hz : (z.natAbs : Int) < 4294967296 ^ k) : OutE w v z k := by
  obtain ⟨b, neg, a, cap, ds, r1, r2, r3, r4, r5⟩ := h
  refine ⟨b, neg, a, cap, ds, r1, r2, r3, r4, nrm_len (B := 4294967296) (by decide) r2.words r3.1 ?_⟩
  rw [val_abs (n := neg) (by decide) r2.words, r4]
  exact hz
theorem gcd_step (A B : Nat) : Nat.gcd A B = Nat.gcd B (A % B) := by rw [Nat.gcd_comm A B, Nat.gcd_rec B A, Nat.gcd_comm]
theorem boxes3g (w : World) (m1 : Bool) (a1 : Option Addr) (l1 c1 : Nat) (m2 : Bool) (a2 : Option Addr) (l2 c2 : Nat) : ∃ W, W = ((w.alloc (.cells #[.bool m1, .slice a1 l1 c1] 28)).alloc (.cells #[.bool m2, .slice a2 l2 c2] 28)).alloc (.cells #[.bool false, .slice none 0 0] 28) ∧ Below w.heap.size w W ∧ w.heap.size + 1 + 1 < W.heap.size ∧
    (W.cell? ⟨w.heap.size, 0, none⟩ = some (.bool m1) ∧ W.cell? ⟨w.heap.size, 1, none⟩ = some (.slice a1 l1 c1) ∧ W.cell? ⟨w.heap.size + 1, 0, none⟩ = some (.bool m2) ∧ W.cell? ⟨w.heap.size + 1, 1, none⟩ = some (.slice a2 l2 c2) ∧ W.cell? ⟨w.heap.size + 1 + 1, 0, none⟩ = some (.bool false) ∧ W.cell? ⟨w.heap.size + 1 + 1, 1, none⟩ = some (.slice none 0 0)) ∧
    Box2 W w.heap.size ∧ Box2 W (w.heap.size + 1) ∧ Box2 W (w.heap.size + 1 + 1) := by
  refine ⟨_, rfl, (((Below.refl _ _).alloc (Nat.le_refl _) _).alloc (by simp) _).alloc (by simp; omega) _, by simp, ⟨?_, ?_, ?_, ?_, ?_, ?_⟩, ?n0, ?n1, ?n2⟩
  case n0 => exact ((Box2.new w m1 a1 l1 c1 28 (by decide)).next ((Below.refl _ _).alloc (Nat.le_refl _) _)).next ((Below.refl _ _).alloc (Nat.le_refl _) _)
  case n1 =>
    have h := Box2.new (w.alloc (.cells #[.bool m1, .slice a1 l1 c1] 28)) m2 a2 l2 c2 28 (by decide)
    rw [show (w.alloc (.cells #[.bool m1, .slice a1 l1 c1] 28)).heap.size = w.heap.size + 1 from by simp] at h
    exact h.next ((Below.refl _ _).alloc (Nat.le_refl _) _)
  case n2 =>
    have h := Box2.new ((w.alloc (.cells #[.bool m1, .slice a1 l1 c1] 28)).alloc (.cells #[.bool m2, .slice a2 l2 c2] 28)) false none 0 0 28 (by decide)
    rw [show ((w.alloc (.cells #[.bool m1, .slice a1 l1 c1] 28)).alloc (.cells #[.bool m2, .slice a2 l2 c2] 28)).heap.size = w.heap.size + 1 + 1 from by simp] at h
    exact h
  all_goals simp [go_sem, World.cell?_alloc_past]
/-- What the loop keeps: two numbers in their boxes, the answer's box beside. -/
def GcdAt (w w' : World) (p : Nat) (M : Nat) (A B : Nat) : Prop :=
  (∃ a l c, w'.cell? ⟨p, 0, none⟩ = some (.bool false) ∧ w'.cell? ⟨p, 1, none⟩ = some (.slice a l c) ∧ Num w' (.agg #[.bool false, .slice a l c]) (A : Int) M) ∧
  (∃ a l c, w'.cell? ⟨p + 1, 0, none⟩ = some (.bool false) ∧ w'.cell? ⟨p + 1, 1, none⟩ = some (.slice a l c) ∧ Num w' (.agg #[.bool false, .slice a l c]) (B : Int) M) ∧
  (∃ m a l c, w'.cell? ⟨p + 1 + 1, 0, none⟩ = some (.bool m) ∧ w'.cell? ⟨p + 1 + 1, 1, none⟩ = some (.slice a l c)) ∧
  Box2 w' p ∧ Box2 w' (p + 1) ∧ Box2 w' (p + 1 + 1) ∧ Below p w w'
theorem Box2.set_other {w : World} {b : Nat} (h : Box2 w b) (g o : Nat) (u : Value) (hg : g ≠ b) : Box2 (w.setCell ⟨g, o, none⟩ u) b := h.same (Below.heap_setCell _ _ _ _ (Ne.symm hg))
theorem GcdAt.of {w w1 : World} {p M A B : Nat} {a : Option Addr} {l c : Nat} {a' : Option Addr} {l' c' : Nat} (hA : Num w1 (.agg #[.bool false, .slice a l c]) (A : Int) M) (hB : Num w1 (.agg #[.bool false, .slice a' l' c']) (B : Int) M) (x0 : Box2 w1 p) (x1 : Box2 w1 (p + 1)) (x2 : Box2 w1 (p + 1 + 1)) (hb : Below p w w1) :
    GcdAt w ((((w1.setCell ⟨p, 0, none⟩ (.bool false)).setCell ⟨p, 1, none⟩ (.slice a l c)).setCell ⟨p + 1, 0, none⟩ (.bool false)).setCell ⟨p + 1, 1, none⟩ (.slice a' l' c')) p M A B := by
  obtain ⟨_, _, _, _, k0, k1, _⟩ := x0.cells
  obtain ⟨_, _, _, _, k2, k3, _⟩ := x1.cells
  obtain ⟨m, b, i, d, k4, k5, _⟩ := x2.cells
  have hbx : Boxed p w1 ((((w1.setCell ⟨p, 0, none⟩ (.bool false)).setCell ⟨p, 1, none⟩ (.slice a l c)).setCell ⟨p + 1, 0, none⟩ (.bool false)).setCell ⟨p + 1, 1, none⟩ (.slice a' l' c')) := put22 x0.noint x1.noint (Nat.le_refl _) (by omega) _ _ _ _ _ _ _ _
  have hlt := x0.noint.lt
  refine ⟨⟨a, l, c, by simp [go_sem, k0], by simp [go_sem, k1], hbx.num hA⟩, ⟨a', l', c', by simp [go_sem, k2], by simp [go_sem, k3], hbx.num hB⟩, ⟨m, b, i, d, by simp [go_sem, k4], by simp [go_sem, k5]⟩, ?_, ?_, ?_, hbx.keep hb (Nat.le_refl _) (by omega)⟩
  · exact ((x0.put _ _ _ _).set_other _ _ _ (by omega)).set_other _ _ _ (by omega)
  · exact ((x1.set_other _ _ _ (by omega)).set_other _ _ _ (by omega)).put _ _ _ _
  · exact (((x2.set_other _ _ _ (by omega)).set_other _ _ _ (by omega)).set_other _ _ _ (by omega)).set_other _ _ _ (by omega)
theorem GcdAt.next {w w1 w2 : World} {p M A B : Nat} (h : GcdAt w w1 p M A B) (hb : Below w1.heap.size w1 w2) : GcdAt w w2 p M A B := by
  obtain ⟨⟨a, l, c, h1, h2, h3⟩, ⟨a', l', c', h4, h5, h6⟩, ⟨m, b, i, d, h7, h8⟩, x0, x1, x2, hbl⟩ := h
  have hlt := x0.noint.lt
  exact ⟨⟨a, l, c, keep_cell hb h1, keep_cell hb h2, h3.next hb⟩, ⟨a', l', c', keep_cell hb h4, keep_cell hb h5, h6.next hb⟩, ⟨m, b, i, d, keep_cell hb h7, keep_cell hb h8⟩, x0.next hb, x1.next hb, x2.next hb, hbl.trans (hb.mono (by omega))⟩
theorem out_plus {w : World} {b : Nat} {m : Bool} {a : Option Addr} {l c : Nat} {z : Int} {n : Nat} (h : Out w b (.agg #[.bool m, .slice a l c]) z n) (hz : 0 ≤ z) : m = false := by
  obtain ⟨neg, a', cap, ds, hv, hr, hn, hzz, _⟩ := h
  simp at hv
  obtain ⟨rfl, rfl, rfl, rfl⟩ := hv
  cases m with
  | false => rfl
  | true => have := nrm_val_pos (B := 4294967296) (by decide) hr.words hn.1 (hn.2 rfl); simp [num] at hzz; omega
theorem two_boxes24 (w : World) (v0 v1 v2 v3 : Value) (T : TypeId) : ∃ W, W = (w.alloc (.cells #[v0, v1] T)).alloc (.cells #[v2, v3] T) ∧ Below w.heap.size w W ∧ w.heap.size + 1 < W.heap.size ∧
    (W.cell? ⟨w.heap.size, 0, none⟩ = some v0 ∧ W.cell? ⟨w.heap.size, 1, none⟩ = some v1 ∧ W.cell? ⟨w.heap.size + 1, 0, none⟩ = some v2 ∧ W.cell? ⟨w.heap.size + 1, 1, none⟩ = some v3) := by
  refine ⟨_, rfl, ((Below.refl _ _).alloc (Nat.le_refl _) _).alloc (by simp) _, by simp, ⟨?_, ?_, ?_, ?_⟩⟩ <;> simp [go_sem, World.cell?_alloc_past]
set_option maxRecDepth 20000 in
set_option maxHeartbeats 4000000 in
theorem gcd_num {w : World} {u v : Value} {y z : Int} {M : Nat} (hu : Num w u y M) (hv : Num w v z M) (hM : M ≤ 500) :
    Calls Tryz.prog 186 #[u, v] w fun e w' => ∃ t, e = .returned t ∧ Num w' t ((Nat.gcd y.natAbs z.natAbs : Nat) : Int) M ∧ Below w.heap.size w w' := by
  obtain ⟨n1, a1, l1, c1, rfl⟩ := hu.form
  obtain ⟨n2, a2, l2, c2, rfl⟩ := hv.form
  obtain ⟨W, hW, hbW, hlt, ⟨e0, e1, e2, e3, e4, e5⟩, x0, x1, x2⟩ := boxes3g w n1 a1 l1 c1 n2 a2 l2 c2
  obtain ⟨_, _, _, _, _, _, f0⟩ := x0.cells
  obtain ⟨_, _, _, _, _, _, f1⟩ := x1.cells
  have g0 := f0 0
  have g1 := f0 1
  have g2 := f1 0
  have g3 := f1 1
  have hA := (hu.next hbW).abs
  have hB := (hv.next hbW).abs
  go_enter Tryz.func186, Tryz.ntmps186
  go_wp2
  rw [← hW]
  clear hW
  have hG := (GcdAt.of hA hB x0 x1 x2 hbW).next ((Below.refl _ _).drew)
  replace hG : Hid _ := hG
  have hMb := hB.bound
  go_region
  go_wp2
  clear e0 e1 e2 e3 e4 e5 f0 f1 g0 g1 g2 g3 x0 x1 x2 hA hB hbW
  generalize ((((W.setCell { block := w.heap.size, off := 0 } (Value.bool false)).setCell { block := w.heap.size, off := 1 } (Value.slice a1 l1 c1)).setCell { block := w.heap.size + 1, off := 0 } (Value.bool false)).setCell { block := w.heap.size + 1, off := 1 } (Value.slice a2 l2 c2)).drew = W1 at *
  go_loopg [7] (z.natAbs) (fun k t wr => ∃ A B : Nat, k = B ∧ GcdAt w wr w.heap.size M A B ∧ Hid (Nat.gcd A B = Nat.gcd y.natAbs z.natAbs))
  case atStart => exact ⟨y.natAbs, z.natAbs, rfl, hG.out, rfl⟩
  case round =>
    clear hG
    obtain ⟨A, B, rfl, ⟨⟨aA, lA, cA, p0, p1, hA⟩, ⟨aB, lB, cB, p2, p3, hB⟩, ⟨mR, aR, lR, cR, p4, p5⟩, x0, x1, x2, hbel⟩, hg⟩ := hrel
    obtain ⟨_, _, _, _, _, _, f0⟩ := x0.cells
    obtain ⟨_, _, _, _, _, _, f1⟩ := x1.cells
    obtain ⟨_, _, _, _, _, _, f2⟩ := x2.cells
    have l2 : w.heap.size + 1 + 1 < wr.heap.size := x2.noint.lt
    by_cases hB0 : gk = 0
    · subst hB0
      have kq := Quo_none hA hB (by omega) (by omega)
      replace kq : Hid _ := kq
      go_wp2_with fail
      refine Calls.mono kq.out ?_
      rintro e w3 ⟨rfl, hb3⟩
      clear kq
      have q0 := keep_cell hb3 p0
      have q1 := keep_cell hb3 p1
      have q4 := keep_cell hb3 p4
      have q5 := keep_cell hb3 p5
      have g4 := keep_frozen hb3 p4 (f2 0)
      have g5 := keep_frozen hb3 p5 (f2 1)
      have hs3 := hb3.size
      have i0 : w.heap.size < w3.heap.size := by omega
      have i1 : w.heap.size < w3.heap.size + 1 := by omega
      have i2 : w.heap.size + 1 + 1 < w3.heap.size := by omega
      have i3 : w.heap.size + 1 + 1 < w3.heap.size + 1 := by omega
      have hA3 := hA.next hb3
      have hgA : Hid (((Nat.gcd y.natAbs z.natAbs : Nat) : Int) = (A : Int)) := by show _ = _; rw [← hg.out, Nat.gcd_zero_right]
      have hbx : Boxed w.heap.size w3 ((w3.setCell ⟨w.heap.size + 1 + 1, 0, none⟩ (.bool false)).setCell ⟨w.heap.size + 1 + 1, 1, none⟩ (.slice aA lA cA)) := (Boxed.refl.set _ _ _ (x2.next hb3).noint (by omega) (notInt_bool _)).set _ _ _ (x2.next hb3).noint (by omega) (notInt_slice _ _ _)
      have hbx := (hbx.alloc (.cells #[.bool false, .slice none 0 0] 28)).alloc (.cells #[.bool false, .slice none 0 0] 28)
      have hB3 := hbel.trans (hb3.mono (by omega))
      replace hbx : Hid _ := hbx
      clear hA hB hb3 p0 p1 p2 p3 p4 p5
      go_wp2
      exact bodyPost_ret (v := .agg #[.bool false, .slice aA lA cA]) (by simp [results, Tryz.results186, go_sem, q4, q5, i2, i3]) rfl ⟨_, rfl, by rw [hgA.out]; exact hbx.out.num hA3, hbx.out.keep hB3 (Nat.le_refl _) hB3.size⟩
    · have hBne : ((gk : Nat) : Int) ≠ 0 := by omega
      have kq := Quo_num hA hB (by omega) (by omega) hBne
      have hmod : ((A : Int)).tmod (gk : Int) = ((A % gk : Nat) : Int) := by rw [Int.tmod_eq_emod_of_nonneg (by omega)]; omega
      rw [hmod] at kq
      replace kq : Hid _ := kq
      replace hmod : Hid _ := hmod
      have hlt' : A % gk < gk := Nat.mod_lt _ (by omega)
      have hBb := hB.bound
      go_wp2_with fail
      refine Calls.mono kq.out ?_
      rintro e w3 ⟨t, t', rfl, hO, hO', hb3⟩
      clear kq
      obtain ⟨n3, a3, l3, d3, rfl⟩ := hO.form
      obtain ⟨n4, a4, l4, d4, rfl⟩ := hO'.form
      have hn4 : n4 = false := out_plus hO' (by omega)
      subst hn4
      obtain ⟨W3, hW3, hbW3, hlW3, r0, r1, r2, r3⟩ := two_boxes24 w3 (.bool n3) (.slice a3 l3 d3) (.bool false) (.slice a4 l4 d4) 28
      have oR : OutE w3 (.agg #[.bool false, .slice a4 l4 d4]) ((A % gk : Nat) : Int) M := (OutE.fit ⟨_, hO'⟩ (by simp only [Int.natAbs_natCast] at hBb ⊢; omega))
      have nR := oR.num
      have hbx := bthen hb3 hbW3
      have y0 := x0.next hb3
      have y1 := x1.next hb3
      have y2 := x2.next hb3
      have hB3 := hB.next hb3
      have hbl3 := hbel.trans (hb3.mono (by omega))
      have hG := (GcdAt.of (A := gk) (B := A % gk) hB3 nR y0 y1 y2 hbl3).next ((((Below.refl _ _).alloc (Nat.le_refl _) (.cells #[.bool n3, .slice a3 l3 d3] 28)).alloc (by simp) (.cells #[.bool false, .slice a4 l4 d4] 28)).drew)
      have hs3 := hb3.size
      have q2 := keep_cell hb3 p2
      have q3 := keep_cell hb3 p3
      have q0 := keep_cell hb3 p0
      have q1 := keep_cell hb3 p1
      have g0 := keep_frozen hb3 p0 (f0 0)
      have g1 := keep_frozen hb3 p1 (f0 1)
      have g2 := keep_frozen hb3 p2 (f1 0)
      have g3 := keep_frozen hb3 p3 (f1 1)
      have i0 : w.heap.size < w3.heap.size := by omega
      have i1 : w.heap.size < w3.heap.size + 1 := by omega
      have i2 : w.heap.size + 1 < w3.heap.size := by omega
      have i3 : w.heap.size + 1 < w3.heap.size + 1 := by omega
      have hgg : Hid (Nat.gcd gk (A % gk) = Nat.gcd y.natAbs z.natAbs) := by show _ = _; rw [← gcd_step]; exact hg.out
      replace hG : Hid _ := hG
      clear hA hB hB3 nR oR hO hO' y0 y1 y2 x0 x1 x2 hbx hbl3 p0 p1 p2 p3 p4 p5 hbel
      go_wp2
      go_region
      go_wp2
      go_roundg (A % gk)
      case measure => exact hlt'
      case rel => exact ⟨gk, A % gk, rfl, hG.out, hgg⟩
end Go.Proofs.YtclokcoimdjaeaaGreatDoor
namespace Go.Proofs.YtclokcoimdjaeaaGreatDoor
set_option linter.unusedVariables false
open Go.RowKit
attribute [local go_sem ↓] Go.wp_at_zero Go.wp_at_succ
/-- p over q is n over d in lowest terms. -/
def Low (n d p q : Int) : Prop := 0 < q ∧ Nat.gcd p.natAbs q.natAbs = 1 ∧ p * d = n * q
theorem low_of {n d : Int} (hd : 0 < d) : Low n d (n.tdiv (Nat.gcd n.natAbs d.natAbs : Nat)) (d.tdiv (Nat.gcd n.natAbs d.natAbs : Nat)) ∧ (0 : Int) < (Nat.gcd n.natAbs d.natAbs : Nat) := by
  have hg : 0 < Nat.gcd n.natAbs d.natAbs := Nat.gcd_pos_of_pos_right _ (by omega)
  obtain ⟨a, ha⟩ : ((Nat.gcd n.natAbs d.natAbs : Nat) : Int) ∣ n := Int.ofNat_dvd_left.2 (Nat.gcd_dvd_left _ _)
  obtain ⟨b, hb⟩ : ((Nat.gcd n.natAbs d.natAbs : Nat) : Int) ∣ d := Int.ofNat_dvd_left.2 (Nat.gcd_dvd_right _ _)
  have hco := Nat.gcd_div (Nat.gcd_dvd_left n.natAbs d.natAbs) (Nat.gcd_dvd_right n.natAbs d.natAbs)
  rw [Nat.div_self hg] at hco
  generalize hG : Nat.gcd n.natAbs d.natAbs = G at *
  have e1 : n.tdiv (G : Int) = a := by rw [ha, Int.mul_comm, Int.mul_tdiv_cancel _ (by omega)]
  have e2 : d.tdiv (G : Int) = b := by rw [hb, Int.mul_comm, Int.mul_tdiv_cancel _ (by omega)]
  have e3 : n.natAbs / G = a.natAbs := by rw [ha, Int.natAbs_mul, Int.natAbs_natCast, Nat.mul_div_cancel_left _ hg]
  have e4 : d.natAbs / G = b.natAbs := by rw [hb, Int.natAbs_mul, Int.natAbs_natCast, Nat.mul_div_cancel_left _ hg]
  rw [e1, e2]
  refine ⟨⟨?_, by rw [← e3, ← e4]; exact hco, ?_⟩, by omega⟩
  · by_cases h : 0 < b
    · exact h
    · have := Int.mul_le_mul_of_nonneg_left (show b ≤ 0 by omega) (show (0 : Int) ≤ (G : Int) by omega)
      omega
  · rw [ha, hb]; grind
theorem tdiv_le (n : Int) (g : Nat) (hg : 0 < g) : (n.tdiv (g : Int)).natAbs ≤ n.natAbs := by
  rw [Int.natAbs_tdiv, Int.natAbs_natCast]
  exact Nat.div_le_self _ _
theorem Box4.new (w : World) (m1 : Bool) (a1 : Option Addr) (l1 c1 : Nat) (m2 : Bool) (a2 : Option Addr) (l2 c2 : Nat) (T : TypeId) (hT : T ≠ 139) : Box4 (w.alloc (.cells #[.bool m1, .slice a1 l1 c1, .bool m2, .slice a2 l2 c2] T)) w.heap.size :=
  ⟨m1, a1, l1, c1, m2, a2, l2, c2, T, by show (w.heap.push _)[w.heap.size]? = _; simp, hT⟩
theorem boxes_low (w : World) (m1 : Bool) (a1 : Option Addr) (l1 c1 : Nat) (m2 : Bool) (a2 : Option Addr) (l2 c2 : Nat) : ∃ W, W = (w.alloc (.cells #[.bool m1, .slice a1 l1 c1, .bool m2, .slice a2 l2 c2] 30)).alloc (.cells #[.bool false, .slice none 0 0, .bool false, .slice none 0 0] 30) ∧ Below w.heap.size w W ∧
    (W.cell? ⟨w.heap.size, 0, none⟩ = some (.bool m1) ∧ W.cell? ⟨w.heap.size, 1, none⟩ = some (.slice a1 l1 c1) ∧ W.cell? ⟨w.heap.size, 2, none⟩ = some (.bool m2) ∧ W.cell? ⟨w.heap.size, 3, none⟩ = some (.slice a2 l2 c2)) ∧ Box4 W (w.heap.size + 1) := by
  refine ⟨_, rfl, ((Below.refl _ _).alloc (Nat.le_refl _) _).alloc (by simp) _, ⟨?_, ?_, ?_, ?_⟩, ?n⟩
  case n =>
    have h := Box4.new (w.alloc (.cells #[.bool m1, .slice a1 l1 c1, .bool m2, .slice a2 l2 c2] 30)) false none 0 0 false none 0 0 30 (by decide)
    rw [show (w.alloc (.cells #[.bool m1, .slice a1 l1 c1, .bool m2, .slice a2 l2 c2] 30)).heap.size = w.heap.size + 1 from by simp] at h
    exact h
  all_goals simp [go_sem, World.cell?_alloc_past]
theorem boxes_two (w : World) (m1 : Bool) (a1 : Option Addr) (l1 c1 : Nat) (m2 : Bool) (a2 : Option Addr) (l2 c2 : Nat) : ∃ W, W = (w.alloc (.cells #[.bool m1, .slice a1 l1 c1] 28)).alloc (.cells #[.bool m2, .slice a2 l2 c2] 28) ∧ Below w.heap.size w W ∧
    (W.cell? ⟨w.heap.size, 0, none⟩ = some (.bool m1) ∧ W.cell? ⟨w.heap.size, 1, none⟩ = some (.slice a1 l1 c1) ∧ W.cell? ⟨w.heap.size + 1, 0, none⟩ = some (.bool m2) ∧ W.cell? ⟨w.heap.size + 1, 1, none⟩ = some (.slice a2 l2 c2)) ∧ Box2 W w.heap.size ∧ Box2 W (w.heap.size + 1) := by
  refine ⟨_, rfl, ((Below.refl _ _).alloc (Nat.le_refl _) _).alloc (by simp) _, ⟨?_, ?_, ?_, ?_⟩, ?n0, ?n1⟩
  case n0 => exact (Box2.new w m1 a1 l1 c1 28 (by decide)).next ((Below.refl _ _).alloc (Nat.le_refl _) _)
  case n1 =>
    have h := Box2.new (w.alloc (.cells #[.bool m1, .slice a1 l1 c1] 28)) m2 a2 l2 c2 28 (by decide)
    rw [show (w.alloc (.cells #[.bool m1, .slice a1 l1 c1] 28)).heap.size = w.heap.size + 1 from by simp] at h
    exact h
  all_goals simp [go_sem, World.cell?_alloc_past]
theorem box_one (w : World) (m1 : Bool) (a1 : Option Addr) (l1 c1 : Nat) : ∃ W, W = w.alloc (.cells #[.bool m1, .slice a1 l1 c1] 28) ∧ Below w.heap.size w W ∧ (W.cell? ⟨w.heap.size, 0, none⟩ = some (.bool m1) ∧ W.cell? ⟨w.heap.size, 1, none⟩ = some (.slice a1 l1 c1)) ∧ Box2 W w.heap.size :=
  ⟨_, rfl, (Below.refl _ _).alloc (Nat.le_refl _) _, ⟨by simp [go_sem], by simp [go_sem]⟩, Box2.new w m1 a1 l1 c1 28 (by decide)⟩
set_option maxRecDepth 20000 in
set_option maxHeartbeats 4000000 in
theorem lowest_num {w : World} {v : Value} {n d : Int} {m : Nat} (hv : Frac w v n d m) (hm : m ≤ 480) :
    Calls Tryz.prog 121 #[v] w fun e w' => ∃ t p q, e = .returned t ∧ FracE w' t p q (m + 2) ∧ Low (pN n d) (pD d) p q ∧ Below w.heap.size w w' := by
  obtain ⟨n1, a1, l1, c1, n2, a2, l2, c2, rfl, h1, h2⟩ := hv
  obtain ⟨W, hW, hbW, ⟨e0, e1, e2, e3⟩, x4⟩ := boxes_low w n1 a1 l1 c1 n2 a2 l2 c2
  have hF : Frac W (.agg #[.bool n1, .slice a1 l1 c1, .bool n2, .slice a2 l2 c2]) n d m := ⟨_, _, _, _, _, _, _, _, rfl, h1.next hbW, h2.next hbW⟩
  have k1 := parts_num hF (by omega)
  obtain ⟨hlow, hgp⟩ := low_of (n := pN n d) (pD_pos d)
  have hdp := pD_pos d
  generalize pN n d = N at *
  generalize pD d = D at *
  replace k1 : Hid _ := k1
  replace hlow : Hid _ := hlow
  go_enter Tryz.func121, Tryz.ntmps121
  go_wp2_with fail
  rw [← hW]
  clear hW
  refine Calls.mono k1.out ?_
  rintro e w1 ⟨s, t, rfl, hN, hD, hb1⟩
  clear k1
  obtain ⟨n3, a3, l3, c3, rfl⟩ := hN.form
  obtain ⟨n4, a4, l4, c4, rfl⟩ := hD.form
  obtain ⟨W1, hW1, hbW1, ⟨p0, p1, p2, p3⟩, y0, y1⟩ := boxes_two w1 n3 a3 l3 c3 n4 a4 l4 c4
  have hN1 := hN.next hbW1
  have hD1 := hD.next hbW1
  have k2 := gcd_num hN1 hD1 (by omega)
  generalize hG : Nat.gcd N.natAbs D.natAbs = G at *
  replace k2 : Hid _ := k2
  have x4' := (x4.next hb1).next hbW1
  have hB1 := bthen (bthen hbW hb1) hbW1
  go_wp2_with fail
  rw [← hW1]
  clear hW1
  refine Calls.mono k2.out ?_
  rintro e w2 ⟨t, rfl, hg, hb2⟩
  clear k2
  obtain ⟨n5, a5, l5, c5, rfl⟩ := hg.form
  obtain ⟨W2, hW2, hbW2, ⟨q0, q1⟩, z0⟩ := box_one w2 n5 a5 l5 c5
  have hbx := bthen hb2 hbW2
  have hN2 := hN1.next hbx
  have hD2 := hD1.next hbx
  have hg2 := hg.next hbW2
  have k3 := Quo_num hN2 hg2 (by omega) (by omega) (by omega)
  replace k3 : Hid _ := k3
  have i0 := keep_cell hb2 p0
  have i1 := keep_cell hb2 p1
  have i2 : w1.heap.size < w2.heap.size := cell_lt i0
  go_wp2_with fail
  rw [← hW2]
  clear hW2 i0 i1
  obtain ⟨bN, hbN⟩ : ∃ g, w1.heap.size = g := ⟨_, rfl⟩
  obtain ⟨bG, hbG⟩ : ∃ g, w2.heap.size = g := ⟨_, rfl⟩
  rw [hbN] at p0 p1 p2 p3 y0 y1 i2 ⊢
  rw [hbG] at q0 q1 z0 i2 ⊢
  have r0 := keep_cell hbx p0
  have r1 := keep_cell hbx p1
  have r2 := keep_cell hbx p2
  have r3 := keep_cell hbx p3
  have u0 := y0.next hbx
  have u1 := y1.next hbx
  have x5 := x4'.next hbx
  have hB2 := bthen hB1 hbx
  refine Calls.mono k3.out ?_
  rintro e w3 ⟨t, t', rfl, hO, hO', hb3⟩
  clear k3
  obtain ⟨n6, a6, l6, c6, rfl⟩ := hO.form
  obtain ⟨n7, a7, l7, c7, rfl⟩ := hO'.form
  obtain ⟨_, _, _, _, _, _, fN⟩ := u0.cells
  obtain ⟨_, _, _, _, _, _, fD⟩ := u1.cells
  have s0 := keep_cell hb3 r0
  have s1 := keep_cell hb3 r1
  have s2 := keep_cell hb3 r2
  have s3 := keep_cell hb3 r3
  have t0 := keep_cell hb3 q0
  have t1 := keep_cell hb3 q1
  have gN0 := keep_frozen hb3 r0 (fN 0)
  have gN1 := keep_frozen hb3 r1 (fN 1)
  have o6 : OutE w3 (.agg #[.bool n6, .slice a6 l6 c6]) (N.tdiv (G : Int)) (m + 2) := OutE.fit ⟨_, hO⟩ (by have h1 := tdiv_le N G (by omega); have h2 := hN.bound; omega)
  have hbp : Boxed w.heap.size w3 ((w3.setCell ⟨bN, 0, none⟩ (.bool n6)).setCell ⟨bN, 1, none⟩ (.slice a6 l6 c6)) := (Boxed.refl.set _ _ _ (u0.next hb3).noint (by have := hB1.size; have := hbW.size; have := hb1.size; omega) (notInt_bool _)).set _ _ _ (u0.next hb3).noint (by have := hB1.size; have := hbW.size; have := hb1.size; omega) (notInt_slice _ _ _)
  have neG : bN ≠ bG := by omega
  have neD : bN ≠ bN + 1 := by omega
  obtain ⟨W3, hW3⟩ : ∃ X, X = (w3.setCell ⟨bN, 0, none⟩ (.bool n6)).setCell ⟨bN, 1, none⟩ (.slice a6 l6 c6) := ⟨_, rfl⟩
  have v0 : W3.cell? ⟨bN, 0, none⟩ = some (.bool n6) := by rw [hW3]; simp [go_sem, s0]
  have v1 : W3.cell? ⟨bN, 1, none⟩ = some (.slice a6 l6 c6) := by rw [hW3]; simp [go_sem, s1]
  have v2 : W3.cell? ⟨bN + 1, 0, none⟩ = some (.bool n4) := by rw [hW3]; exact keep_set (keep_set s2 neD) neD
  have v3 : W3.cell? ⟨bN + 1, 1, none⟩ = some (.slice a4 l4 c4) := by rw [hW3]; exact keep_set (keep_set s3 neD) neD
  rw [← hW3] at hbp
  have hD3 := hbp.num (hD2.next hb3)
  have hg3 := hbp.num (hg2.next hb3)
  have o6' := hbp.out o6
  have k4 := Quo_num hD3 hg3 (by omega) (by omega) (by omega)
  replace k4 : Hid _ := k4
  have hB3 : Below w.heap.size w W3 := hbp.keep (bthen hB2 hb3) (Nat.le_refl _) (bthen hB2 hb3).size
  have neR : w.heap.size + 1 ≠ bN + 1 := by have := hbW.size; have := hb1.size; have := x4.noint.lt; omega
  have neR' : w.heap.size + 1 ≠ bN := by have := hbW.size; have := hb1.size; have := x4.noint.lt; omega
  have neD' : bN + 1 ≠ bN := by omega
  have x6 : Box4 W3 (w.heap.size + 1) := (x5.next hb3).same (by rw [hW3]; exact (Below.heap_setCell _ _ _ _ neR').trans (Below.heap_setCell _ _ _ _ neR'))
  have u1' : Box2 W3 (bN + 1) := (u1.next hb3).same (by rw [hW3]; exact (Below.heap_setCell _ _ _ _ neD').trans (Below.heap_setCell _ _ _ _ neD'))
  have hwN : w.heap.size ≤ bN := by have := hbW.size; have := hb1.size; omega
  have hbD : (D.natAbs : Int) < 4294967296 ^ (m + 2) := hD.bound
  clear hN hD hN1 hD1 hN2 hD2 hg hg2 hO hO' o6 hbp
  go_wp2_with fail
  rw [← hW3]
  clear hW3
  refine Calls.mono k4.out ?_
  rintro e w4 ⟨t, t', rfl, hO, hO', hb4⟩
  clear k4
  obtain ⟨n8, a8, l8, c8, rfl⟩ := hO.form
  obtain ⟨n9, a9, l9, c9, rfl⟩ := hO'.form
  have o8 : OutE w4 (.agg #[.bool n8, .slice a8 l8 c8]) (D.tdiv (G : Int)) (m + 2) := OutE.fit ⟨_, hO⟩ (by have h1 := tdiv_le D G (by omega); omega)
  have o6'' := o6'.next hb4
  have y2 := keep_cell hb4 v0
  have y3 := keep_cell hb4 v1
  have y4 := keep_cell hb4 v2
  have y5 := keep_cell hb4 v3
  obtain ⟨_, _, _, _, _, _, fD'⟩ := u1'.cells
  have gD0 := keep_frozen hb4 v2 (fD' 0)
  have gD1 := keep_frozen hb4 v3 (fD' 1)
  have x7 := x6.next hb4
  obtain ⟨_, _, _, _, _, _, _, _, j0, j1, j2, j3, fR⟩ := x7.cells
  have fR0 := fR 0
  have fR1 := fR 1
  have fR2 := fR 2
  have fR3 := fR 3
  have hB4 := bthen hB3 hb4
  have u2 := u1'.next hb4
  have neRs : bN + 1 ≠ w.heap.size + 1 := Ne.symm neR
  have hbx : Boxed w.heap.size w4 ((((((w4.setCell ⟨bN + 1, 0, none⟩ (.bool n8)).setCell ⟨bN + 1, 1, none⟩ (.slice a8 l8 c8)).setCell ⟨w.heap.size + 1, 0, none⟩ (.bool n6)).setCell ⟨w.heap.size + 1, 1, none⟩ (.slice a6 l6 c6)).setCell ⟨w.heap.size + 1, 2, none⟩ (.bool n8)).setCell ⟨w.heap.size + 1, 3, none⟩ (.slice a8 l8 c8)) :=
    (((((Boxed.refl.set _ _ _ u2.noint (by omega) (notInt_bool _)).set _ _ _ u2.noint (by omega) (notInt_slice _ _ _)).set _ _ _ x7.noint (by omega) (notInt_bool _)).set _ _ _ x7.noint (by omega) (notInt_slice _ _ _)).set _ _ _ x7.noint (by omega) (notInt_bool _)).set _ _ _ x7.noint (by omega) (notInt_slice _ _ _)
  replace hbx : Hid _ := hbx
  clear fR
  go_wp2
  exact bodyPost_ret (v := .agg #[.bool n6, .slice a6 l6 c6, .bool n8, .slice a8 l8 c8]) (by simp [results, Tryz.results121, go_sem, j0, j1, j2, j3]) rfl ⟨_, _, _, rfl, ⟨_, _, _, _, _, _, _, _, rfl, hbx.out.out o6'', hbx.out.out o8⟩, hlow.out, hbx.out.keep hB4 (Nat.le_refl _) hB4.size⟩
end Go.Proofs.YtclokcoimdjaeaaGreatDoor
namespace Go.Proofs.YtclokcoimdjaeaaGreatDoor
set_option linter.unusedVariables false
open Go.RowKit
attribute [local go_sem ↓] Go.wp_at_zero Go.wp_at_succ
theorem Box2.chg {w w' : World} {g b : Nat} (h : Box2 w g) (hc : Chg b w w') (hb : Box2 w' b) : Box2 w' g := by
  by_cases e : g = b
  · subst e; exact hb
  · exact h.same (hc.block g e)
theorem Box4.chg {w w' : World} {g b : Nat} (h : Box4 w g) (hc : Chg b w w') (hb : Box4 w' b) : Box4 w' g := by
  by_cases e : g = b
  · subst e; exact hb
  · exact h.same (hc.block g e)
/-- An answer in lowest terms. -/
def LowE (w : World) (v : Value) (n d : Int) (m : Nat) : Prop := ∃ p q, FracE w v p q m ∧ Low n d p q
theorem LowE.next {w w' : World} {v : Value} {n d : Int} {m : Nat} (h : LowE w v n d m) (hb : Below w.heap.size w w') : LowE w' v n d m := by
  obtain ⟨p, q, h1, h2⟩ := h
  exact ⟨p, q, h1.next hb, h2⟩
theorem LowE.chg {w w' : World} {b : Nat} {v : Value} {n d : Int} {m : Nat} (h : LowE w v n d m) (hc : Chg b w w') (hb : NoInt w b) : LowE w' v n d m := by
  obtain ⟨p, q, h1, h2⟩ := h
  exact ⟨p, q, h1.chg hc hb, h2⟩
section
variable {ops : Array Oper} {Q : Exit → Act → World → Prop} {V : Nat → Value → World → Prop} {C : Nat → Nat → World → Prop} {S : List Nat} {N : Nat} {w : World}
theorem step_put2 {o : Oper} (j s t : Nat) (ho : o.op = .store 28 (.tmp s) (.tmp t)) (hd : o.dst = none) (hg : o.guard = none) (hl : (o.looksAt ops).contains t = true) (_hl' : (o.looksAt ops).contains s = true)
    (hf : (∀ v w, V t v w → ∃ m a l c, v = .agg #[.bool m, .slice a l c]) ∧ ∀ g w' w'' m a l c, V t (.agg #[.bool m, .slice a l c]) w' → Chg g w' w'' → Box2 w' g → w''.cell? ⟨g, 0, none⟩ = some (.bool m) → w''.cell? ⟨g, 1, none⟩ = some (.slice a l c) → C j g w'') : PutStep Tryz.prog ops Q V Box2 C S N w j s o := by
  intro b w' hs hB hlk g hgp hbx K hK
  have hw : Region.wanted o (yielded ops b.tmps) = true := by simp [Region.wanted, hg]
  rw [if_pos hw]
  have hvt := look hlk t hl
  obtain ⟨m, a, l, c, hv⟩ := hf.1 _ _ hvt
  rw [hv] at hvt
  obtain ⟨m0, a0, l0, c0, k0, k1, f⟩ := hbx.cells
  have hch : Chg g w' ((w'.setCell ⟨g, 0, none⟩ (.bool m)).setCell ⟨g, 1, none⟩ (.slice a l c)) := (Chg.set _ _ _ _).trans (Chg.set _ _ _ _)
  have r0 : ((w'.setCell ⟨g, 0, none⟩ (.bool m)).setCell ⟨g, 1, none⟩ (.slice a l c)).cell? ⟨g, 0, none⟩ = some (.bool m) := by simp [go_sem, k0]
  have r1 : ((w'.setCell ⟨g, 0, none⟩ (.bool m)).setCell ⟨g, 1, none⟩ (.slice a l c)).cell? ⟨g, 1, none⟩ = some (.slice a l c) := by simp [go_sem, k1]
  have key := hK undef _ hch (hbx.put m a l c) (hf.2 g _ _ m a l c hvt hch hbx r0 r1)
  have e : b.put o.dst undef = b := by rw [hd]; rfl
  rw [e] at key
  exact st24 k0 k1 f s t ho hd hgp hv key
theorem step_put4 {o : Oper} (j s t : Nat) (ho : o.op = .store 30 (.tmp s) (.tmp t)) (hd : o.dst = none) (hg : o.guard = none) (hl : (o.looksAt ops).contains t = true) (_hl' : (o.looksAt ops).contains s = true)
    (hf : (∀ v w, V t v w → ∃ m a l c m' a' l' c', v = .agg #[.bool m, .slice a l c, .bool m', .slice a' l' c']) ∧ ∀ g w' w'' m a l c m' a' l' c', V t (.agg #[.bool m, .slice a l c, .bool m', .slice a' l' c']) w' → Chg g w' w'' → Box4 w' g → w''.cell? ⟨g, 0, none⟩ = some (.bool m) → w''.cell? ⟨g, 1, none⟩ = some (.slice a l c) → w''.cell? ⟨g, 2, none⟩ = some (.bool m') → w''.cell? ⟨g, 3, none⟩ = some (.slice a' l' c') → C j g w'') : PutStep Tryz.prog ops Q V Box4 C S N w j s o := by
  intro b w' hs hB hlk g hgp hbx K hK
  have hw : Region.wanted o (yielded ops b.tmps) = true := by simp [Region.wanted, hg]
  rw [if_pos hw]
  have hvt := look hlk t hl
  obtain ⟨m, a, l, c, m', a', l', c', hv⟩ := hf.1 _ _ hvt
  rw [hv] at hvt
  obtain ⟨_, _, _, _, _, _, _, _, k0, k1, k2, k3, f⟩ := hbx.cells
  obtain ⟨X, hX⟩ : ∃ X, X = (((w'.setCell ⟨g, 0, none⟩ (.bool m)).setCell ⟨g, 1, none⟩ (.slice a l c)).setCell ⟨g, 2, none⟩ (.bool m')).setCell ⟨g, 3, none⟩ (.slice a' l' c') := ⟨_, rfl⟩
  have hch : Chg g w' X := by rw [hX]; exact (((Chg.set _ _ _ _).trans (Chg.set _ _ _ _)).trans (Chg.set _ _ _ _)).trans (Chg.set _ _ _ _)
  have r0 : X.cell? ⟨g, 0, none⟩ = some (.bool m) := by rw [hX]; simp [go_sem, k0]
  have r1 : X.cell? ⟨g, 1, none⟩ = some (.slice a l c) := by rw [hX]; simp [go_sem, k1]
  have r2 : X.cell? ⟨g, 2, none⟩ = some (.bool m') := by rw [hX]; simp [go_sem, k2]
  have r3 : X.cell? ⟨g, 3, none⟩ = some (.slice a' l' c') := by rw [hX]; simp [go_sem, k3]
  have hbp : Box4 X g := by rw [hX]; exact hbx.put m a l c m' a' l' c'
  have key := hK undef _ hch hbp (hf.2 g _ _ m a l c m' a' l' c' hvt hch hbx r0 r1 r2 r3)
  have e : b.put o.dst undef = b := by rw [hd]; rfl
  rw [e, hX] at key
  exact st26 k0 k1 k2 k3 f s t ho hd hgp hv key
end
theorem Frac.form {w : World} {v : Value} {n d : Int} {m : Nat} (h : Frac w v n d m) : ∃ n1 a1 l1 c1 n2 a2 l2 c2, v = .agg #[.bool n1, .slice a1 l1 c1, .bool n2, .slice a2 l2 c2] := by
  obtain ⟨n1, a1, l1, c1, n2, a2, l2, c2, hv, _⟩ := h
  exact ⟨n1, a1, l1, c1, n2, a2, l2, c2, hv⟩
def sdV (p4 p5 p6 b7 b9 K : Nat) (AN AD BN BD : Value) (x y z : Int) (t : Nat) (v : Value) (w : World) : Prop := match t with
  | 4 => v = .pointer (some ⟨p4, 0, none⟩) ∧ Box2 w p4
  | 5 => v = .pointer (some ⟨p5, 0, none⟩) ∧ Box2 w p5
  | 6 => v = .pointer (some ⟨p6, 0, none⟩) ∧ Box2 w p6
  | 7 => v = .pointer (some ⟨b7, 0, none⟩)
  | 8 => v = .pointer (some ⟨b7 + 1, 0, none⟩)
  | 9 => v = .pointer (some ⟨b9, 0, none⟩)
  | 10 => v = .pointer (some ⟨b9 + 1, 0, none⟩)
  | 21 => v = AN
  | 22 => v = BD
  | 23 => Num w v x K
  | 24 => v = BN
  | 25 => v = AD
  | 26 => Num w v y K
  | 27 => v = AD
  | 28 => v = BD
  | 29 => Num w v z K
  | _ => True
theorem sdV_next {p4 p5 p6 b7 b9 K : Nat} {AN AD BN BD : Value} {x y z : Int} (t : Nat) (v : Value) (w w' : World) (hb : Below w.heap.size w w') (h : sdV p4 p5 p6 b7 b9 K AN AD BN BD x y z t v w) : sdV p4 p5 p6 b7 b9 K AN AD BN BD x y z t v w' := by
  unfold sdV at h ⊢
  split at h <;> first | exact h | exact Num.next h hb | exact OutE.next h hb | exact Frac.next h hb | exact FracE.next h hb | exact LowE.next h hb | exact ⟨h.1, h.2.next hb⟩
theorem sdV_chg {p4 p5 p6 b7 b9 K : Nat} {AN AD BN BD : Value} {x y z : Int} (t : Nat) (v : Value) (w w' : World) (b : Nat) (hc : Chg b w w') (hb : Box2 w b) (hb' : Box2 w' b) (h : sdV p4 p5 p6 b7 b9 K AN AD BN BD x y z t v w) : sdV p4 p5 p6 b7 b9 K AN AD BN BD x y z t v w' := by
  unfold sdV at h ⊢
  split at h <;> first | exact h | exact Num.chg h hc hb.noint | exact OutE.chg h hc hb.noint | exact Frac.chg h hc hb.noint | exact FracE.chg h hc hb.noint | exact LowE.chg h hc hb.noint | exact ⟨h.1, h.2.chg hc hb'⟩
def sdC (p4 p5 p6 b7 b9 K : Nat) (AN AD BN BD : Value) (x y z : Int) (j b : Nat) (w : World) : Prop := match j with
  | 9 => Holds2 w b (fun v => Num w v x K)
  | 10 => Holds2 w b (fun v => Num w v y K)
  | 11 => Holds2 w b (fun v => Num w v z K)
  | _ => True
theorem sdC_next {p4 p5 p6 b7 b9 K : Nat} {AN AD BN BD : Value} {x y z : Int} (j b : Nat) (w w' : World) (hb : Below w.heap.size w w') (_ : b < w.heap.size) (h : sdC p4 p5 p6 b7 b9 K AN AD BN BD x y z j b w) : sdC p4 p5 p6 b7 b9 K AN AD BN BD x y z j b w' := by
  unfold sdC at h ⊢
  split at h <;> first | exact h | exact Holds2.next h hb (fun v k => k.next hb)
theorem sdC_chg {p4 p5 p6 b7 b9 K : Nat} {AN AD BN BD : Value} {x y z : Int} (j b b' : Nat) (w w' : World) (hc : Chg b' w w') (hb : Box2 w b') (_ : Box2 w' b') (hne : b ≠ b') (h : sdC p4 p5 p6 b7 b9 K AN AD BN BD x y z j b w) : sdC p4 p5 p6 b7 b9 K AN AD BN BD x y z j b w' := by
  unfold sdC at h ⊢
  split at h <;> first | exact h | exact Holds2.chg h hc hne (fun v k => k.chg hc hb.noint)
theorem boxes_sd (w : World) (n1 : Bool) (a1 : Option Addr) (l1 c1 : Nat) (n2 : Bool) (a2 : Option Addr) (l2 c2 : Nat) (n3 : Bool) (a3 : Option Addr) (l3 c3 : Nat) (n4 : Bool) (a4 : Option Addr) (l4 c4 : Nat) : ∃ W, W = ((((w.alloc (.cells #[.bool n1, .slice a1 l1 c1, .bool n2, .slice a2 l2 c2] 30)).alloc (.cells #[.bool n3, .slice a3 l3 c3, .bool n4, .slice a4 l4 c4] 30)).alloc (.cells #[.bool false, .slice none 0 0] 28)).alloc (.cells #[.bool false, .slice none 0 0] 28)).alloc (.cells #[.bool false, .slice none 0 0] 28) ∧ Below w.heap.size w W ∧
    (W.cell? ⟨w.heap.size, 0, none⟩ = some (.bool n1) ∧ W.cell? ⟨w.heap.size, 1, none⟩ = some (.slice a1 l1 c1) ∧ W.cell? ⟨w.heap.size, 2, none⟩ = some (.bool n2) ∧ W.cell? ⟨w.heap.size, 3, none⟩ = some (.slice a2 l2 c2)) ∧
    (W.cell? ⟨w.heap.size + 1, 0, none⟩ = some (.bool n3) ∧ W.cell? ⟨w.heap.size + 1, 1, none⟩ = some (.slice a3 l3 c3) ∧ W.cell? ⟨w.heap.size + 1, 2, none⟩ = some (.bool n4) ∧ W.cell? ⟨w.heap.size + 1, 3, none⟩ = some (.slice a4 l4 c4)) ∧
    Box2 W (w.heap.size + 1 + 1) ∧ Box2 W (w.heap.size + 1 + 1 + 1) ∧ Box2 W (w.heap.size + 1 + 1 + 1 + 1) := by
  refine ⟨_, rfl, (((((Below.refl _ _).alloc (Nat.le_refl _) _).alloc (by simp) _).alloc (by simp; omega) _).alloc (by simp; omega) _).alloc (by simp; omega) _, ⟨?_, ?_, ?_, ?_⟩, ⟨?_, ?_, ?_, ?_⟩, ?n0, ?n1, ?n2⟩
  case n0 =>
    have h := Box2.new ((w.alloc (.cells #[.bool n1, .slice a1 l1 c1, .bool n2, .slice a2 l2 c2] 30)).alloc (.cells #[.bool n3, .slice a3 l3 c3, .bool n4, .slice a4 l4 c4] 30)) false none 0 0 28 (by decide)
    rw [show ((w.alloc (.cells #[.bool n1, .slice a1 l1 c1, .bool n2, .slice a2 l2 c2] 30)).alloc (.cells #[.bool n3, .slice a3 l3 c3, .bool n4, .slice a4 l4 c4] 30)).heap.size = w.heap.size + 1 + 1 from by simp] at h
    exact (h.next ((Below.refl _ _).alloc (Nat.le_refl _) _)).next ((Below.refl _ _).alloc (Nat.le_refl _) _)
  case n1 =>
    have h := Box2.new (((w.alloc (.cells #[.bool n1, .slice a1 l1 c1, .bool n2, .slice a2 l2 c2] 30)).alloc (.cells #[.bool n3, .slice a3 l3 c3, .bool n4, .slice a4 l4 c4] 30)).alloc (.cells #[.bool false, .slice none 0 0] 28)) false none 0 0 28 (by decide)
    rw [show (((w.alloc (.cells #[.bool n1, .slice a1 l1 c1, .bool n2, .slice a2 l2 c2] 30)).alloc (.cells #[.bool n3, .slice a3 l3 c3, .bool n4, .slice a4 l4 c4] 30)).alloc (.cells #[.bool false, .slice none 0 0] 28)).heap.size = w.heap.size + 1 + 1 + 1 from by simp] at h
    exact h.next ((Below.refl _ _).alloc (Nat.le_refl _) _)
  case n2 =>
    have h := Box2.new ((((w.alloc (.cells #[.bool n1, .slice a1 l1 c1, .bool n2, .slice a2 l2 c2] 30)).alloc (.cells #[.bool n3, .slice a3 l3 c3, .bool n4, .slice a4 l4 c4] 30)).alloc (.cells #[.bool false, .slice none 0 0] 28)).alloc (.cells #[.bool false, .slice none 0 0] 28)) false none 0 0 28 (by decide)
    rw [show ((((w.alloc (.cells #[.bool n1, .slice a1 l1 c1, .bool n2, .slice a2 l2 c2] 30)).alloc (.cells #[.bool n3, .slice a3 l3 c3, .bool n4, .slice a4 l4 c4] 30)).alloc (.cells #[.bool false, .slice none 0 0] 28)).alloc (.cells #[.bool false, .slice none 0 0] 28)).heap.size = w.heap.size + 1 + 1 + 1 + 1 from by simp] at h
    exact h
  all_goals simp [go_sem, World.cell?_alloc_past]
/-- Numbers below a world's size stay where only boxes are filled. -/
theorem Num.but {S : List Nat} {w w' : World} {v : Value} {z : Int} {n : Nat} (h : Num w v z n) (hW : BelowBut S w w') (hS : ∀ k, k ∈ S → NoInt w k) : Num w' v z n := by
  obtain ⟨neg, a, cap, ds, hv, hr, r⟩ := h
  refine ⟨neg, a, cap, ds, hv, ⟨hr.le, hr.max, hr.nil, fun x hx i hi => ?_, hr.words⟩, r⟩
  subst hx
  have hc := hr.cell x rfl i hi
  refine hW.cell hc ?_
  rw [add_block]
  intro hs
  exact (hS _ hs).apart hr (by intro e; subst e; simp at hi) rfl
set_option maxRecDepth 20000 in
set_option maxHeartbeats 4000000 in
theorem sameDen_num {w : World} {u v : Value} {n d n' d' : Int} {m : Nat} (hu : Frac w u n d m) (hv : Frac w v n' d' m) (hm : m ≤ 200) :
    Calls Tryz.prog 98 #[u, v] w fun e w' => ∃ r s t, e = .returned (.tuple #[r, s, t]) ∧ Num w' r (pN n d * pD d') (2 * m + 4) ∧ Num w' s (pN n' d' * pD d) (2 * m + 4) ∧ Num w' t (pD d * pD d') (2 * m + 4) ∧ Below w.heap.size w w' := by
  obtain ⟨n1, a1, l1, c1, n2, a2, l2, c2, rfl⟩ := hu.form
  obtain ⟨n3, a3, l3, c3, n4, a4, l4, c4, rfl⟩ := hv.form
  obtain ⟨W, hW, hbW, ⟨e0, e1, e2, e3⟩, ⟨g0, g1, g2, g3⟩, x0, x1, x2⟩ := boxes_sd w n1 a1 l1 c1 n2 a2 l2 c2 n3 a3 l3 c3 n4 a4 l4 c4
  have k1 := parts_num (hu.next hbW) (by omega)
  replace k1 : Hid _ := k1
  go_enter Tryz.func98, Tryz.ntmps98
  go_wp2_with fail
  rw [← hW]
  clear hW
  refine Calls.mono k1.out ?_
  rintro e w1 ⟨s, t, rfl, hN, hD, hb1⟩
  clear k1
  obtain ⟨n5, a5, l5, c5, rfl⟩ := hN.form
  obtain ⟨n6, a6, l6, c6, rfl⟩ := hD.form
  obtain ⟨W1, hW1, hbW1, ⟨p0, p1, p2, p3⟩, y0, y1⟩ := boxes_two w1 n5 a5 l5 c5 n6 a6 l6 c6
  have hbx1 := bthen hb1 hbW1
  have k2 := parts_num ((hv.next hbW).next hbx1) (by omega)
  replace k2 : Hid _ := k2
  have j0 := keep_cell hb1 g0
  have j1 := keep_cell hb1 g1
  have j2 := keep_cell hb1 g2
  have j3 := keep_cell hb1 g3
  have j4 : w.heap.size + 1 < w1.heap.size := cell_lt j0
  have j5 : w.heap.size + 1 < w1.heap.size + 1 := by omega
  go_wp2_with fail
  rw [← hW1]
  clear hW1 j0 j1 j2 j3 j5
  refine Calls.mono k2.out ?_
  rintro e w2 ⟨s, t, rfl, hN', hD', hb2⟩
  clear k2
  obtain ⟨n7, a7, l7, c7, rfl⟩ := hN'.form
  obtain ⟨n8, a8, l8, c8, rfl⟩ := hD'.form
  obtain ⟨W2, hW2, hbW2, ⟨s0, s1, s2, s3⟩, z0, z1⟩ := boxes_two w2 n7 a7 l7 c7 n8 a8 l8 c8
  have hbx2 := bthen hb2 hbW2
  have hbx12 := bthen hbx1 hbx2
  have r0 := keep_cell hbx2 p0
  have r1 := keep_cell hbx2 p1
  have r2 := keep_cell hbx2 p2
  have r3 := keep_cell hbx2 p3
  have hAN := (hN.next hbW1).next hbx2
  have hAD := (hD.next hbW1).next hbx2
  have hBN := hN'.next hbW2
  have hBD := hD'.next hbW2
  have u0 := x0.next hbx12
  have u1 := x1.next hbx12
  have u2 := x2.next hbx12
  have hBB := bthen hbW hbx12
  have hx2 := x2.noint.lt
  have hs1 := hb1.size
  have hs2 := hb2.size
  have hs3 := hbW1.size
  have hy1 := y1.noint.lt
  go_wp2
  rw [← hW2]
  clear hW2 e0 e1 e2 e3 g0 g1 g2 g3 p0 p1 p2 p3 hN hD hN' hD'
  have hS : ∀ k, k ∈ [w.heap.size + 1 + 1, w.heap.size + 1 + 1 + 1, w.heap.size + 1 + 1 + 1 + 1] → NoInt W2 k := by
    intro k hk
    simp only [List.mem_cons, List.not_mem_nil, or_false] at hk
    rcases hk with rfl | rfl | rfl
    · exact u0.noint
    · exact u1.noint
    · exact u2.noint
  have hB_num : ∀ {w' : World} {v : Value} {z : Int} {n : Nat}, BelowBut [w.heap.size + 1 + 1, w.heap.size + 1 + 1 + 1, w.heap.size + 1 + 1 + 1 + 1] W2 w' → Num W2 v z n → Num w' v z n := fun hW h => h.but hW hS
  refine wp_region_boxes (sdV (w.heap.size + 1 + 1) (w.heap.size + 1 + 1 + 1) (w.heap.size + 1 + 1 + 1 + 1) w1.heap.size w2.heap.size (2 * m + 4) (.agg #[.bool n5, .slice a5 l5 c5]) (.agg #[.bool n6, .slice a6 l6 c6]) (.agg #[.bool n7, .slice a7 l7 c7]) (.agg #[.bool n8, .slice a8 l8 c8]) (pN n d * pD d') (pN n' d' * pD d) (pD d * pD d')) Box2 (sdC (w.heap.size + 1 + 1) (w.heap.size + 1 + 1 + 1) (w.heap.size + 1 + 1 + 1 + 1) w1.heap.size w2.heap.size (2 * m + 4) (.agg #[.bool n5, .slice a5 l5 c5]) (.agg #[.bool n6, .slice a6 l6 c6]) (.agg #[.bool n7, .slice a7 l7 c7]) (.agg #[.bool n8, .slice a8 l8 c8]) (pN n d * pD d') (pN n' d' * pD d) (pD d * pD d')) [4, 5, 6, 7, 8, 9, 10] [4, 5, 6] [w.heap.size + 1 + 1, w.heap.size + 1 + 1 + 1, w.heap.size + 1 + 1 + 1 + 1] [(9, 4), (10, 5), (11, 6)] 30 (by kernel_rfl) (by kernel_rfl) rfl sdV_next sdV_chg ?hA sdC_next sdC_chg ?hstart ?hdis (StepsFrom.all ?hstep) ?hend
  case hA =>
    intro s v w' hs hv
    have hs' : s = 4 ∨ s = 5 ∨ s = 6 := by simpa using hs
    rcases hs' with rfl | rfl | rfl
    · exact ⟨_, hv.1, hv.2, .inr (by simp), hv.2.noint.lt⟩
    · exact ⟨_, hv.1, hv.2, .inr (by simp), hv.2.noint.lt⟩
    · exact ⟨_, hv.1, hv.2, .inr (by simp), hv.2.noint.lt⟩
  case hstart =>
    intro t ht
    have hD0 : Below W2.heap.size W2 W2.drew := (Below.refl _ _).drew
    simp only [List.mem_cons, List.not_mem_nil, or_false] at ht
    rcases ht with rfl | rfl | rfl | rfl | rfl | rfl | rfl
    · exact ⟨rfl, u0.next hD0⟩
    · exact ⟨rfl, u1.next hD0⟩
    · exact ⟨rfl, u2.next hD0⟩
    all_goals rfl
  case hdis =>
    intro s t hs ht hne _ _
    have hs' : s = 4 ∨ s = 5 ∨ s = 6 := by simpa using hs
    have ht' : t = 4 ∨ t = 5 ∨ t = 6 := by simpa using ht
    rcases hs' with rfl | rfl | rfl <;> rcases ht' with rfl | rfl | rfl <;> first | exact absurd rfl hne | simp
  case hstep =>
    refine ⟨?s0, ?s1, ?s2, ?s3, ?s4, ?s5, ?s6, ?s7, ?s8, ?s9, ?s10, ?s11, trivial⟩
    case s0 => exact plain_at (plain_of (guard_none rfl) fun b w' _ hW hl K hK => ld24 (hW.cell r0 (by simp; omega)) (hW.cell r1 (by simp; omega)) 7 rfl (look hl 7 (by kernel_rfl)) (hK _ _ (Below.refl _ _) (dst_eq rfl rfl))) (dst_eq rfl rfl) rfl
    case s1 => exact plain_at (plain_of (guard_none rfl) fun b w' _ hW hl K hK => ld24 (hW.cell s2 (by simp; omega)) (hW.cell s3 (by simp; omega)) 10 rfl (look hl 10 (by kernel_rfl)) (hK _ _ (Below.refl _ _) (dst_eq rfl rfl))) (dst_eq rfl rfl) rfl
    case s2 => exact plain_at (pl_call2 160 21 22 23 _ (by kernel_rfl) rfl rfl (guard_none rfl) (by kernel_rfl) (by kernel_rfl) (fun u v w' hW hu hv => by subst hu; subst hv; exact (Mul_num (hB_num hW hAN) (hB_num hW hBD) (by omega) (by omega)).mono fun e w'' h => by obtain ⟨t, h1, h2, h3⟩ := h; exact ⟨t, h1, h2.num.more' (by omega), h3⟩)) (dst_eq rfl rfl) rfl
    case s3 => exact plain_at (plain_of (guard_none rfl) fun b w' _ hW hl K hK => ld24 (hW.cell s0 (by simp; omega)) (hW.cell s1 (by simp; omega)) 9 rfl (look hl 9 (by kernel_rfl)) (hK _ _ (Below.refl _ _) (dst_eq rfl rfl))) (dst_eq rfl rfl) rfl
    case s4 => exact plain_at (plain_of (guard_none rfl) fun b w' _ hW hl K hK => ld24 (hW.cell r2 (by simp; omega)) (hW.cell r3 (by simp; omega)) 8 rfl (look hl 8 (by kernel_rfl)) (hK _ _ (Below.refl _ _) (dst_eq rfl rfl))) (dst_eq rfl rfl) rfl
    case s5 => exact plain_at (pl_call2 160 24 25 26 _ (by kernel_rfl) rfl rfl (guard_none rfl) (by kernel_rfl) (by kernel_rfl) (fun u v w' hW hu hv => by subst hu; subst hv; exact (Mul_num (hB_num hW hBN) (hB_num hW hAD) (by omega) (by omega)).mono fun e w'' h => by obtain ⟨t, h1, h2, h3⟩ := h; exact ⟨t, h1, h2.num.more' (by omega), h3⟩)) (dst_eq rfl rfl) rfl
    case s6 => exact plain_at (plain_of (guard_none rfl) fun b w' _ hW hl K hK => ld24 (hW.cell r2 (by simp; omega)) (hW.cell r3 (by simp; omega)) 8 rfl (look hl 8 (by kernel_rfl)) (hK _ _ (Below.refl _ _) (dst_eq rfl rfl))) (dst_eq rfl rfl) rfl
    case s7 => exact plain_at (plain_of (guard_none rfl) fun b w' _ hW hl K hK => ld24 (hW.cell s2 (by simp; omega)) (hW.cell s3 (by simp; omega)) 10 rfl (look hl 10 (by kernel_rfl)) (hK _ _ (Below.refl _ _) (dst_eq rfl rfl))) (dst_eq rfl rfl) rfl
    case s8 => exact plain_at (pl_call2 160 27 28 29 _ (by kernel_rfl) rfl rfl (guard_none rfl) (by kernel_rfl) (by kernel_rfl) (fun u v w' hW hu hv => by subst hu; subst hv; exact (Mul_num (hB_num hW hAD) (hB_num hW hBD) (by omega) (by omega)).mono fun e w'' h => by obtain ⟨t, h1, h2, h3⟩ := h; exact ⟨t, h1, h2.num.more' (by omega), h3⟩)) (dst_eq rfl rfl) rfl
    case s9 => exact put_at (step_put2 9 4 23 rfl rfl rfl (by kernel_rfl) (by kernel_rfl) ⟨fun v w h => Num.form h, fun g w' w'' m a l c hv hc hb r0 r1 => ⟨m, a, l, c, r0, r1, Num.chg hv hc hb.noint⟩⟩) rfl rfl (by kernel_rfl)
    case s10 => exact put_at (step_put2 10 5 26 rfl rfl rfl (by kernel_rfl) (by kernel_rfl) ⟨fun v w h => Num.form h, fun g w' w'' m a l c hv hc hb r0 r1 => ⟨m, a, l, c, r0, r1, Num.chg hv hc hb.noint⟩⟩) rfl rfl (by kernel_rfl)
    case s11 => exact put_at (step_put2 11 6 29 rfl rfl rfl (by kernel_rfl) (by kernel_rfl) ⟨fun v w h => Num.form h, fun g w' w'' m a l c hv hc hb r0 r1 => ⟨m, a, l, c, r0, r1, Num.chg hv hc hb.noint⟩⟩) rfl rfl (by kernel_rfl)
  case hend =>
    intro b w' hs hd hW hv hdis hC hfr
    obtain ⟨h4, _⟩ := hv 4 (.inl rfl)
    obtain ⟨h5, _⟩ := hv 5 (.inl rfl)
    obtain ⟨h6, _⟩ := hv 6 (.inl rfl)
    obtain ⟨q1, b1, i1, o1, m0, m1, hR⟩ := hC 9 4 (by simp) (by decide) _ h4
    obtain ⟨q2, b2, i2, o2, m2, m3, hS'⟩ := hC 10 5 (by simp) (by decide) _ h5
    obtain ⟨q3, b3, i3, o3, m4, m5, hT⟩ := hC 11 6 (by simp) (by decide) _ h6
    have hBf : Below w.heap.size w w' := hBB.trans (hW.below hBB.size (by intro k hk; simp only [List.mem_cons, List.not_mem_nil, or_false] at hk; omega))
    rw [Array.getD_eq_getD_getElem?] at h4 h5 h6
    clear hv hdis hC hfr hW
    go_wp2
    exact bodyPost_ret (v := .tuple #[.agg #[.bool q1, .slice b1 i1 o1], .agg #[.bool q2, .slice b2 i2 o2], .agg #[.bool q3, .slice b3 i3 o3]]) (by simp [results, Tryz.results98, go_sem, h4, h5, h6, m0, m1, m2, m3, m4, m5]) hd ⟨_, _, _, rfl, hR, hS', hT, hBf⟩
end Go.Proofs.YtclokcoimdjaeaaGreatDoor
