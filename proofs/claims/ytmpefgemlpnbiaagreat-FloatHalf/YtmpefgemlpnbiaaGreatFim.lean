/- Sums, differences, products of fractions. -/
import Derived.Test.YtmpefgemlpnbiaaGreatFs
namespace Go.Proofs.YtmpefgemlpnbiaaGreat
set_option linter.unusedVariables false
open Go.RowKit
attribute [local go_sem ↓] Go.wp_at_zero Go.wp_at_succ
theorem boxes_op (w : World) (n1 : Bool) (a1 : Option Addr) (l1 c1 : Nat) (n2 : Bool) (a2 : Option Addr) (l2 c2 : Nat) (n3 : Bool) (a3 : Option Addr) (l3 c3 : Nat) (n4 : Bool) (a4 : Option Addr) (l4 c4 : Nat) : ∃ W, W = ((w.alloc (.cells #[.bool n1, .slice a1 l1 c1, .bool n2, .slice a2 l2 c2] 26)).alloc (.cells #[.bool n3, .slice a3 l3 c3, .bool n4, .slice a4 l4 c4] 26)).alloc (.cells #[.bool false, .slice none 0 0, .bool false, .slice none 0 0] 26) ∧ Below w.heap.size w W ∧
    (W.cell? ⟨w.heap.size, 0, none⟩ = some (.bool n1) ∧ W.cell? ⟨w.heap.size, 1, none⟩ = some (.slice a1 l1 c1) ∧ W.cell? ⟨w.heap.size, 2, none⟩ = some (.bool n2) ∧ W.cell? ⟨w.heap.size, 3, none⟩ = some (.slice a2 l2 c2)) ∧
    (W.cell? ⟨w.heap.size + 1, 0, none⟩ = some (.bool n3) ∧ W.cell? ⟨w.heap.size + 1, 1, none⟩ = some (.slice a3 l3 c3) ∧ W.cell? ⟨w.heap.size + 1, 2, none⟩ = some (.bool n4) ∧ W.cell? ⟨w.heap.size + 1, 3, none⟩ = some (.slice a4 l4 c4)) ∧ Box4 W (w.heap.size + 1 + 1) := by
  refine ⟨_, rfl, (((Below.refl _ _).alloc (Nat.le_refl _) _).alloc (by simp) _).alloc (by simp; omega) _, ⟨?_, ?_, ?_, ?_⟩, ⟨?_, ?_, ?_, ?_⟩, ?n0⟩
  case n0 =>
    have h := Box4.new ((w.alloc (.cells #[.bool n1, .slice a1 l1 c1, .bool n2, .slice a2 l2 c2] 26)).alloc (.cells #[.bool n3, .slice a3 l3 c3, .bool n4, .slice a4 l4 c4] 26)) false none 0 0 false none 0 0 26 (by decide)
    rw [show ((w.alloc (.cells #[.bool n1, .slice a1 l1 c1, .bool n2, .slice a2 l2 c2] 26)).alloc (.cells #[.bool n3, .slice a3 l3 c3, .bool n4, .slice a4 l4 c4] 26)).heap.size = w.heap.size + 1 + 1 from by simp] at h
    exact h
  all_goals simp [go_sem, World.cell?_alloc_past]
theorem boxes_three (w : World) (m1 : Bool) (a1 : Option Addr) (l1 c1 : Nat) (m2 : Bool) (a2 : Option Addr) (l2 c2 : Nat) (m3 : Bool) (a3 : Option Addr) (l3 c3 : Nat) : ∃ W, W = ((w.alloc (.cells #[.bool m1, .slice a1 l1 c1] 24)).alloc (.cells #[.bool m2, .slice a2 l2 c2] 24)).alloc (.cells #[.bool m3, .slice a3 l3 c3] 24) ∧ Below w.heap.size w W ∧ w.heap.size + 1 + 1 < W.heap.size ∧
    (W.cell? ⟨w.heap.size, 0, none⟩ = some (.bool m1) ∧ W.cell? ⟨w.heap.size, 1, none⟩ = some (.slice a1 l1 c1) ∧ W.cell? ⟨w.heap.size + 1, 0, none⟩ = some (.bool m2) ∧ W.cell? ⟨w.heap.size + 1, 1, none⟩ = some (.slice a2 l2 c2) ∧ W.cell? ⟨w.heap.size + 1 + 1, 0, none⟩ = some (.bool m3) ∧ W.cell? ⟨w.heap.size + 1 + 1, 1, none⟩ = some (.slice a3 l3 c3)) := by
  refine ⟨_, rfl, (((Below.refl _ _).alloc (Nat.le_refl _) _).alloc (by simp) _).alloc (by simp; omega) _, by simp, ⟨?_, ?_, ?_, ?_, ?_, ?_⟩⟩
  all_goals simp [go_sem, World.cell?_alloc_past]
theorem FracE.form {w : World} {v : Value} {n d : Int} {m : Nat} (h : FracE w v n d m) : ∃ n1 a1 l1 c1 n2 a2 l2 c2, v = .agg #[.bool n1, .slice a1 l1 c1, .bool n2, .slice a2 l2 c2] := h.frac.form
theorem LowE.form {w : World} {v : Value} {n d : Int} {m : Nat} (h : LowE w v n d m) : ∃ n1 a1 l1 c1 n2 a2 l2 c2, v = .agg #[.bool n1, .slice a1 l1 c1, .bool n2, .slice a2 l2 c2] := by
  obtain ⟨p, q, h, _⟩ := h
  exact h.form
theorem pN_pos {n d : Int} (h : 0 < d) : pN n d = n := by unfold pN; rw [if_neg (by omega)]
theorem pD_of {d : Int} (h : 0 < d) : pD d = d := by unfold pD; rw [if_neg (by omega), if_neg (by omega)]
theorem lowest_pos {w : World} {v : Value} {n d : Int} {m : Nat} (hv : Frac w v n d m) (hm : m ≤ 200) (hd : 0 < d) :
    Calls Tryz.prog 90 #[v] w fun e w' => ∃ t, e = .returned t ∧ LowE w' t n d (m + 2) ∧ Below w.heap.size w w' := by
  refine (lowest_num hv hm).mono ?_
  rintro e w' ⟨t, p, q, rfl, h1, h2, h3⟩
  rw [pN_pos hd, pD_of hd] at h2
  exact ⟨t, rfl, ⟨p, q, h1, h2⟩, h3⟩
theorem Num.frac {w : World} {u v : Value} {y z : Int} {m : Nat} {n1 : Bool} {a1 : Option Addr} {l1 c1 : Nat} {n2 : Bool} {a2 : Option Addr} {l2 c2 : Nat} (hu : Num w u y m) (hv : Num w v z m) (eu : u = .agg #[.bool n1, .slice a1 l1 c1]) (ev : v = .agg #[.bool n2, .slice a2 l2 c2]) : Frac w (.agg #[.bool n1, .slice a1 l1 c1, .bool n2, .slice a2 l2 c2]) y z m := by
  subst eu; subst ev
  exact ⟨_, _, _, _, _, _, _, _, rfl, hu, hv⟩
def Add26V (p4 b5 K : Nat) (L R D : Value) (x y z : Int) (t : Nat) (v : Value) (w : World) : Prop := match t with
  | 4 => v = .pointer (some ⟨p4, 0, none⟩) ∧ Box4 w p4
  | 5 => v = .pointer (some ⟨b5, 0, none⟩)
  | 6 => v = .pointer (some ⟨b5 + 1, 0, none⟩)
  | 7 => v = .pointer (some ⟨b5 + 1 + 1, 0, none⟩)
  | 15 => v = L
  | 16 => v = R
  | 17 => Num w v (x + y) K
  | 18 => v = D
  | 19 => Frac w v (x + y) z K
  | 20 => LowE w v (x + y) z (K + 2)
  | _ => True
theorem Add26V_next {p4 b5 K : Nat} {L R D : Value} {x y z : Int} (t : Nat) (v : Value) (w w' : World) (hb : Below w.heap.size w w') (h : Add26V p4 b5 K L R D x y z t v w) : Add26V p4 b5 K L R D x y z t v w' := by
  unfold Add26V at h ⊢
  split at h <;> first | exact h | exact Num.next h hb | exact OutE.next h hb | exact Frac.next h hb | exact FracE.next h hb | exact LowE.next h hb | exact ⟨h.1, h.2.next hb⟩
theorem Add26V_chg {p4 b5 K : Nat} {L R D : Value} {x y z : Int} (t : Nat) (v : Value) (w w' : World) (b : Nat) (hc : Chg b w w') (hb : Box4 w b) (hb' : Box4 w' b) (h : Add26V p4 b5 K L R D x y z t v w) : Add26V p4 b5 K L R D x y z t v w' := by
  unfold Add26V at h ⊢
  split at h <;> first | exact h | exact Num.chg h hc hb.noint | exact OutE.chg h hc hb.noint | exact Frac.chg h hc hb.noint | exact FracE.chg h hc hb.noint | exact LowE.chg h hc hb.noint | exact ⟨h.1, h.2.chg hc hb'⟩
def Add26C (p4 b5 K : Nat) (L R D : Value) (x y z : Int) (j b : Nat) (w : World) : Prop := match j with
  | 6 => Holds4 w b (fun v => LowE w v (x + y) z (K + 2))
  | _ => True
theorem Add26C_next {p4 b5 K : Nat} {L R D : Value} {x y z : Int} (j b : Nat) (w w' : World) (hb : Below w.heap.size w w') (_ : b < w.heap.size) (h : Add26C p4 b5 K L R D x y z j b w) : Add26C p4 b5 K L R D x y z j b w' := by
  unfold Add26C at h ⊢
  split at h <;> first | exact h | exact Holds4.next h hb (fun v k => k.next hb)
theorem Add26C_chg {p4 b5 K : Nat} {L R D : Value} {x y z : Int} (j b b' : Nat) (w w' : World) (hc : Chg b' w w') (hb : Box4 w b') (_ : Box4 w' b') (hne : b ≠ b') (h : Add26C p4 b5 K L R D x y z j b w) : Add26C p4 b5 K L R D x y z j b w' := by
  unfold Add26C at h ⊢
  split at h <;> first | exact h | exact Holds4.chg h hc hne (fun v k => k.chg hc hb.noint)
def Sub26V (p4 b5 K : Nat) (L R D : Value) (x y z : Int) (t : Nat) (v : Value) (w : World) : Prop := match t with
  | 4 => v = .pointer (some ⟨p4, 0, none⟩) ∧ Box4 w p4
  | 5 => v = .pointer (some ⟨b5, 0, none⟩)
  | 6 => v = .pointer (some ⟨b5 + 1, 0, none⟩)
  | 7 => v = .pointer (some ⟨b5 + 1 + 1, 0, none⟩)
  | 15 => v = L
  | 16 => v = R
  | 17 => Num w v (x - y) K
  | 18 => v = D
  | 19 => Frac w v (x - y) z K
  | 20 => LowE w v (x - y) z (K + 2)
  | _ => True
theorem Sub26V_next {p4 b5 K : Nat} {L R D : Value} {x y z : Int} (t : Nat) (v : Value) (w w' : World) (hb : Below w.heap.size w w') (h : Sub26V p4 b5 K L R D x y z t v w) : Sub26V p4 b5 K L R D x y z t v w' := by
  unfold Sub26V at h ⊢
  split at h <;> first | exact h | exact Num.next h hb | exact OutE.next h hb | exact Frac.next h hb | exact FracE.next h hb | exact LowE.next h hb | exact ⟨h.1, h.2.next hb⟩
theorem Sub26V_chg {p4 b5 K : Nat} {L R D : Value} {x y z : Int} (t : Nat) (v : Value) (w w' : World) (b : Nat) (hc : Chg b w w') (hb : Box4 w b) (hb' : Box4 w' b) (h : Sub26V p4 b5 K L R D x y z t v w) : Sub26V p4 b5 K L R D x y z t v w' := by
  unfold Sub26V at h ⊢
  split at h <;> first | exact h | exact Num.chg h hc hb.noint | exact OutE.chg h hc hb.noint | exact Frac.chg h hc hb.noint | exact FracE.chg h hc hb.noint | exact LowE.chg h hc hb.noint | exact ⟨h.1, h.2.chg hc hb'⟩
def Sub26C (p4 b5 K : Nat) (L R D : Value) (x y z : Int) (j b : Nat) (w : World) : Prop := match j with
  | 6 => Holds4 w b (fun v => LowE w v (x - y) z (K + 2))
  | _ => True
theorem Sub26C_next {p4 b5 K : Nat} {L R D : Value} {x y z : Int} (j b : Nat) (w w' : World) (hb : Below w.heap.size w w') (_ : b < w.heap.size) (h : Sub26C p4 b5 K L R D x y z j b w) : Sub26C p4 b5 K L R D x y z j b w' := by
  unfold Sub26C at h ⊢
  split at h <;> first | exact h | exact Holds4.next h hb (fun v k => k.next hb)
theorem Sub26C_chg {p4 b5 K : Nat} {L R D : Value} {x y z : Int} (j b b' : Nat) (w w' : World) (hc : Chg b' w w') (hb : Box4 w b') (_ : Box4 w' b') (hne : b ≠ b') (h : Sub26C p4 b5 K L R D x y z j b w) : Sub26C p4 b5 K L R D x y z j b w' := by
  unfold Sub26C at h ⊢
  split at h <;> first | exact h | exact Holds4.chg h hc hne (fun v k => k.chg hc hb.noint)
end Go.Proofs.YtmpefgemlpnbiaaGreat
namespace Go.Proofs.YtmpefgemlpnbiaaGreat
set_option linter.unusedVariables false
open Go.RowKit
attribute [local go_sem ↓] Go.wp_at_zero Go.wp_at_succ
def Mul26V (p4 b5 b7 K : Nat) (AN AD BN BD : Value) (x z : Int) (t : Nat) (v : Value) (w : World) : Prop := match t with
  | 4 => v = .pointer (some ⟨p4, 0, none⟩) ∧ Box4 w p4
  | 5 => v = .pointer (some ⟨b5, 0, none⟩)
  | 6 => v = .pointer (some ⟨b5 + 1, 0, none⟩)
  | 7 => v = .pointer (some ⟨b7, 0, none⟩)
  | 8 => v = .pointer (some ⟨b7 + 1, 0, none⟩)
  | 19 => v = AN
  | 20 => v = BN
  | 21 => Num w v x K
  | 22 => v = AD
  | 23 => v = BD
  | 24 => Num w v z K
  | 25 => Frac w v x z K
  | 26 => LowE w v x z (K + 2)
  | _ => True
theorem Mul26V_next {p4 b5 b7 K : Nat} {AN AD BN BD : Value} {x z : Int} (t : Nat) (v : Value) (w w' : World) (hb : Below w.heap.size w w') (h : Mul26V p4 b5 b7 K AN AD BN BD x z t v w) : Mul26V p4 b5 b7 K AN AD BN BD x z t v w' := by
  unfold Mul26V at h ⊢
  split at h <;> first | exact h | exact Num.next h hb | exact OutE.next h hb | exact Frac.next h hb | exact FracE.next h hb | exact LowE.next h hb | exact ⟨h.1, h.2.next hb⟩
theorem Mul26V_chg {p4 b5 b7 K : Nat} {AN AD BN BD : Value} {x z : Int} (t : Nat) (v : Value) (w w' : World) (b : Nat) (hc : Chg b w w') (hb : Box4 w b) (hb' : Box4 w' b) (h : Mul26V p4 b5 b7 K AN AD BN BD x z t v w) : Mul26V p4 b5 b7 K AN AD BN BD x z t v w' := by
  unfold Mul26V at h ⊢
  split at h <;> first | exact h | exact Num.chg h hc hb.noint | exact OutE.chg h hc hb.noint | exact Frac.chg h hc hb.noint | exact FracE.chg h hc hb.noint | exact LowE.chg h hc hb.noint | exact ⟨h.1, h.2.chg hc hb'⟩
def Mul26C (p4 b5 b7 K : Nat) (AN AD BN BD : Value) (x z : Int) (j b : Nat) (w : World) : Prop := match j with
  | 8 => Holds4 w b (fun v => LowE w v x z (K + 2))
  | _ => True
theorem Mul26C_next {p4 b5 b7 K : Nat} {AN AD BN BD : Value} {x z : Int} (j b : Nat) (w w' : World) (hb : Below w.heap.size w w') (_ : b < w.heap.size) (h : Mul26C p4 b5 b7 K AN AD BN BD x z j b w) : Mul26C p4 b5 b7 K AN AD BN BD x z j b w' := by
  unfold Mul26C at h ⊢
  split at h <;> first | exact h | exact Holds4.next h hb (fun v k => k.next hb)
theorem Mul26C_chg {p4 b5 b7 K : Nat} {AN AD BN BD : Value} {x z : Int} (j b b' : Nat) (w w' : World) (hc : Chg b' w w') (hb : Box4 w b') (_ : Box4 w' b') (hne : b ≠ b') (h : Mul26C p4 b5 b7 K AN AD BN BD x z j b w) : Mul26C p4 b5 b7 K AN AD BN BD x z j b w' := by
  unfold Mul26C at h ⊢
  split at h <;> first | exact h | exact Holds4.chg h hc hne (fun v k => k.chg hc hb.noint)
end Go.Proofs.YtmpefgemlpnbiaaGreat
namespace Go.Proofs.YtmpefgemlpnbiaaGreat
open Go.RowKit
attribute [local go_sem ↓] Go.wp_at_zero Go.wp_at_succ
theorem boxes_of (w : World) (n1 : Bool) (a1 : Option Addr) (l1 c1 : Nat) (n2 : Bool) (a2 : Option Addr) (l2 c2 : Nat) : ∃ W, W = ((w.alloc (.cells #[.bool n1, .slice a1 l1 c1] 24)).alloc (.cells #[.bool n2, .slice a2 l2 c2] 24)).alloc (.cells #[.bool false, .slice none 0 0, .bool false, .slice none 0 0] 26) ∧ Below w.heap.size w W ∧
    (W.cell? ⟨w.heap.size, 0, none⟩ = some (.bool n1) ∧ W.cell? ⟨w.heap.size, 1, none⟩ = some (.slice a1 l1 c1) ∧ W.cell? ⟨w.heap.size + 1, 0, none⟩ = some (.bool n2) ∧ W.cell? ⟨w.heap.size + 1, 1, none⟩ = some (.slice a2 l2 c2)) ∧ Box4 W (w.heap.size + 1 + 1) := by
  refine ⟨_, rfl, (((Below.refl _ _).alloc (Nat.le_refl _) _).alloc (by simp) _).alloc (by simp; omega) _, ⟨?_, ?_, ?_, ?_⟩, ?n0⟩
  case n0 =>
    have h := Box4.new ((w.alloc (.cells #[.bool n1, .slice a1 l1 c1] 24)).alloc (.cells #[.bool n2, .slice a2 l2 c2] 24)) false none 0 0 false none 0 0 26 (by decide)
    rw [show ((w.alloc (.cells #[.bool n1, .slice a1 l1 c1] 24)).alloc (.cells #[.bool n2, .slice a2 l2 c2] 24)).heap.size = w.heap.size + 1 + 1 from by simp] at h
    exact h
  all_goals simp [go_sem, World.cell?_alloc_past]
theorem put4_boxed {base : Nat} {w : World} {g : Nat} (hg : NoInt w g) (bg : base ≤ g) (m1 : Bool) (a1 : Option Addr) (l1 c1 : Nat) (m2 : Bool) (a2 : Option Addr) (l2 c2 : Nat) : Boxed base w ((((w.setCell ⟨g, 0, none⟩ (.bool m1)).setCell ⟨g, 1, none⟩ (.slice a1 l1 c1)).setCell ⟨g, 2, none⟩ (.bool m2)).setCell ⟨g, 3, none⟩ (.slice a2 l2 c2)) :=
  (((Boxed.refl.set _ _ _ hg bg (notInt_bool _)).set _ _ _ hg bg (notInt_slice _ _ _)).set _ _ _ hg bg (notInt_bool _)).set _ _ _ hg bg (notInt_slice _ _ _)
theorem Boxed.fracE {base : Nat} {w w' : World} (h : Boxed base w w') {v : Value} {n d : Int} {m : Nat} (hf : FracE w v n d m) : FracE w' v n d m := by
  obtain ⟨n1, a1, l1, c1, n2, a2, l2, c2, hv, h1, h2⟩ := hf
  exact ⟨n1, a1, l1, c1, n2, a2, l2, c2, hv, h.out h1, h.out h2⟩
theorem Boxed.lowE {base : Nat} {w w' : World} (h : Boxed base w w') {v : Value} {n d : Int} {m : Nat} (hf : LowE w v n d m) : LowE w' v n d m := by
  obtain ⟨p, q, h1, h2⟩ := hf
  exact ⟨p, q, h.fracE h1, h2⟩
/-- What Of answers. -/
def OfAns (w : World) (v : Value) (n d : Int) (m : Nat) : Prop := ∃ t, v = .tuple #[t, .bool (decide (d ≠ 0))] ∧ (d = 0 → FracE w t 0 1 (m + 2)) ∧ (d ≠ 0 → LowE w t (pN n d) (pD d) (m + 2))
theorem FracE.more {w : World} {v : Value} {n d : Int} {m k : Nat} (h : FracE w v n d m) (hk : m ≤ k) : FracE w v n d k := by
  obtain ⟨n1, a1, l1, c1, n2, a2, l2, c2, hv, h1, h2⟩ := h
  exact ⟨n1, a1, l1, c1, n2, a2, l2, c2, hv, h1.more hk, h2.more hk⟩
theorem LowE.more {w : World} {v : Value} {n d : Int} {m k : Nat} (h : LowE w v n d m) (hk : m ≤ k) : LowE w v n d k := by
  obtain ⟨p, q, h1, h2⟩ := h
  exact ⟨p, q, h1.more hk, h2⟩
set_option maxRecDepth 20000 in
set_option maxHeartbeats 4000000 in
theorem Of26_num {w : World} {u v : Value} {n d : Int} {m : Nat} (hu : Num w u n m) (hv : Num w v d m) (hm : m ≤ 200) :
    Calls Tryz.prog 68 #[u, v] w fun e w' => ∃ t, e = .returned t ∧ OfAns w' t n d m ∧ Below w.heap.size w w' := by
  obtain ⟨n1, a1, l1, c1, rfl⟩ := hu.form
  obtain ⟨n2, a2, l2, c2, rfl⟩ := hv.form
  obtain ⟨W, hW, hbW, ⟨e0, e1, e2, e3⟩, x0⟩ := boxes_of w n1 a1 l1 c1 n2 a2 l2 c2
  have k1 := isZero_num (hv.next hbW) (by omega)
  replace k1 : Hid _ := k1
  go_enter Tryz.func68, Tryz.ntmps68
  go_wp2_with fail
  rw [← hW]
  clear hW
  refine Calls.mono k1.out ?_
  rintro e w1 ⟨rfl, hb1⟩
  clear k1
  have p0 := keep_cell hb1 e0
  have p1 := keep_cell hb1 e1
  have p2 := keep_cell hb1 e2
  have p3 := keep_cell hb1 e3
  have y0 := x0.next hb1
  have hN := (hu.next hbW).next hb1
  have hD := (hv.next hbW).next hb1
  have hB1 := bthen hbW hb1
  clear e0 e1 e2 e3
  by_cases hz : d = 0
  · have hd : decide (d = 0) = true := by simpa using hz
    have hd' : Hid (decide (d ≠ 0) = false) := by show _ = _; simpa using hz
    have k2 := zero_any w1
    replace k2 : Hid _ := k2
    rw [hd]
    have hz' : Hid _ := hz
    clear hz hd
    go_wp2_with fail
    refine Calls.mono k2.out ?_
    rintro e w2 ⟨t, rfl, hF, hb2⟩
    clear k2
    obtain ⟨n3, a3, l3, c3, n4, a4, l4, c4, rfl⟩ := hF.form
    have y1 := y0.next hb2
    obtain ⟨_, _, _, _, _, _, _, _, j0, j1, j2, j3, f⟩ := y1.cells
    have f0 := f 0
    have f1 := f 1
    have f2 := f 2
    have f3 := f 3
    have hbx : Hid _ := put4_boxed (base := w.heap.size) y1.noint (by omega) n3 a3 l3 c3 n4 a4 l4 c4
    have hB2 := bthen hB1 hb2
    clear f
    go_wp2
    exact bodyPost_ret (v := .tuple #[.agg #[.bool n3, .slice a3 l3 c3, .bool n4, .slice a4 l4 c4], .bool false]) (by simp [results, Tryz.results68, go_sem, j0, j1, j2, j3]) rfl ⟨_, rfl, ⟨_, by rw [hd'.out], fun _ => (hbx.out.fracE hF).more (by omega), fun h => absurd hz'.out h⟩, hbx.out.keep hB2 (Nat.le_refl _) hB2.size⟩
  · have hd : decide (d = 0) = false := by simpa using hz
    have hd' : Hid (decide (d ≠ 0) = true) := by show _ = _; simpa using hz
    have k2 := lowest_num (Num.frac hN hD rfl rfl) hm
    replace k2 : Hid _ := k2
    rw [hd]
    have hz' : Hid (d ≠ 0) := hz
    clear hz hd
    go_wp2_with fail
    refine Calls.mono k2.out ?_
    rintro e w2 ⟨t, p, q, rfl, hF, hlow, hb2⟩
    clear k2
    obtain ⟨n3, a3, l3, c3, n4, a4, l4, c4, rfl⟩ := hF.form
    have y1 := y0.next hb2
    obtain ⟨_, _, _, _, _, _, _, _, j0, j1, j2, j3, f⟩ := y1.cells
    have f0 := f 0
    have f1 := f 1
    have f2 := f 2
    have f3 := f 3
    have hbx : Hid _ := put4_boxed (base := w.heap.size) y1.noint (by omega) n3 a3 l3 c3 n4 a4 l4 c4
    have hB2 := bthen hB1 hb2
    replace hlow : Hid _ := hlow
    clear f
    go_wp2
    exact bodyPost_ret (v := .tuple #[.agg #[.bool n3, .slice a3 l3 c3, .bool n4, .slice a4 l4 c4], .bool true]) (by simp [results, Tryz.results68, go_sem, j0, j1, j2, j3]) rfl ⟨_, rfl, ⟨_, by rw [hd'.out], fun h => absurd h hz'.out, fun _ => ⟨p, q, hbx.out.fracE hF, hlow.out⟩⟩, hbx.out.keep hB2 (Nat.le_refl _) hB2.size⟩
end Go.Proofs.YtmpefgemlpnbiaaGreat
namespace Go.Proofs.YtmpefgemlpnbiaaGreat
set_option linter.unusedVariables false
open Go.RowKit
attribute [local go_sem ↓] Go.wp_at_zero Go.wp_at_succ
/-- The fraction that Of answers. -/
def OfRes (w : World) (v : Value) (n d : Int) (m : Nat) : Prop := (d = 0 → FracE w v 0 1 (m + 2)) ∧ (d ≠ 0 → LowE w v (pN n d) (pD d) (m + 2))
section
variable {w w' : World} {v : Value} {n d : Int} {m b : Nat}
theorem OfRes.next (h : OfRes w v n d m) (hb : Below w.heap.size w w') : OfRes w' v n d m := ⟨fun e => (h.1 e).next hb, fun e => (h.2 e).next hb⟩
theorem OfRes.chg (h : OfRes w v n d m) (hc : Chg b w w') (hb : NoInt w b) : OfRes w' v n d m := ⟨fun e => (h.1 e).chg hc hb, fun e => (h.2 e).chg hc hb⟩
theorem OfRes.form (h : OfRes w v n d m) : ∃ n1 a1 l1 c1 n2 a2 l2 c2, v = .agg #[.bool n1, .slice a1 l1 c1, .bool n2, .slice a2 l2 c2] := by
  by_cases e : d = 0
  · exact (h.1 e).form
  · exact (h.2 e).form
theorem OfAns.next (h : OfAns w v n d m) (hb : Below w.heap.size w w') : OfAns w' v n d m := by
  obtain ⟨t, h1, h2, h3⟩ := h
  exact ⟨t, h1, fun e => (h2 e).next hb, fun e => (h3 e).next hb⟩
theorem OfAns.chg (h : OfAns w v n d m) (hc : Chg b w w') (hb : NoInt w b) : OfAns w' v n d m := by
  obtain ⟨t, h1, h2, h3⟩ := h
  exact ⟨t, h1, fun e => (h2 e).chg hc hb, fun e => (h3 e).chg hc hb⟩
end
section
variable {ops : Array Oper} {Q : Exit → Act → World → Prop} {V : Nat → Value → World → Prop} {S : List Nat} {N : Nat} {w : World}
theorem pl_extract {o : Oper} (t d i : Nat) (ho : o.op = .extract (.tmp t) i) (hi : i = 0 ∨ i = 1) (hd : o.dst = some d) (hg : GuardOk ops V o) (hl : (o.looksAt ops).contains t = true) (hv : ∀ v w, V t v w → ∃ x y, v = .tuple #[x, y] ∧ V d (if i = 0 then x else y) w) : PlainStep Tryz.prog ops Q V S N w o :=
  plain_of hg fun b w' _ _ hb K hK => by
    obtain ⟨x, y, h1, h2⟩ := hv _ _ (look hb t hl)
    obtain ⟨dst, op, type, pos, after, guard⟩ := o
    dsimp only at ho hd
    subst ho
    unfold Oper.wp
    have e : b.eval (.tmp t) = .tuple #[x, y] := h1
    have hk := hK (if i = 0 then x else y) _ (Below.refl _ w') (dst_eq hd h2)
    clear hd hK h2
    rcases hi with rfl | rfl
    · replace hk : Hid _ := hk
      go_simp
      exact hk.out
    · replace hk : Hid _ := hk
      go_simp
      exact hk.out
end
def Quo26V (p4 b5 b7 K : Nat) (AN AD BN BD : Value) (x z : Int) (t : Nat) (v : Value) (w : World) : Prop := match t with
  | 4 => v = .pointer (some ⟨p4, 0, none⟩) ∧ Box4 w p4
  | 5 => v = .bool (decide (z ≠ 0))
  | 6 => v = .pointer (some ⟨b5, 0, none⟩)
  | 7 => v = .pointer (some ⟨b5 + 1, 0, none⟩)
  | 8 => v = .pointer (some ⟨b7, 0, none⟩)
  | 9 => v = .pointer (some ⟨b7 + 1, 0, none⟩)
  | 20 => v = AN
  | 21 => v = BD
  | 22 => Num w v x K
  | 23 => v = AD
  | 24 => v = BN
  | 25 => Num w v z K
  | 26 => OfAns w v x z K
  | 27 => OfRes w v x z K
  | 28 => v = .bool (decide (z ≠ 0))
  | _ => True
theorem Quo26V_next {p4 b5 b7 K : Nat} {AN AD BN BD : Value} {x z : Int} (t : Nat) (v : Value) (w w' : World) (hb : Below w.heap.size w w') (h : Quo26V p4 b5 b7 K AN AD BN BD x z t v w) : Quo26V p4 b5 b7 K AN AD BN BD x z t v w' := by
  unfold Quo26V at h ⊢
  split at h <;> first | exact h | exact Num.next h hb | exact OutE.next h hb | exact Frac.next h hb | exact FracE.next h hb | exact LowE.next h hb | exact OfAns.next h hb | exact OfRes.next h hb | exact ⟨h.1, h.2.next hb⟩
theorem Quo26V_chg {p4 b5 b7 K : Nat} {AN AD BN BD : Value} {x z : Int} (t : Nat) (v : Value) (w w' : World) (b : Nat) (hc : Chg b w w') (hb : Box4 w b) (hb' : Box4 w' b) (h : Quo26V p4 b5 b7 K AN AD BN BD x z t v w) : Quo26V p4 b5 b7 K AN AD BN BD x z t v w' := by
  unfold Quo26V at h ⊢
  split at h <;> first | exact h | exact Num.chg h hc hb.noint | exact OutE.chg h hc hb.noint | exact Frac.chg h hc hb.noint | exact FracE.chg h hc hb.noint | exact LowE.chg h hc hb.noint | exact OfAns.chg h hc hb.noint | exact OfRes.chg h hc hb.noint | exact ⟨h.1, h.2.chg hc hb'⟩
def Quo26C (p4 b5 b7 K : Nat) (AN AD BN BD : Value) (x z : Int) (j b : Nat) (w : World) : Prop := match j with
  | 9 => Holds4 w b (fun v => OfRes w v x z K)
  | _ => True
theorem Quo26C_next {p4 b5 b7 K : Nat} {AN AD BN BD : Value} {x z : Int} (j b : Nat) (w w' : World) (hb : Below w.heap.size w w') (_ : b < w.heap.size) (h : Quo26C p4 b5 b7 K AN AD BN BD x z j b w) : Quo26C p4 b5 b7 K AN AD BN BD x z j b w' := by
  unfold Quo26C at h ⊢
  split at h <;> first | exact h | exact Holds4.next h hb (fun v k => k.next hb)
theorem Quo26C_chg {p4 b5 b7 K : Nat} {AN AD BN BD : Value} {x z : Int} (j b b' : Nat) (w w' : World) (hc : Chg b' w w') (hb : Box4 w b') (_ : Box4 w' b') (hne : b ≠ b') (h : Quo26C p4 b5 b7 K AN AD BN BD x z j b w) : Quo26C p4 b5 b7 K AN AD BN BD x z j b w' := by
  unfold Quo26C at h ⊢
  split at h <;> first | exact h | exact Holds4.chg h hc hne (fun v k => k.chg hc hb.noint)
/-- What Quo answers. -/
def QuoAns (w w' : World) (e : Ending) (x z : Int) (m : Nat) : Prop := ∃ t, e = .returned (.tuple #[t, .bool (decide (z ≠ 0))]) ∧ OfRes w' t x z m ∧ Below w.heap.size w w'
end Go.Proofs.YtmpefgemlpnbiaaGreat
namespace Go.Proofs.YtmpefgemlpnbiaaGreat
open Go.RowKit
attribute [local go_sem ↓] Go.wp_at_zero Go.wp_at_succ
theorem boxes_whole (w : World) (n1 : Bool) (a1 : Option Addr) (l1 c1 : Nat) : ∃ W, W = (w.alloc (.cells #[.bool n1, .slice a1 l1 c1] 24)).alloc (.cells #[.bool false, .slice none 0 0, .bool false, .slice none 0 0] 26) ∧ Below w.heap.size w W ∧
    (W.cell? ⟨w.heap.size, 0, none⟩ = some (.bool n1) ∧ W.cell? ⟨w.heap.size, 1, none⟩ = some (.slice a1 l1 c1)) ∧ Box4 W (w.heap.size + 1) := by
  refine ⟨_, rfl, ((Below.refl _ _).alloc (Nat.le_refl _) _).alloc (by simp) _, ⟨?_, ?_⟩, ?n0⟩
  case n0 =>
    have h := Box4.new (w.alloc (.cells #[.bool n1, .slice a1 l1 c1] 24)) false none 0 0 false none 0 0 26 (by decide)
    rw [show (w.alloc (.cells #[.bool n1, .slice a1 l1 c1] 24)).heap.size = w.heap.size + 1 from by simp] at h
    exact h
  all_goals simp [go_sem, World.cell?_alloc_past]
set_option maxRecDepth 20000 in
set_option maxHeartbeats 4000000 in
theorem Whole_num {w : World} {u : Value} {n : Int} {m : Nat} (hu : Num w u n m) (hm : m ≤ 190) :
    Calls Tryz.prog 63 #[u] w fun e w' => ∃ t, e = .returned t ∧ LowE w' t n 1 (m + 4) ∧ Below w.heap.size w w' := by
  obtain ⟨n1, a1, l1, c1, rfl⟩ := hu.form
  obtain ⟨W, hW, hbW, ⟨e0, e1⟩, x0⟩ := boxes_whole w n1 a1 l1 c1
  have hU := hu.next hbW
  have hD0 : Below W.heap.size W W.drew := (Below.refl _ _).drew
  go_enter Tryz.func63, Tryz.ntmps63
  go_wp2
  rw [← hW]
  clear hW
  go_region_with (first
    | (go_at_call 46; refine (Of_any 1 _ (by decide) (by decide)).mono ?_; rintro e w2 ⟨t, rfl, hO, hb2⟩; obtain ⟨n3, a3, l3, c3, rfl⟩ := hO.form; have hB2 : Below W.heap.size W w2 := bthen hD0 hb2; have p0 := keep_cell hB2 e0; have p1 := keep_cell hB2 e1)
    | (go_at_call 90; refine (lowest_pos (Num.frac ((hU.next hB2).more' (m := m + 2) (by omega)) (hO.num.more' (m := m + 2) (by omega)) rfl rfl) (by omega) (by decide)).mono ?_; rintro e w3 ⟨t, rfl, hL, hb3⟩; obtain ⟨n4, a4, l4, c4, n5, a5, l5, c5, rfl⟩ := hL.form; have hB3 : Below W.heap.size W w3 := bthen hB2 hb3; have y0 := x0.next hB3; obtain ⟨_, _, _, _, _, _, _, _, j0, j1, j2, j3, f⟩ := y0.cells; have f0 := f 0; have f1 := f 1; have f2 := f 2; have f3 := f 3; clear f))
  all_goals
    have hbx : Hid _ := put4_boxed (base := w.heap.size) y0.noint (by omega) n4 a4 l4 c4 n5 a5 l5 c5
    have hBf := bthen hbW hB3
    have hLf : Hid _ := hbx.out.lowE hL
    clear hO hL hU hb2 hb3 hB2 hB3
    go_wp2
    exact bodyPost_ret (v := .agg #[.bool n4, .slice a4 l4 c4, .bool n5, .slice a5 l5 c5]) (by simp [results, Tryz.results63, go_sem, j0, j1, j2, j3]) rfl ⟨_, rfl, hLf.out, hbx.out.keep hBf (Nat.le_refl _) hBf.size⟩
end Go.Proofs.YtmpefgemlpnbiaaGreat
namespace Go.Proofs.YtmpefgemlpnbiaaGreat
open Go.RowKit
attribute [local go_sem ↓] Go.wp_at_zero Go.wp_at_succ
theorem boxes_int (w : World) (m1 : Bool) (a1 : Option Addr) (l1 c1 : Nat) (m2 : Bool) (a2 : Option Addr) (l2 c2 : Nat) : ∃ W, W = (w.alloc (.cells #[.bool m1, .slice a1 l1 c1, .bool m2, .slice a2 l2 c2] 26)).alloc (.cells #[.bool false, .slice none 0 0] 24) ∧ Below w.heap.size w W ∧
    (W.cell? ⟨w.heap.size, 0, none⟩ = some (.bool m1) ∧ W.cell? ⟨w.heap.size, 1, none⟩ = some (.slice a1 l1 c1) ∧ W.cell? ⟨w.heap.size, 2, none⟩ = some (.bool m2) ∧ W.cell? ⟨w.heap.size, 3, none⟩ = some (.slice a2 l2 c2)) ∧ Box2 W (w.heap.size + 1) := by
  refine ⟨_, rfl, ((Below.refl _ _).alloc (Nat.le_refl _) _).alloc (by simp) _, ⟨?_, ?_, ?_, ?_⟩, ?n⟩
  case n =>
    have h := Box2.new (w.alloc (.cells #[.bool m1, .slice a1 l1 c1, .bool m2, .slice a2 l2 c2] 26)) false none 0 0 24 (by decide)
    rw [show (w.alloc (.cells #[.bool m1, .slice a1 l1 c1, .bool m2, .slice a2 l2 c2] 26)).heap.size = w.heap.size + 1 from by simp] at h
    exact h
  all_goals simp [go_sem, World.cell?_alloc_past]
theorem put2_boxed {base : Nat} {w : World} {g : Nat} (hg : NoInt w g) (bg : base ≤ g) (m1 : Bool) (a1 : Option Addr) (l1 c1 : Nat) : Boxed base w ((w.setCell ⟨g, 0, none⟩ (.bool m1)).setCell ⟨g, 1, none⟩ (.slice a1 l1 c1)) :=
  (Boxed.refl.set _ _ _ hg bg (notInt_bool _)).set _ _ _ hg bg (notInt_slice _ _ _)
/-- What Int answers. -/
def IntAns (w : World) (v : Value) (n d : Int) (m : Nat) : Prop :=
  ∃ t, v = .tuple #[t, .bool (decide ((pN n d).tmod (pD d) = 0))] ∧ ((pN n d).tmod (pD d) = 0 → OutE w t ((pN n d).tdiv (pD d)) (m + 3)) ∧ ((pN n d).tmod (pD d) ≠ 0 → t = .agg #[.bool false, .slice none 0 0])
end Go.Proofs.YtmpefgemlpnbiaaGreat
