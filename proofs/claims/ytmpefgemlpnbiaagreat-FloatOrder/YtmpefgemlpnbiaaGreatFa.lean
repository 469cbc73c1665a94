/- Sums, differences, products of fractions. -/
import Derived.Test.YtmpefgemlpnbiaaGreatFs
namespace Go.Proofs.YtmpefgemlpnbiaaGreat
set_option linter.unusedVariables false
open Go.RowKit
attribute [local go_sem ↓] Go.wp_at_zero Go.wp_at_succ
theorem boxes_op (w : World) (n1 : Bool) (a1 : Option Addr) (l1 c1 : Nat) (n2 : Bool) (a2 : Option Addr) (l2 c2 : Nat) (n3 : Bool) (a3 : Option Addr) (l3 c3 : Nat) (n4 : Bool) (a4 : Option Addr) (l4 c4 : Nat) : ∃ W, W = ((w.alloc (.cells #[.bool n1, .slice a1 l1 c1, .bool n2, .slice a2 l2 c2] 26)).alloc (.cells #[.bool n3, .slice a3 l3 c3, .bool n4, .slice a4 l4 c4] 26)).alloc (.cells #[.bool false, .slice none 0 0, .bool false, .slice none 0 0] 26) ∧ Below w.heap.size w W ∧
    (W.cell? ⟨w.heap.size, 0, none⟩ = some (.bool n1) ∧ W.cell? ⟨w.heap.size, 1, none⟩ = some (.slice a1 l1 c1) ∧ W.cell? ⟨w.heap.size, 2, none⟩ = some (.bool n2) ∧ W.cell? ⟨w.heap.size, 3, none⟩ = some (.slice a2 l2 c2)) ∧
    (W.cell? ⟨w.heap.size + 1, 0, none⟩ = some (.bool n3) ∧ W.cell? ⟨w.heap.size + 1, 1, none⟩ = some (.slice a3 l3 c3) ∧ W.cell? ⟨w.heap.size + 1, 2, none⟩ = some (.bool n4) ∧ W.cell? ⟨w.heap.size + 1, 3, none⟩ = some (.slice a4 l4 c4)) ∧ Box4 W (w.heap.size + 1 + 1) := by
  refine ⟨_, rfl, (((Below.refl _ _).alloc (Nat.le_refl _) _).alloc (by simp) _).alloc (by simp; omega) _, ⟨?_, ?_, ?_, ?_⟩, ⟨?_, ?_, ?_, ?_⟩, ?n0⟩
  case n0 =>
    have h := Box4.new ((w.alloc (.cells #[.bool n1, .slice a1 l1 c1, .bool n2, .slice a2 l2 c2] 26)).alloc (.cells #[.bool n3, .slice a3 l3 c3, .bool n4, .slice a4 l4 c4] 26)) false none 0 0 false none 0 0 26 (by decide)
    rw [show ((w.alloc (.cells #[.bool n1, .slice a1 l1 c1, .bool n2, .slice a2 l2 c2] 26)).alloc (.cells #[.bool n3, .slice a3 l3 c3, .bool n4, .slice a4 l4 c4] 26)).heap.size = w.heap.size + 1 + 1 from by simp] at h
    exact h
  all_goals simp [go_sem, World.cell?_alloc_past]
theorem boxes_three (w : World) (m1 : Bool) (a1 : Option Addr) (l1 c1 : Nat) (m2 : Bool) (a2 : Option Addr) (l2 c2 : Nat) (m3 : Bool) (a3 : Option Addr) (l3 c3 : Nat) : ∃ W, W = ((w.alloc (.cells #[.bool m1, .slice a1 l1 c1] 24)).alloc (.cells #[.bool m2, .slice a2 l2 c2] 24)).alloc (.cells #[.bool m3, .slice a3 l3 c3] 24) ∧ Below w.heap.size w W ∧ w.heap.size + 1 + 1 < W.heap.size ∧
    (W.cell? ⟨w.heap.size, 0, none⟩ = some (.bool m1) ∧ W.cell? ⟨w.heap.size, 1, none⟩ = some (.slice a1 l1 c1) ∧ W.cell? ⟨w.heap.size + 1, 0, none⟩ = some (.bool m2) ∧ W.cell? ⟨w.heap.size + 1, 1, none⟩ = some (.slice a2 l2 c2) ∧ W.cell? ⟨w.heap.size + 1 + 1, 0, none⟩ = some (.bool m3) ∧ W.cell? ⟨w.heap.size + 1 + 1, 1, none⟩ = some (.slice a3 l3 c3)) := by
  refine ⟨_, rfl, (((Below.refl _ _).alloc (Nat.le_refl _) _).alloc (by simp) _).alloc (by simp; omega) _, by simp, ⟨?_, ?_, ?_, ?_, ?_, ?_⟩⟩
  all_goals simp [go_sem, World.cell?_alloc_past]
theorem FracE.form {w : World} {v : Value} {n d : Int} {m : Nat} (h : FracE w v n d m) : ∃ n1 a1 l1 c1 n2 a2 l2 c2, v = .agg #[.bool n1, .slice a1 l1 c1, .bool n2, .slice a2 l2 c2] := h.frac.form
theorem LowE.form {w : World} {v : Value} {n d : Int} {m : Nat} (h : LowE w v n d m) : ∃ n1 a1 l1 c1 n2 a2 l2 c2, v = .agg #[.bool n1, .slice a1 l1 c1, .bool n2, .slice a2 l2 c2] := by
  obtain ⟨p, q, h, _⟩ := h
  exact h.form
theorem pN_pos {n d : Int} (h : 0 < d) : pN n d = n := by unfold pN; rw [if_neg (by omega)]
theorem pD_of {d : Int} (h : 0 < d) : pD d = d := by unfold pD; rw [if_neg (by omega), if_neg (by omega)]
theorem lowest_pos {w : World} {v : Value} {n d : Int} {m : Nat} (hv : Frac w v n d m) (hm : m ≤ 200) (hd : 0 < d) :
    Calls Tryz.prog 90 #[v] w fun e w' => ∃ t, e = .returned t ∧ LowE w' t n d (m + 2) ∧ Below w.heap.size w w' := by
  refine (lowest_num hv hm).mono ?_
  rintro e w' ⟨t, p, q, rfl, h1, h2, h3⟩
  rw [pN_pos hd, pD_of hd] at h2
  exact ⟨t, rfl, ⟨p, q, h1, h2⟩, h3⟩
theorem Num.frac {w : World} {u v : Value} {y z : Int} {m : Nat} {n1 : Bool} {a1 : Option Addr} {l1 c1 : Nat} {n2 : Bool} {a2 : Option Addr} {l2 c2 : Nat} (hu : Num w u y m) (hv : Num w v z m) (eu : u = .agg #[.bool n1, .slice a1 l1 c1]) (ev : v = .agg #[.bool n2, .slice a2 l2 c2]) : Frac w (.agg #[.bool n1, .slice a1 l1 c1, .bool n2, .slice a2 l2 c2]) y z m := by
  subst eu; subst ev
  exact ⟨_, _, _, _, _, _, _, _, rfl, hu, hv⟩
def Add26V (p4 b5 K : Nat) (L R D : Value) (x y z : Int) (t : Nat) (v : Value) (w : World) : Prop := match t with
  | 4 => v = .pointer (some ⟨p4, 0, none⟩) ∧ Box4 w p4
  | 5 => v = .pointer (some ⟨b5, 0, none⟩)
  | 6 => v = .pointer (some ⟨b5 + 1, 0, none⟩)
  | 7 => v = .pointer (some ⟨b5 + 1 + 1, 0, none⟩)
  | 15 => v = L
  | 16 => v = R
  | 17 => Num w v (x + y) K
  | 18 => v = D
  | 19 => Frac w v (x + y) z K
  | 20 => LowE w v (x + y) z (K + 2)
  | _ => True
theorem Add26V_next {p4 b5 K : Nat} {L R D : Value} {x y z : Int} (t : Nat) (v : Value) (w w' : World) (hb : Below w.heap.size w w') (h : Add26V p4 b5 K L R D x y z t v w) : Add26V p4 b5 K L R D x y z t v w' := by
  unfold Add26V at h ⊢
  split at h <;> first | exact h | exact Num.next h hb | exact OutE.next h hb | exact Frac.next h hb | exact FracE.next h hb | exact LowE.next h hb | exact ⟨h.1, h.2.next hb⟩
theorem Add26V_chg {p4 b5 K : Nat} {L R D : Value} {x y z : Int} (t : Nat) (v : Value) (w w' : World) (b : Nat) (hc : Chg b w w') (hb : Box4 w b) (hb' : Box4 w' b) (h : Add26V p4 b5 K L R D x y z t v w) : Add26V p4 b5 K L R D x y z t v w' := by
  unfold Add26V at h ⊢
  split at h <;> first | exact h | exact Num.chg h hc hb.noint | exact OutE.chg h hc hb.noint | exact Frac.chg h hc hb.noint | exact FracE.chg h hc hb.noint | exact LowE.chg h hc hb.noint | exact ⟨h.1, h.2.chg hc hb'⟩
def Add26C (p4 b5 K : Nat) (L R D : Value) (x y z : Int) (j b : Nat) (w : World) : Prop := match j with
  | 6 => Holds4 w b (fun v => LowE w v (x + y) z (K + 2))
  | _ => True
theorem Add26C_next {p4 b5 K : Nat} {L R D : Value} {x y z : Int} (j b : Nat) (w w' : World) (hb : Below w.heap.size w w') (_ : b < w.heap.size) (h : Add26C p4 b5 K L R D x y z j b w) : Add26C p4 b5 K L R D x y z j b w' := by
  unfold Add26C at h ⊢
  split at h <;> first | exact h | exact Holds4.next h hb (fun v k => k.next hb)
theorem Add26C_chg {p4 b5 K : Nat} {L R D : Value} {x y z : Int} (j b b' : Nat) (w w' : World) (hc : Chg b' w w') (hb : Box4 w b') (_ : Box4 w' b') (hne : b ≠ b') (h : Add26C p4 b5 K L R D x y z j b w) : Add26C p4 b5 K L R D x y z j b w' := by
  unfold Add26C at h ⊢
  split at h <;> first | exact h | exact Holds4.chg h hc hne (fun v k => k.chg hc hb.noint)
def Sub26V (p4 b5 K : Nat) (L R D : Value) (x y z : Int) (t : Nat) (v : Value) (w : World) : Prop := match t with
  | 4 => v = .pointer (some ⟨p4, 0, none⟩) ∧ Box4 w p4
  | 5 => v = .pointer (some ⟨b5, 0, none⟩)
  | 6 => v = .pointer (some ⟨b5 + 1, 0, none⟩)
  | 7 => v = .pointer (some ⟨b5 + 1 + 1, 0, none⟩)
  | 15 => v = L
  | 16 => v = R
  | 17 => Num w v (x - y) K
  | 18 => v = D
  | 19 => Frac w v (x - y) z K
  | 20 => LowE w v (x - y) z (K + 2)
  | _ => True
theorem Sub26V_next {p4 b5 K : Nat} {L R D : Value} {x y z : Int} (t : Nat) (v : Value) (w w' : World) (hb : Below w.heap.size w w') (h : Sub26V p4 b5 K L R D x y z t v w) : Sub26V p4 b5 K L R D x y z t v w' := by
  unfold Sub26V at h ⊢
  split at h <;> first | exact h | exact Num.next h hb | exact OutE.next h hb | exact Frac.next h hb | exact FracE.next h hb | exact LowE.next h hb | exact ⟨h.1, h.2.next hb⟩
theorem Sub26V_chg {p4 b5 K : Nat} {L R D : Value} {x y z : Int} (t : Nat) (v : Value) (w w' : World) (b : Nat) (hc : Chg b w w') (hb : Box4 w b) (hb' : Box4 w' b) (h : Sub26V p4 b5 K L R D x y z t v w) : Sub26V p4 b5 K L R D x y z t v w' := by
  unfold Sub26V at h ⊢
  split at h <;> first | exact h | exact Num.chg h hc hb.noint | exact OutE.chg h hc hb.noint | exact Frac.chg h hc hb.noint | exact FracE.chg h hc hb.noint | exact LowE.chg h hc hb.noint | exact ⟨h.1, h.2.chg hc hb'⟩
def Sub26C (p4 b5 K : Nat) (L R D : Value) (x y z : Int) (j b : Nat) (w : World) : Prop := match j with
  | 6 => Holds4 w b (fun v => LowE w v (x - y) z (K + 2))
  | _ => True
theorem Sub26C_next {p4 b5 K : Nat} {L R D : Value} {x y z : Int} (j b : Nat) (w w' : World) (hb : Below w.heap.size w w') (_ : b < w.heap.size) (h : Sub26C p4 b5 K L R D x y z j b w) : Sub26C p4 b5 K L R D x y z j b w' := by
  unfold Sub26C at h ⊢
  split at h <;> first | exact h | exact Holds4.next h hb (fun v k => k.next hb)
theorem Sub26C_chg {p4 b5 K : Nat} {L R D : Value} {x y z : Int} (j b b' : Nat) (w w' : World) (hc : Chg b' w w') (hb : Box4 w b') (_ : Box4 w' b') (hne : b ≠ b') (h : Sub26C p4 b5 K L R D x y z j b w) : Sub26C p4 b5 K L R D x y z j b w' := by
  unfold Sub26C at h ⊢
  split at h <;> first | exact h | exact Holds4.chg h hc hne (fun v k => k.chg hc hb.noint)
end Go.Proofs.YtmpefgemlpnbiaaGreat
