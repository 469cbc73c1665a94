/- Products of fractions. -/
import Derived.Test.YtmpefgemlpnbiaaGreatFa
namespace Go.Proofs.YtmpefgemlpnbiaaGreat
set_option linter.unusedVariables false
open Go.RowKit
attribute [local go_sem ↓] Go.wp_at_zero Go.wp_at_succ
def Mul26V (p4 b5 b7 K : Nat) (AN AD BN BD : Value) (x z : Int) (t : Nat) (v : Value) (w : World) : Prop := match t with
  | 4 => v = .pointer (some ⟨p4, 0, none⟩) ∧ Box4 w p4
  | 5 => v = .pointer (some ⟨b5, 0, none⟩)
  | 6 => v = .pointer (some ⟨b5 + 1, 0, none⟩)
  | 7 => v = .pointer (some ⟨b7, 0, none⟩)
  | 8 => v = .pointer (some ⟨b7 + 1, 0, none⟩)
  | 19 => v = AN
  | 20 => v = BN
  | 21 => Num w v x K
  | 22 => v = AD
  | 23 => v = BD
  | 24 => Num w v z K
  | 25 => Frac w v x z K
  | 26 => LowE w v x z (K + 2)
  | _ => True
theorem Mul26V_next {p4 b5 b7 K : Nat} {AN AD BN BD : Value} {x z : Int} (t : Nat) (v : Value) (w w' : World) (hb : Below w.heap.size w w') (h : Mul26V p4 b5 b7 K AN AD BN BD x z t v w) : Mul26V p4 b5 b7 K AN AD BN BD x z t v w' := by
  unfold Mul26V at h ⊢
  split at h <;> first | exact h | exact Num.next h hb | exact OutE.next h hb | exact Frac.next h hb | exact FracE.next h hb | exact LowE.next h hb | exact ⟨h.1, h.2.next hb⟩
theorem Mul26V_chg {p4 b5 b7 K : Nat} {AN AD BN BD : Value} {x z : Int} (t : Nat) (v : Value) (w w' : World) (b : Nat) (hc : Chg b w w') (hb : Box4 w b) (hb' : Box4 w' b) (h : Mul26V p4 b5 b7 K AN AD BN BD x z t v w) : Mul26V p4 b5 b7 K AN AD BN BD x z t v w' := by
  unfold Mul26V at h ⊢
  split at h <;> first | exact h | exact Num.chg h hc hb.noint | exact OutE.chg h hc hb.noint | exact Frac.chg h hc hb.noint | exact FracE.chg h hc hb.noint | exact LowE.chg h hc hb.noint | exact ⟨h.1, h.2.chg hc hb'⟩
def Mul26C (p4 b5 b7 K : Nat) (AN AD BN BD : Value) (x z : Int) (j b : Nat) (w : World) : Prop := match j with
  | 8 => Holds4 w b (fun v => LowE w v x z (K + 2))
  | _ => True
theorem Mul26C_next {p4 b5 b7 K : Nat} {AN AD BN BD : Value} {x z : Int} (j b : Nat) (w w' : World) (hb : Below w.heap.size w w') (_ : b < w.heap.size) (h : Mul26C p4 b5 b7 K AN AD BN BD x z j b w) : Mul26C p4 b5 b7 K AN AD BN BD x z j b w' := by
  unfold Mul26C at h ⊢
  split at h <;> first | exact h | exact Holds4.next h hb (fun v k => k.next hb)
theorem Mul26C_chg {p4 b5 b7 K : Nat} {AN AD BN BD : Value} {x z : Int} (j b b' : Nat) (w w' : World) (hc : Chg b' w w') (hb : Box4 w b') (_ : Box4 w' b') (hne : b ≠ b') (h : Mul26C p4 b5 b7 K AN AD BN BD x z j b w) : Mul26C p4 b5 b7 K AN AD BN BD x z j b w' := by
  unfold Mul26C at h ⊢
  split at h <;> first | exact h | exact Holds4.chg h hc hne (fun v k => k.chg hc hb.noint)
end Go.Proofs.YtmpefgemlpnbiaaGreat
