/- Quotients of fractions. -/
import Derived.Test.YtmpefgemlpnbiaaGreatFo
namespace Go.Proofs.YtmpefgemlpnbiaaGreat
set_option linter.unusedVariables false
open Go.RowKit
attribute [local go_sem ↓] Go.wp_at_zero Go.wp_at_succ
/-- The fraction that Of answers. -/
def OfRes (w : World) (v : Value) (n d : Int) (m : Nat) : Prop := (d = 0 → FracE w v 0 1 (m + 2)) ∧ (d ≠ 0 → LowE w v (pN n d) (pD d) (m + 2))
section
variable {w w' : World} {v : Value} {n d : Int} {m b : Nat}
theorem OfRes.next (h : OfRes w v n d m) (hb : Below w.heap.size w w') : OfRes w' v n d m := ⟨fun e => (h.1 e).next hb, fun e => (h.2 e).next hb⟩
theorem OfRes.chg (h : OfRes w v n d m) (hc : Chg b w w') (hb : NoInt w b) : OfRes w' v n d m := ⟨fun e => (h.1 e).chg hc hb, fun e => (h.2 e).chg hc hb⟩
theorem OfRes.form (h : OfRes w v n d m) : ∃ n1 a1 l1 c1 n2 a2 l2 c2, v = .agg #[.bool n1, .slice a1 l1 c1, .bool n2, .slice a2 l2 c2] := by
  by_cases e : d = 0
  · exact (h.1 e).form
  · exact (h.2 e).form
theorem OfAns.next (h : OfAns w v n d m) (hb : Below w.heap.size w w') : OfAns w' v n d m := by
  obtain ⟨t, h1, h2, h3⟩ := h
  exact ⟨t, h1, fun e => (h2 e).next hb, fun e => (h3 e).next hb⟩
theorem OfAns.chg (h : OfAns w v n d m) (hc : Chg b w w') (hb : NoInt w b) : OfAns w' v n d m := by
  obtain ⟨t, h1, h2, h3⟩ := h
  exact ⟨t, h1, fun e => (h2 e).chg hc hb, fun e => (h3 e).chg hc hb⟩
end
section
variable {ops : Array Oper} {Q : Exit → Act → World → Prop} {V : Nat → Value → World → Prop} {S : List Nat} {N : Nat} {w : World}
theorem pl_extract {o : Oper} (t d i : Nat) (ho : o.op = .extract (.tmp t) i) (hi : i = 0 ∨ i = 1) (hd : o.dst = some d) (hg : GuardOk ops V o) (hl : (o.looksAt ops).contains t = true) (hv : ∀ v w, V t v w → ∃ x y, v = .tuple #[x, y] ∧ V d (if i = 0 then x else y) w) : PlainStep Tryz.prog ops Q V S N w o :=
  plain_of hg fun b w' _ _ hb K hK => by
    obtain ⟨x, y, h1, h2⟩ := hv _ _ (look hb t hl)
    obtain ⟨dst, op, type, pos, after, guard⟩ := o
    dsimp only at ho hd
    subst ho
    unfold Oper.wp
    have e : b.eval (.tmp t) = .tuple #[x, y] := h1
    have hk := hK (if i = 0 then x else y) _ (Below.refl _ w') (dst_eq hd h2)
    clear hd hK h2
    rcases hi with rfl | rfl
    · replace hk : Hid _ := hk
      go_simp
      exact hk.out
    · replace hk : Hid _ := hk
      go_simp
      exact hk.out
end
def Quo26V (p4 b5 b7 K : Nat) (AN AD BN BD : Value) (x z : Int) (t : Nat) (v : Value) (w : World) : Prop := match t with
  | 4 => v = .pointer (some ⟨p4, 0, none⟩) ∧ Box4 w p4
  | 5 => v = .bool (decide (z ≠ 0))
  | 6 => v = .pointer (some ⟨b5, 0, none⟩)
  | 7 => v = .pointer (some ⟨b5 + 1, 0, none⟩)
  | 8 => v = .pointer (some ⟨b7, 0, none⟩)
  | 9 => v = .pointer (some ⟨b7 + 1, 0, none⟩)
  | 20 => v = AN
  | 21 => v = BD
  | 22 => Num w v x K
  | 23 => v = AD
  | 24 => v = BN
  | 25 => Num w v z K
  | 26 => OfAns w v x z K
  | 27 => OfRes w v x z K
  | 28 => v = .bool (decide (z ≠ 0))
  | _ => True
theorem Quo26V_next {p4 b5 b7 K : Nat} {AN AD BN BD : Value} {x z : Int} (t : Nat) (v : Value) (w w' : World) (hb : Below w.heap.size w w') (h : Quo26V p4 b5 b7 K AN AD BN BD x z t v w) : Quo26V p4 b5 b7 K AN AD BN BD x z t v w' := by
  unfold Quo26V at h ⊢
  split at h <;> first | exact h | exact Num.next h hb | exact OutE.next h hb | exact Frac.next h hb | exact FracE.next h hb | exact LowE.next h hb | exact OfAns.next h hb | exact OfRes.next h hb | exact ⟨h.1, h.2.next hb⟩
theorem Quo26V_chg {p4 b5 b7 K : Nat} {AN AD BN BD : Value} {x z : Int} (t : Nat) (v : Value) (w w' : World) (b : Nat) (hc : Chg b w w') (hb : Box4 w b) (hb' : Box4 w' b) (h : Quo26V p4 b5 b7 K AN AD BN BD x z t v w) : Quo26V p4 b5 b7 K AN AD BN BD x z t v w' := by
  unfold Quo26V at h ⊢
  split at h <;> first | exact h | exact Num.chg h hc hb.noint | exact OutE.chg h hc hb.noint | exact Frac.chg h hc hb.noint | exact FracE.chg h hc hb.noint | exact LowE.chg h hc hb.noint | exact OfAns.chg h hc hb.noint | exact OfRes.chg h hc hb.noint | exact ⟨h.1, h.2.chg hc hb'⟩
def Quo26C (p4 b5 b7 K : Nat) (AN AD BN BD : Value) (x z : Int) (j b : Nat) (w : World) : Prop := match j with
  | 9 => Holds4 w b (fun v => OfRes w v x z K)
  | _ => True
theorem Quo26C_next {p4 b5 b7 K : Nat} {AN AD BN BD : Value} {x z : Int} (j b : Nat) (w w' : World) (hb : Below w.heap.size w w') (_ : b < w.heap.size) (h : Quo26C p4 b5 b7 K AN AD BN BD x z j b w) : Quo26C p4 b5 b7 K AN AD BN BD x z j b w' := by
  unfold Quo26C at h ⊢
  split at h <;> first | exact h | exact Holds4.next h hb (fun v k => k.next hb)
theorem Quo26C_chg {p4 b5 b7 K : Nat} {AN AD BN BD : Value} {x z : Int} (j b b' : Nat) (w w' : World) (hc : Chg b' w w') (hb : Box4 w b') (_ : Box4 w' b') (hne : b ≠ b') (h : Quo26C p4 b5 b7 K AN AD BN BD x z j b w) : Quo26C p4 b5 b7 K AN AD BN BD x z j b w' := by
  unfold Quo26C at h ⊢
  split at h <;> first | exact h | exact Holds4.chg h hc hne (fun v k => k.chg hc hb.noint)
/-- What Quo answers. -/
def QuoAns (w w' : World) (e : Ending) (x z : Int) (m : Nat) : Prop := ∃ t, e = .returned (.tuple #[t, .bool (decide (z ≠ 0))]) ∧ OfRes w' t x z m ∧ Below w.heap.size w w'
end Go.Proofs.YtmpefgemlpnbiaaGreat
