/- constants: numbers of both kinds admitted; an integer type's range asked. -/
import Derived.Test.YtclokcoimdjaeaaGreatDoorQpm
import Derived.Test.YtclokcoimdjaeaaGreatDoorNemm
import Derived.Test.YtclokcoimdjaeaaGreatDoorZd
namespace Go.Proofs.YtclokcoimdjaeaaGreatDoor
open Go.RowKit
attribute [local go_sem ↓] Go.wp_at_zero Go.wp_at_succ
theorem own_put7 {w : World} {base : Nat} {k : IntKind} {B : Int} {a : Option Addr} {cap : Nat} {zs : List Int} (h : Own w base k 139 B a cap zs) {b : Nat} {cur : Array Value} (hq : w.heap[b]? = some (.cells cur 32 (0, 0))) {v0 v1 v2 v3 v4 v5 v6 : Value} : Own (put7 w b v0 v1 v2 v3 v4 v5 v6) base k 139 B a cap zs := by
  obtain ⟨hw, h⟩ := h
  refine ⟨hw, ?_⟩
  rcases h with h | ⟨g, e, hg, hb⟩
  · exact .inl h
  · refine .inr ⟨g, e, hg, hb.same (put7_same ?_)⟩
    intro eb
    obtain ⟨c', h', _⟩ := hb
    rw [eb, hq] at h'
    cases h'
theorem fracE_put7 {w : World} {v : Value} {n d : Int} {m : Nat} (h : FracE w v n d m) {b : Nat} {cur : Array Value} (hq : w.heap[b]? = some (.cells cur 32 (0, 0))) {v0 v1 v2 v3 v4 v5 v6 : Value} : FracE (put7 w b v0 v1 v2 v3 v4 v5 v6) v n d m := by
  obtain ⟨n1, a1, l1, c1, n2, a2, l2, c2, e, ⟨x, x1, x2, x3, x4, x5, x6, x7⟩, ⟨y, y1, y2, y3, y4, y5, y6, y7⟩⟩ := h
  exact ⟨n1, a1, l1, c1, n2, a2, l2, c2, e, ⟨x, x1, x2, x3, x4, x5, own_put7 x6 hq, x7⟩, ⟨y, y1, y2, y3, y4, y5, own_put7 y6 hq, y7⟩⟩
/-- A whole constant, just as it is told. -/
def CIE (w : World) (v : Value) (z : Int) (m : Nat) : Prop := ∃ n1 a1 l1 c1 n2 a2 l2 c2, v = .agg #[.int .i64 3, .bool false, .string ⟨#[]⟩, .bool n1, .slice a1 l1 c1, .bool n2, .slice a2 l2 c2] ∧ FracE w (.agg #[.bool n1, .slice a1 l1 c1, .bool n2, .slice a2 l2 c2]) z 1 m
theorem CIE.next {w w' : World} {v : Value} {z : Int} {m : Nat} (h : CIE w v z m) (hb : Below w.heap.size w w') : CIE w' v z m := by
  obtain ⟨n1, a1, l1, c1, n2, a2, l2, c2, e, hF⟩ := h
  exact ⟨n1, a1, l1, c1, n2, a2, l2, c2, e, hF.next hb⟩
theorem low_whole {z p q : Int} (h : Low z 1 p q) : p = z ∧ q = 1 := low_uniq h.1 (by decide) h.2.1 (by simp) (by have := h.2.2; omega)
end Go.Proofs.YtclokcoimdjaeaaGreatDoor
namespace Go.Proofs.YtclokcoimdjaeaaGreatDoor
open Go.RowKit
attribute [local go_sem ↓] Go.wp_at_zero Go.wp_at_succ
/-- What Fits answers: a whole number, or none. -/
def FitP (z : Option Int) (m : Nat) (w : World) (t : Value) (B : Bool) : Prop := match z with
  | some z => B = true ∧ CIE w t z m
  | none => B = false ∧ t = cNone
theorem FitP.form {z : Option Int} {m : Nat} {w : World} {t : Value} {B : Bool} (h : FitP z m w t B) : ∃ (i0 : Int) (i5 : Bool) (i6 : ByteArray) (i1 : Bool) (i2 : Option Addr) (i3 i4 : Nat) (o1 : Bool) (o2 : Option Addr) (o3 o4 : Nat), t = .agg #[.int .i64 i0, .bool i5, .string i6, .bool i1, .slice i2 i3 i4, .bool o1, .slice o2 o3 o4] := by
  cases z with
  | some z =>
    obtain ⟨_, n1, a1, l1, c1, n2, a2, l2, c2, e, _⟩ := h
    exact ⟨_, _, _, _, _, _, _, _, _, _, _, e⟩
  | none => exact ⟨_, _, _, _, _, _, _, _, _, _, _, h.2⟩
theorem FitP.next {z : Option Int} {m : Nat} {w w' : World} {t : Value} {B : Bool} (h : FitP z m w t B) (hb : Below w.heap.size w w') : FitP z m w' t B := by
  cases z with
  | some z => exact ⟨h.1, h.2.next hb⟩
  | none => exact h
theorem fitP_put7 {z : Option Int} {m : Nat} {w : World} {t : Value} {B : Bool} (h : FitP z m w t B) {b : Nat} {cur : Array Value} (hq : w.heap[b]? = some (.cells cur 32 (0, 0))) {v0 v1 v2 v3 v4 v5 v6 : Value} : FitP z m (put7 w b v0 v1 v2 v3 v4 v5 v6) t B := by
  cases z with
  | some z =>
    obtain ⟨hB, n1, a1, l1, c1, n2, a2, l2, c2, e, hF⟩ := h
    exact ⟨hB, n1, a1, l1, c1, n2, a2, l2, c2, e, fracE_put7 hF hq⟩
  | none =>
    obtain ⟨h1, h2⟩ := h
    exact ⟨h1, h2⟩
end Go.Proofs.YtclokcoimdjaeaaGreatDoor
