/- constants: what fits at the four integer types, by both roads. -/
import Derived.Test.YtclokcoimdjaeaaGreatDoorZhm
import Derived.Test.YtclokcoimdjaeaaGreatDoorZjm
import Derived.Test.YtclokcoimdjaeaaGreatDoorZd
import Derived.Test.YtclokcoimdjaeaaGreatDoorZcm
import Derived.Test.YtclokcoimdjaeaaGreatDoorZfm
namespace Go.Proofs.YtclokcoimdjaeaaGreatDoor
open Go.RowKit
def FitR (z : Option Int) (m : Nat) (w : World) (t : Value) (B : Bool) : Prop := match z with
  | some z => B = true ∧ CRn w t 3 z 1 m
  | none => B = false ∧ t = cNone
theorem pN_one (p : Int) : pN p 1 = p := by simp [pN]
theorem pD_one : pD 1 = 1 := by simp [pD]
/-- Both answers go together. -/
theorem is_fit {w : World} {zz : Option Int} {m M : Nat} {t t' : Value} {B B' : Bool} (h : FitP zz m w t B) (h' : FitR zz M w t' B') (hm : m ≤ 500) (hM : M ≤ 500) :
    Calls Tryz.prog 12 #[t, .bool B, t', .bool B'] w fun e w' => e = .returned (.bool true) ∧ Below w.heap.size w w' := by
  cases zz with
  | none =>
    obtain ⟨rfl, rfl⟩ := h
    obtain ⟨rfl, rfl⟩ := h'
    exact is12_no w
  | some z =>
    obtain ⟨rfl, hc⟩ := h
    obtain ⟨rfl, hc'⟩ := h'
    exact is12_yes hc hc' hm hM
theorem FitR.next {z : Option Int} {m : Nat} {w w' : World} {t : Value} {B : Bool} (h : FitR z m w t B) (hb : Below w.heap.size w w') : FitR z m w' t B := by
  cases z with
  | none => exact h
  | some z => exact ⟨h.1, h.2.next hb⟩
theorem FitR.form {z : Option Int} {m : Nat} {w : World} {t : Value} {B : Bool} (h : FitR z m w t B) : ∃ (i0 : Int) (i5 : Bool) (i6 : ByteArray) (i1 : Bool) (i2 : Option Addr) (i3 i4 : Nat) (o1 : Bool) (o2 : Option Addr) (o3 o4 : Nat), t = .agg #[.int .i64 i0, .bool i5, .string i6, .bool i1, .slice i2 i3 i4, .bool o1, .slice o2 o3 o4] := by
  cases z with
  | none => exact ⟨_, _, _, _, _, _, _, _, _, _, _, h.2⟩
  | some z => obtain ⟨_, m1, b1, k1, d1, m2, b2, k2, d2, rfl, _⟩ := h; exact ⟨_, _, _, _, _, _, _, _, _, _, _, rfl⟩
end Go.Proofs.YtclokcoimdjaeaaGreatDoor
