/- constants: the law ConstLaws. -/
import Derived.Test.YtclokcoimdjaeaaGreatDoorYc
import Derived.Test.YtclokcoimdjaeaaGreatDoorYd
import Derived.Test.YtclokcoimdjaeaaGreatDoorQrm
import Derived.Deep.CutRange
import Derived.Deep.RegionWith
namespace Go.Proofs.YtclokcoimdjaeaaGreatDoor
open Go.RowKit
attribute [local go_sem ↓] Go.wp_at_zero Go.wp_at_succ
/-- A whole constant, as the second road takes it over. -/
theorem FromIs.whole {b : Bool} {s : ByteArray} {n1 : Bool} {l1 : Nat} {n2 : Bool} {l2 : Nat} {n d : Int} {w : World} {v : Value} (h : FromIs 3 b s n1 l1 n2 l2 n d w v true) : b = false ∧ s = ⟨#[]⟩ ∧ ∃ z, pN n d = z * pD d := by
  obtain ⟨k', b', s', m1, b1, k1, d1, m2, b2, k2, d2, p, q, e, hR, _, h⟩ := h
  rcases h with ⟨_, _, _, _, hl, hB⟩ | ⟨h, _⟩ | ⟨h, _⟩ | ⟨_, _, h, _⟩
  · cases b with
    | true => simp at hB
    | false =>
      have h0 : s.size = 0 ∧ q = 1 := by simpa using hB.symm
      refine ⟨rfl, bytes_empty h0.1, p, ?_⟩
      have := hl.2.2
      rw [h0.2] at this
      omega
  · cases h
  · cases h
  · exact absurd rfl h
end Go.Proofs.YtclokcoimdjaeaaGreatDoor
