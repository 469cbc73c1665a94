/- scan: a token's cells. -/
import Derived.Test.YtfbacidpjpghiaaGreatDoorSkm
namespace Go.Proofs.YtfbacidpjpghiaaGreatDoor
open Go.RowKit
theorem tok_cells (w : World) (k a : Int) (s : ByteArray) : ∀ j u, ([.int .i64 k, .string s, .int .i64 a] : List Value)[j]? = some u → (w.alloc (.cells #[.int .i64 k, .string s, .int .i64 a] 32)).cell? ((⟨w.heap.size, 0, none⟩ : Addr).add j) = some u := by
  intro j u hj
  rw [addr_add]
  match j, hj with
  | 0, hj => simp at hj; subst hj; simp [go_sem]
  | 1, hj => simp at hj; subst hj; simp [go_sem]
  | 2, hj => simp at hj; subst hj; simp [go_sem]
theorem tok_each (k a : Int) (s : ByteArray) : ∀ u ∈ ([.int .i64 k, .string s, .int .i64 a] : List Value), u.oneCell' = true := by
  intro u hu
  simp at hu
  rcases hu with rfl | rfl | rfl <;> rfl
end Go.Proofs.YtfbacidpjpghiaaGreatDoor
