/- The reader: is a token an operator or a word? -/
import Derived.Test.YtfbacidpjpghiaaGreatDoorSom
namespace Go.Proofs.YtfbacidpjpghiaaGreatDoor
open Go.RowKit
attribute [local go_sem ↓] Go.wp_at_zero Go.wp_at_succ
set_option maxRecDepth 100000 in
set_option maxHeartbeats 8000000 in
theorem is_any (kd a : Int) (tx s : ByteArray) (w : World) : Calls Tryz.prog 23 #[.agg #[.int .i64 kd, .string tx, .int .i64 a], .string s] w fun e w' => (∃ b, e = .returned (.bool b)) ∧ Below w.heap.size w w' := by
  have hb0 : ∀ k : Int, Below w.heap.size w (w.alloc (.cells #[.int .i64 k, .string tx, .int .i64 a] 32)) := fun k => (Below.refl _ _).alloc (Nat.le_refl _) _
  go_enter Tryz.func23, Tryz.ntmps23
  go_wp2
  all_goals
    go_ret
    exact ⟨⟨_, rfl⟩, hb0 _⟩
end Go.Proofs.YtfbacidpjpghiaaGreatDoor
