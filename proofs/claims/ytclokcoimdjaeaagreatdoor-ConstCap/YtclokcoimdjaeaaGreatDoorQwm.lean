/- constants: empty. -/
import Derived.Test.YtclokcoimdjaeaaGreatDoorQu
namespace Go.Proofs.YtclokcoimdjaeaaGreatDoor
open Go.RowKit
attribute [local go_sem ↓] Go.wp_at_zero Go.wp_at_succ
set_option maxRecDepth 20000 in
set_option maxHeartbeats 2000000 in
theorem empty_any (w : World) (n1 : Bool) (a1 : Option Addr) (l1 c1 : Nat) (n2 : Bool) (a2 : Option Addr) (l2 c2 : Nat) (B : Bool) (hB : (decide (l1 = 0) && decide (l2 = 0) && !n1 && !n2) = B) :
    Calls Tryz.prog 83 #[.agg #[.bool n1, .slice a1 l1 c1, .bool n2, .slice a2 l2 c2]] w fun e w' => e = .returned (.bool B) ∧ Below w.heap.size w w' := by
  obtain ⟨W, hW⟩ : ∃ W, W = w.alloc (.cells #[.bool n1, .slice a1 l1 c1, .bool n2, .slice a2 l2 c2] 30) := ⟨_, rfl⟩
  have hbW : Hid (Below w.heap.size w W) := by show Below _ _ _; rw [hW]; exact (Below.refl _ _).alloc (Nat.le_refl _) _
  have hqW : W.heap[w.heap.size]? = some (.cells #[.bool n1, .slice a1 l1 c1, .bool n2, .slice a2 l2 c2] 30 (0, 0)) := by rw [hW]; exact newAt _ _
  obtain ⟨⟨p0, p1, p2, p3⟩, _, _⟩ := cells4 hqW
  clear hqW
  by_cases h1 : l1 = 0
  · have d1 : ((l1 : Int) == 0) = true := by rw [h1]; rfl
    by_cases h2 : l2 = 0
    · have d2 : ((l2 : Int) == 0) = true := by rw [h2]; rfl
      rw [decide_eq_true h1, decide_eq_true h2] at hB
      clear h1 h2
      cases n1 <;> cases n2 <;> subst hB
      all_goals
        go_enter Tryz.func83, Tryz.ntmps83
        go_upto_region 1 with fail
        rw [← hW]
        clear hW
        go_wp2
        exact bodyPost_ret (by simp [results, Tryz.results83, go_sem]) rfl ⟨rfl, hbW.out⟩
    · have d2 : ((l2 : Int) == 0) = false := by rw [beq_eq_false_iff_ne]; omega
      rw [decide_eq_true h1, decide_eq_false h2] at hB
      subst hB
      clear h1 h2
      go_enter Tryz.func83, Tryz.ntmps83
      go_upto_region 1 with fail
      rw [← hW]
      clear hW
      go_wp2
      exact bodyPost_ret (by simp [results, Tryz.results83, go_sem]) rfl ⟨rfl, hbW.out⟩
  · have d1 : ((l1 : Int) == 0) = false := by rw [beq_eq_false_iff_ne]; omega
    rw [decide_eq_false h1] at hB
    subst hB
    clear h1
    go_enter Tryz.func83, Tryz.ntmps83
    go_upto_region 1 with fail
    rw [← hW]
    clear hW
    go_wp2
    exact bodyPost_ret (by simp [results, Tryz.results83, go_sem]) rfl ⟨rfl, hbW.out⟩
end Go.Proofs.YtclokcoimdjaeaaGreatDoor
namespace Go.Proofs.YtclokcoimdjaeaaGreatDoor
open Go.RowKit Go.Shelf Go.Lib
attribute [local go_sem ↓] Go.wp_at_zero Go.wp_at_succ
end Go.Proofs.YtclokcoimdjaeaaGreatDoor
