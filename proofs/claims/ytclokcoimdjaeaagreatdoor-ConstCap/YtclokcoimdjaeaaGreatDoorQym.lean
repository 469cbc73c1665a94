/- constants: the second road takes a constant. -/
import Derived.Test.YtclokcoimdjaeaaGreatDoorQwm
namespace Go.Proofs.YtclokcoimdjaeaaGreatDoor
open Go.RowKit Go.Shelf Go.Lib
attribute [local go_sem ↓] Go.wp_at_zero Go.wp_at_succ
set_option maxRecDepth 20000 in
set_option maxHeartbeats 2000000 in
theorem from_str (w : World) (s : ByteArray) (n1 : Bool) (a1 : Option Addr) (l1 c1 : Nat) (n2 : Bool) (a2 : Option Addr) (l2 c2 : Nat) (B : Bool) (hB : (decide (l1 = 0) && decide (l2 = 0) && !n1 && !n2) = B) :
    Calls Tryz.prog 40 #[.agg #[.int .i64 2, .bool false, .string s, .bool n1, .slice a1 l1 c1, .bool n2, .slice a2 l2 c2]] w fun e w' => e = .returned (.tuple #[.agg #[.int .i64 2, .bool false, .string s, .bool false, .slice none 0 0, .bool false, .slice none 0 0], .bool B]) ∧ Below w.heap.size w w' := by
  obtain ⟨W, hW, hq0, hq1, hbW, hsz⟩ := two_new (w := w) (A := .cells #[.int .i64 2, .bool false, .string s, .bool n1, .slice a1 l1 c1, .bool n2, .slice a2 l2 c2] 32) (B := .cells #[.int .i64 0, .bool false, .string ⟨#[]⟩, .bool false, .slice none 0 0, .bool false, .slice none 0 0] 42)
  obtain ⟨⟨p0, p1, p2, p3, p4, p5, p6⟩, _, _⟩ := cells7 hq0
  have kA : Hid (∀ X, Calls Tryz.prog 83 #[.agg #[.bool n1, .slice a1 l1 c1, .bool n2, .slice a2 l2 c2]] X fun e w' => e = .returned (.bool B) ∧ Below X.heap.size X w') := fun X => empty_any X _ _ _ _ _ _ _ _ B hB
  have hall : Hid (Below w.heap.size w W ∧ W.heap.size = w.heap.size + 1 + 1 ∧ W.heap[w.heap.size + 1]? = some (.cells #[.int .i64 0, .bool false, .string ⟨#[]⟩, .bool false, .slice none 0 0, .bool false, .slice none 0 0] 42 (0, 0))) := ⟨hbW, hsz, hq1⟩
  have hdh : Hid (Below W.heap.size W W.drew) := (Below.refl _ _).drew
  clear hq0 hq1 hbW hsz hB
  go_enter Tryz.func40, Tryz.ntmps40
  go_upto_region 1 with fail
  rw [← hW]
  clear hW
  go_upto_region 5 with fail
  go_region_with (first
    | (go_at_call 83; refine Calls.mono (kA.out _) ?_; rintro e w5 ⟨rfl, hb5⟩; clear kA
       replace hb5 : Below W.heap.size W w5 := hdh.out.trans hb5
       replace p0 := keep_cell hb5 p0; replace p1 := keep_cell hb5 p1; replace p2 := keep_cell hb5 p2; replace p3 := keep_cell hb5 p3; replace p4 := keep_cell hb5 p4; replace p5 := keep_cell hb5 p5; replace p6 := keep_cell hb5 p6
       have hb5h : Hid (Below W.heap.size W w5) := hb5
       have g5 := (hb5.block _ (by have := hall.out.2.1; omega)).trans hall.out.2.2
       obtain ⟨_, rf, _⟩ := cells7 g5
       have rf0 := rf 0; have rf1 := rf 1; have rf2 := rf 2; have rf3 := rf 3; have rf4 := rf 4; have rf5 := rf 5; have rf6 := rf 6
       clear hb5 g5 rf))
  all_goals
    have g5 := (hb5h.out.block _ (by have := hall.out.2.1; omega)).trans hall.out.2.2
    have hB5 : Below w.heap.size w w5 := bthen hall.out.1 hb5h.out
    obtain ⟨W8, hW8⟩ : ∃ W8, W8 = put7 w5 (w.heap.size + 1) (.int .i64 2) (.bool false) (.string s) (.bool false) (.slice none 0 0) (.bool false) (.slice none 0 0) := ⟨_, rfl⟩
    have hqW8 : Hid (W8.heap[w.heap.size + 1]? = some (.cells #[.int .i64 2, .bool false, .string s, .bool false, .slice none 0 0, .bool false, .slice none 0 0] 42 (0, 0))) := by show _ = _; rw [hW8]; exact put7_at g5
    have hBW8 : Hid (Below w.heap.size w W8) := by
      show Below _ _ _
      rw [hW8]
      exact put7_below hB5 (by omega)
    clear g5 hB5 hb5h hall hdh
    go_wp2
    unfold put7 at hW8
    rw [← hW8]
    obtain ⟨⟨j0, j1, j2, j3, j4, j5, j6⟩, _, _⟩ := cells7 hqW8.out
    exact bodyPost_ret (v := .tuple #[.agg #[.int .i64 2, .bool false, .string s, .bool false, .slice none 0 0, .bool false, .slice none 0 0], .bool B]) (by simp [results, Tryz.results40, go_sem, j0, j1, j2, j3, j4, j5, j6]) rfl ⟨rfl, hBW8.out⟩
end Go.Proofs.YtclokcoimdjaeaaGreatDoor
namespace Go.Proofs.YtclokcoimdjaeaaGreatDoor
open Go.RowKit Go.Shelf Go.Lib
attribute [local go_sem ↓] Go.wp_at_zero Go.wp_at_succ
end Go.Proofs.YtclokcoimdjaeaaGreatDoor
