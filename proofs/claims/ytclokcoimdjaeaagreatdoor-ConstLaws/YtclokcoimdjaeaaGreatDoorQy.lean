/- constants: the second road takes a constant. -/
import Derived.Test.YtclokcoimdjaeaaGreatDoorQwm
namespace Go.Proofs.YtclokcoimdjaeaaGreatDoor
open Go.RowKit Go.Shelf Go.Lib
attribute [local go_sem ↓] Go.wp_at_zero Go.wp_at_succ
set_option maxRecDepth 20000 in
set_option maxHeartbeats 2000000 in
theorem from_str_no (w : World) (s : ByteArray) (n1 : Bool) (a1 : Option Addr) (l1 c1 : Nat) (n2 : Bool) (a2 : Option Addr) (l2 c2 : Nat)  :
    Calls Tryz.prog 40 #[.agg #[.int .i64 2, .bool true, .string s, .bool n1, .slice a1 l1 c1, .bool n2, .slice a2 l2 c2]] w fun e w' => e = .returned (.tuple #[.agg #[.int .i64 2, .bool false, .string s, .bool false, .slice none 0 0, .bool false, .slice none 0 0], .bool false]) ∧ Below w.heap.size w w' := by
  obtain ⟨W, hW, hq0, hq1, hbW, hsz⟩ := two_new (w := w) (A := .cells #[.int .i64 2, .bool true, .string s, .bool n1, .slice a1 l1 c1, .bool n2, .slice a2 l2 c2] 32) (B := .cells #[.int .i64 0, .bool false, .string ⟨#[]⟩, .bool false, .slice none 0 0, .bool false, .slice none 0 0] 42)
  obtain ⟨⟨p0, p1, p2, p3, p4, p5, p6⟩, _, _⟩ := cells7 hq0
  have hall : Hid (Below w.heap.size w W ∧ W.heap.size = w.heap.size + 1 + 1 ∧ W.heap[w.heap.size + 1]? = some (.cells #[.int .i64 0, .bool false, .string ⟨#[]⟩, .bool false, .slice none 0 0, .bool false, .slice none 0 0] 42 (0, 0))) := ⟨hbW, hsz, hq1⟩
  have hdh : Hid (Below W.heap.size W W.drew) := (Below.refl _ _).drew
  clear hq0 hq1 hbW hsz
  go_enter Tryz.func40, Tryz.ntmps40
  go_upto_region 1 with fail
  rw [← hW]
  clear hW
  have g5 := hall.out.2.2
  have hB5 := hall.out.1
  obtain ⟨⟨r0, r1, r2, r3, r4, r5, r6⟩, rf, _⟩ := cells7 g5
  have rf0 := rf 0
  have rf1 := rf 1
  have rf2 := rf 2
  have rf3 := rf 3
  have rf4 := rf 4
  have rf5 := rf 5
  have rf6 := rf 6
  obtain ⟨W8, hW8⟩ : ∃ W8, W8 = put7 W (w.heap.size + 1) (.int .i64 2) (.bool false) (.string s) (.bool false) (.slice none 0 0) (.bool false) (.slice none 0 0) := ⟨_, rfl⟩
  have hqW8 : Hid (W8.heap[w.heap.size + 1]? = some (.cells #[.int .i64 2, .bool false, .string s, .bool false, .slice none 0 0, .bool false, .slice none 0 0] 42 (0, 0))) := by show _ = _; rw [hW8]; exact put7_at g5
  have hBW8 : Hid (Below w.heap.size w W8) := by
    show Below _ _ _
    rw [hW8]
    exact put7_below hB5 (by omega)
  clear g5 hB5 hall hdh rf
  go_upto_region 5 with fail
  go_region
  all_goals
    go_wp2
    unfold put7 at hW8
    rw [← hW8]
    obtain ⟨⟨j0, j1, j2, j3, j4, j5, j6⟩, _, _⟩ := cells7 hqW8.out
    exact bodyPost_ret (v := .tuple #[.agg #[.int .i64 2, .bool false, .string s, .bool false, .slice none 0 0, .bool false, .slice none 0 0], .bool false]) (by simp [results, Tryz.results40, go_sem, j0, j1, j2, j3, j4, j5, j6]) rfl ⟨rfl, hBW8.out.drew⟩
set_option maxRecDepth 20000 in
set_option maxHeartbeats 2000000 in
theorem from_bool_no (w : World) (b : Bool) (s : ByteArray) (n1 : Bool) (a1 : Option Addr) (l1 c1 : Nat) (n2 : Bool) (a2 : Option Addr) (l2 c2 : Nat)  (h0 : s.size ≠ 0) :
    Calls Tryz.prog 40 #[.agg #[.int .i64 1, .bool b, .string s, .bool n1, .slice a1 l1 c1, .bool n2, .slice a2 l2 c2]] w fun e w' => e = .returned (.tuple #[.agg #[.int .i64 1, .bool b, .string ⟨#[]⟩, .bool false, .slice none 0 0, .bool false, .slice none 0 0], .bool false]) ∧ Below w.heap.size w w' := by
  have hemp : s.toList.isEmpty = false := by
    rw [← decide_eq_emptyBytes]
    exact decide_eq_false (fun h => h0 (by rw [h]; rfl))
  obtain ⟨W, hW, hq0, hq1, hbW, hsz⟩ := two_new (w := w) (A := .cells #[.int .i64 1, .bool b, .string s, .bool n1, .slice a1 l1 c1, .bool n2, .slice a2 l2 c2] 32) (B := .cells #[.int .i64 0, .bool false, .string ⟨#[]⟩, .bool false, .slice none 0 0, .bool false, .slice none 0 0] 42)
  obtain ⟨⟨p0, p1, p2, p3, p4, p5, p6⟩, _, _⟩ := cells7 hq0
  have hall : Hid (Below w.heap.size w W ∧ W.heap.size = w.heap.size + 1 + 1 ∧ W.heap[w.heap.size + 1]? = some (.cells #[.int .i64 0, .bool false, .string ⟨#[]⟩, .bool false, .slice none 0 0, .bool false, .slice none 0 0] 42 (0, 0))) := ⟨hbW, hsz, hq1⟩
  have hdh : Hid (Below W.heap.size W W.drew) := (Below.refl _ _).drew
  clear hq0 hq1 hbW hsz
  go_enter Tryz.func40, Tryz.ntmps40
  go_upto_region 1 with fail
  rw [← hW]
  clear hW
  have g5 := hall.out.2.2
  have hB5 := hall.out.1
  obtain ⟨⟨r0, r1, r2, r3, r4, r5, r6⟩, rf, _⟩ := cells7 g5
  have rf0 := rf 0
  have rf1 := rf 1
  have rf2 := rf 2
  have rf3 := rf 3
  have rf4 := rf 4
  have rf5 := rf 5
  have rf6 := rf 6
  obtain ⟨W8, hW8⟩ : ∃ W8, W8 = put7 W (w.heap.size + 1) (.int .i64 1) (.bool b) (.string ⟨#[]⟩) (.bool false) (.slice none 0 0) (.bool false) (.slice none 0 0) := ⟨_, rfl⟩
  have hqW8 : Hid (W8.heap[w.heap.size + 1]? = some (.cells #[.int .i64 1, .bool b, .string ⟨#[]⟩, .bool false, .slice none 0 0, .bool false, .slice none 0 0] 42 (0, 0))) := by show _ = _; rw [hW8]; exact put7_at g5
  have hBW8 : Hid (Below w.heap.size w W8) := by
    show Below _ _ _
    rw [hW8]
    exact put7_below hB5 (by omega)
  clear g5 hB5 hall hdh rf
  go_upto_region 3 with fail
  go_region
  all_goals
    go_wp2
    unfold put7 at hW8
    rw [← hW8]
    obtain ⟨⟨j0, j1, j2, j3, j4, j5, j6⟩, _, _⟩ := cells7 hqW8.out
    exact bodyPost_ret (v := .tuple #[.agg #[.int .i64 1, .bool b, .string ⟨#[]⟩, .bool false, .slice none 0 0, .bool false, .slice none 0 0], .bool false]) (by simp [results, Tryz.results40, go_sem, j0, j1, j2, j3, j4, j5, j6]) rfl ⟨rfl, hBW8.out.drew⟩
end Go.Proofs.YtclokcoimdjaeaaGreatDoor
