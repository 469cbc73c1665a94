/- constants: texts, by the program. -/
import Derived.Test.YtclokcoimdjaeaaGreatDoorZjm
import Derived.Deep.CutRange
import Derived.Deep.RegionWith
import Derived.Test.YtclokcoimdjaeaaGreatDoorZfm
namespace Go.Proofs.YtclokcoimdjaeaaGreatDoor
set_option linter.unusedVariables false
open Go.RowKit
attribute [local go_sem ↓] Go.wp_at_zero Go.wp_at_succ
/-- A text as a constant, of both roads. -/
def cStr (s : ByteArray) : Value := .agg #[.int .i64 2, .bool false, .string s, .bool false, .slice none 0 0, .bool false, .slice none 0 0]
set_option maxRecDepth 20000 in
set_option maxHeartbeats 2000000 in
theorem isUnset_zero (w : World) : Calls Tryz.prog 87 #[.agg #[.bool false, .slice none 0 0, .bool false, .slice none 0 0]] w fun e w' => e = .returned (.bool true) ∧ Below w.heap.size w w' := by
  obtain ⟨W, hW⟩ : ∃ W, W = w.alloc (.cells #[.bool false, .slice none 0 0, .bool false, .slice none 0 0] 30) := ⟨_, rfl⟩
  have hb : Hid (Below w.heap.size w W) := by show Below _ _ _; rw [hW]; exact (Below.refl _ _).alloc (Nat.le_refl _) _
  have hq : W.heap[w.heap.size]? = some (.cells #[.bool false, .slice none 0 0, .bool false, .slice none 0 0] 30 (0, 0)) := by rw [hW]; exact newAt _ _
  obtain ⟨⟨p0, p1, p2, p3⟩, _, _⟩ := cells4 hq
  clear hq
  go_enter Tryz.func87, Tryz.ntmps87
  go_upto_region 1 with fail
  rw [← hW]
  clear hW
  go_wp2
  exact bodyPost_ret (v := .bool true) (by simp [results, Tryz.results87, go_sem]) rfl ⟨rfl, hb.out⟩
set_option maxRecDepth 20000 in
set_option maxHeartbeats 2000000 in
theorem ofText_ok (s : ByteArray) (w : World) (hs : s.size ≤ 65536) : Calls Tryz.prog 34 #[.string s, .bool true] w fun e w' => e = .returned (.tuple #[cStr s, .bool true]) ∧ Below w.heap.size w w' := by
  obtain ⟨W, hW⟩ : ∃ W, W = w.alloc (.cells #[.int .i64 0, .bool false, .string ⟨#[]⟩, .bool false, .slice none 0 0, .bool false, .slice none 0 0] 32) := ⟨_, rfl⟩
  have hb : Below w.heap.size w W := by rw [hW]; exact (Below.refl _ _).alloc (Nat.le_refl _) _
  have hq : W.heap[w.heap.size]? = some (.cells #[.int .i64 0, .bool false, .string ⟨#[]⟩, .bool false, .slice none 0 0, .bool false, .slice none 0 0] 32 (0, 0)) := by rw [hW]; exact newAt _ _
  obtain ⟨⟨r0, r1, r2, r3, r4, r5, r6⟩, fr, _⟩ := cells7 hq
  have fr0 := fr 0
  have fr1 := fr 1
  have fr2 := fr 2
  have fr3 := fr 3
  have fr4 := fr 4
  have fr5 := fr 5
  have fr6 := fr 6
  clear fr
  have d1 : decide ((s.size : Int) > 65536) = false := decide_eq_false (by omega)
  obtain ⟨W8, hW8⟩ : ∃ W8, W8 = put7 W w.heap.size (.int .i64 2) (.bool false) (.string s) (.bool false) (.slice none 0 0) (.bool false) (.slice none 0 0) := ⟨_, rfl⟩
  have hq8 : Hid (W8.heap[w.heap.size]? = some (.cells #[.int .i64 2, .bool false, .string s, .bool false, .slice none 0 0, .bool false, .slice none 0 0] 32 (0, 0))) := by show _ = _; rw [hW8]; exact put7_at hq
  have hB8 : Hid (Below w.heap.size w W8) := by show Below _ _ _; rw [hW8]; exact put7_below hb (Nat.le_refl _)
  clear hq hb hs
  go_enter Tryz.func34, Tryz.ntmps34
  go_upto_region 1 with fail
  rw [← hW]
  clear hW
  go_wp2
  unfold put7 at hW8
  rw [← hW8]
  obtain ⟨⟨j0, j1, j2, j3, j4, j5, j6⟩, _, _⟩ := cells7 hq8.out
  exact bodyPost_ret (v := .tuple #[.agg #[.int .i64 2, .bool false, .string s, .bool false, .slice none 0 0, .bool false, .slice none 0 0], .bool true]) (by simp [results, Tryz.results34, go_sem, j0, j1, j2, j3, j4, j5, j6]) rfl ⟨rfl, hB8.out⟩
set_option maxRecDepth 20000 in
set_option maxHeartbeats 2000000 in
theorem ofText_big (s : ByteArray) (w : World) (hs : 65536 < s.size) : Calls Tryz.prog 34 #[.string s, .bool true] w fun e w' => e = .returned (.tuple #[cNone, .bool false]) ∧ Below w.heap.size w w' := by
  obtain ⟨W, hW⟩ : ∃ W, W = w.alloc (.cells #[.int .i64 0, .bool false, .string ⟨#[]⟩, .bool false, .slice none 0 0, .bool false, .slice none 0 0] 32) := ⟨_, rfl⟩
  have hb : Below w.heap.size w W := by rw [hW]; exact (Below.refl _ _).alloc (Nat.le_refl _) _
  have hq : W.heap[w.heap.size]? = some (.cells #[.int .i64 0, .bool false, .string ⟨#[]⟩, .bool false, .slice none 0 0, .bool false, .slice none 0 0] 32 (0, 0)) := by rw [hW]; exact newAt _ _
  obtain ⟨⟨r0, r1, r2, r3, r4, r5, r6⟩, fr, _⟩ := cells7 hq
  have fr0 := fr 0
  have fr1 := fr 1
  have fr2 := fr 2
  have fr3 := fr 3
  have fr4 := fr 4
  have fr5 := fr 5
  have fr6 := fr 6
  clear fr
  have d1 : decide ((s.size : Int) > 65536) = true := decide_eq_true (by omega)
  obtain ⟨W8, hW8⟩ : ∃ W8, W8 = put7 W w.heap.size (.int .i64 0) (.bool false) (.string ⟨#[]⟩) (.bool false) (.slice none 0 0) (.bool false) (.slice none 0 0) := ⟨_, rfl⟩
  have hq8 : Hid (W8.heap[w.heap.size]? = some (.cells #[.int .i64 0, .bool false, .string ⟨#[]⟩, .bool false, .slice none 0 0, .bool false, .slice none 0 0] 32 (0, 0))) := by show _ = _; rw [hW8]; exact put7_at hq
  have hB8 : Hid (Below w.heap.size w W8) := by show Below _ _ _; rw [hW8]; exact put7_below hb (Nat.le_refl _)
  clear hq hb hs
  go_enter Tryz.func34, Tryz.ntmps34
  go_upto_region 1 with fail
  rw [← hW]
  clear hW
  go_wp2
  unfold put7 at hW8
  rw [← hW8]
  obtain ⟨⟨j0, j1, j2, j3, j4, j5, j6⟩, _, _⟩ := cells7 hq8.out
  exact bodyPost_ret (v := .tuple #[.agg #[.int .i64 0, .bool false, .string ⟨#[]⟩, .bool false, .slice none 0 0, .bool false, .slice none 0 0], .bool false]) (by simp [results, Tryz.results34, go_sem, j0, j1, j2, j3, j4, j5, j6]) rfl ⟨rfl, hB8.out⟩
set_option maxRecDepth 20000 in
set_option maxHeartbeats 2000000 in
theorem admit_str (s : ByteArray) (w : World) (hs : s.size ≤ 65536) : Calls Tryz.prog 41 #[cStr s] w fun e w' => e = .returned (cStr s) ∧ Below w.heap.size w w' := by
  obtain ⟨W, hW, hqa, hqb, hbW, hsz⟩ := two_new (w := w) (A := .cells #[.int .i64 2, .bool false, .string s, .bool false, .slice none 0 0, .bool false, .slice none 0 0] 32) (B := .cells #[.int .i64 0, .bool false, .string ⟨#[]⟩, .bool false, .slice none 0 0, .bool false, .slice none 0 0] 32)
  have kU : Hid (Calls Tryz.prog 87 #[.agg #[.bool false, .slice none 0 0, .bool false, .slice none 0 0]] W _) := isUnset_zero W
  have hall : Hid (Below w.heap.size w W ∧ W.heap[w.heap.size + 1]? = some (.cells #[.int .i64 0, .bool false, .string ⟨#[]⟩, .bool false, .slice none 0 0, .bool false, .slice none 0 0] 32 (0, 0)) ∧ W.heap[w.heap.size]? = some (.cells #[.int .i64 2, .bool false, .string s, .bool false, .slice none 0 0, .bool false, .slice none 0 0] 32 (0, 0))) := ⟨hbW, hqb, hqa⟩
  obtain ⟨⟨p0, p1, p2, p3, p4, p5, p6⟩, _, _⟩ := cells7 hqa
  clear hqa hqb hbW hsz
  unfold cStr
  go_enter Tryz.func41, Tryz.ntmps41
  go_upto_region 1 with fail
  rw [← hW]
  clear hW
  go_wp2_with fail
  refine Calls.mono kU.out ?_
  clear kU
  rintro e w1 ⟨rfl, hb1⟩
  have kT : Hid (Calls Tryz.prog 34 #[.string s, .bool true] w1 _) := ofText_ok s w1 hs
  have hqa1 := keep_heap hb1 hall.out.2.2
  replace hall : Hid (Below w.heap.size w w1 ∧ w1.heap[w.heap.size + 1]? = some (.cells #[.int .i64 0, .bool false, .string ⟨#[]⟩, .bool false, .slice none 0 0, .bool false, .slice none 0 0] 32 (0, 0))) := ⟨bthen hall.out.1 hb1, keep_heap hb1 hall.out.2.1⟩
  clear p0 p1 p2 p3 p4 p5 p6 hb1
  obtain ⟨⟨p0, p1, p2, p3, p4, p5, p6⟩, _, _⟩ := cells7 hqa1
  clear hqa1
  go_wp2_with fail
  refine Calls.mono kT.out ?_
  clear kT
  rintro e w2 ⟨he, hb2⟩
  unfold cStr at he
  subst he
  obtain ⟨W2, hW2⟩ : ∃ W2, W2 = w2.alloc (.cells #[.int .i64 2, .bool false, .string s, .bool false, .slice none 0 0, .bool false, .slice none 0 0] 32) := ⟨_, rfl⟩
  have hb3 : Below w2.heap.size w2 W2 := by rw [hW2]; exact (Below.refl _ _).alloc (Nat.le_refl _) _
  have hq2 : W2.heap[w2.heap.size]? = some (.cells #[.int .i64 2, .bool false, .string s, .bool false, .slice none 0 0, .bool false, .slice none 0 0] 32 (0, 0)) := by rw [hW2]; exact newAt _ _
  have q6 := keep_heap (bthen hb2 hb3) hall.out.2
  obtain ⟨⟨g0, g1, g2, g3, g4, g5, g6⟩, _, _⟩ := cells7 hq2
  obtain ⟨⟨z0, z1, z2, z3, z4, z5, z6⟩, fz, _⟩ := cells7 q6
  have fz0 := fz 0
  have fz1 := fz 1
  have fz2 := fz 2
  have fz3 := fz 3
  have fz4 := fz 4
  have fz5 := fz 5
  have fz6 := fz 6
  clear fz
  obtain ⟨W8, hW8⟩ : ∃ W8, W8 = put7 W2 (w.heap.size + 1) (.int .i64 2) (.bool false) (.string s) (.bool false) (.slice none 0 0) (.bool false) (.slice none 0 0) := ⟨_, rfl⟩
  have hqW8 : Hid (W8.heap[w.heap.size + 1]? = some (.cells #[.int .i64 2, .bool false, .string s, .bool false, .slice none 0 0, .bool false, .slice none 0 0] 32 (0, 0))) := by show _ = _; rw [hW8]; exact put7_at q6
  have hBW8 : Hid (Below w.heap.size w W8) := by show Below _ _ _; rw [hW8]; exact put7_below (bthen hall.out.1 (bthen hb2 hb3)) (by omega)
  clear q6 hall hb2 hb3 hq2 p0 p1 p2 p3 p4 p5 p6
  go_upto_region 8 with fail
  rw [← hW2]
  clear hW2
  generalize w2.heap.size = pX at *
  go_wp2
  unfold put7 at hW8
  rw [← hW8]
  obtain ⟨⟨i0, i1, i2, i3, i4, i5, i6⟩, _, _⟩ := cells7 hqW8.out
  exact bodyPost_ret (v := .agg #[.int .i64 2, .bool false, .string s, .bool false, .slice none 0 0, .bool false, .slice none 0 0]) (by simp [results, Tryz.results41, go_sem, i0, i1, i2, i3, i4, i5, i6]) rfl ⟨rfl, hBW8.out⟩
set_option maxRecDepth 20000 in
set_option maxHeartbeats 2000000 in
theorem commonKind_str (s s' : ByteArray) (w : World) : Calls Tryz.prog 49 #[cStr s, cStr s'] w fun e w' => e = .returned (.int .i64 2) ∧ Below w.heap.size w w' := by
  unfold cStr
  obtain ⟨W, hW, hqa, hqb, hbW, hsz⟩ := two_new (w := w) (A := .cells #[.int .i64 2, .bool false, .string s, .bool false, .slice none 0 0, .bool false, .slice none 0 0] 32) (B := .cells #[.int .i64 2, .bool false, .string s', .bool false, .slice none 0 0, .bool false, .slice none 0 0] 32)
  obtain ⟨⟨p0, p1, p2, p3, p4, p5, p6⟩, _, _⟩ := cells7 hqa
  obtain ⟨⟨q0, q1, q2, q3, q4, q5, q6⟩, _, _⟩ := cells7 hqb
  have zz : Hid (Below w.heap.size w W) := hbW
  clear hqa hqb hbW hsz
  go_enter Tryz.func49, Tryz.ntmps49
  go_upto_region 1 with fail
  rw [← hW]
  clear hW
  go_wp2
  exact bodyPost_ret (v := .int .i64 2) (by simp [results, Tryz.results49, go_sem]) rfl ⟨rfl, zz.out⟩
set_option maxRecDepth 20000 in
set_option maxHeartbeats 2000000 in
theorem Binary_str (s : ByteArray) (w : World) (hs : s.size ≤ 65536) (h2 : (s ++ s).size ≤ 65536) : Calls Tryz.prog 16 #[.string ⟨#[43]⟩, cStr s, cStr s] w fun e w' => e = .returned (.tuple #[cStr (s ++ s), .bool true]) ∧ Below w.heap.size w w' := by
  obtain ⟨W, hW, hq4, hq5, hq6, hbW, hsz⟩ := three_new (w := w) (A := .cells #[.int .i64 2, .bool false, .string s, .bool false, .slice none 0 0, .bool false, .slice none 0 0] 32) (B := .cells #[.int .i64 2, .bool false, .string s, .bool false, .slice none 0 0, .bool false, .slice none 0 0] 32) (C := .cells #[.int .i64 0, .bool false, .string ⟨#[]⟩, .bool false, .slice none 0 0, .bool false, .slice none 0 0] 32)
  have kA : Hid (∀ X, Calls Tryz.prog 41 #[.agg #[.int .i64 2, .bool false, .string s, .bool false, .slice none 0 0, .bool false, .slice none 0 0]] X fun e w' => e = .returned (.agg #[.int .i64 2, .bool false, .string s, .bool false, .slice none 0 0, .bool false, .slice none 0 0]) ∧ Below X.heap.size X w') := fun X => admit_str s X hs
  have kK : Hid (∀ X, Calls Tryz.prog 49 #[.agg #[.int .i64 2, .bool false, .string s, .bool false, .slice none 0 0, .bool false, .slice none 0 0], .agg #[.int .i64 2, .bool false, .string s, .bool false, .slice none 0 0, .bool false, .slice none 0 0]] X fun e w' => e = .returned (.int .i64 2) ∧ Below X.heap.size X w') := fun X => commonKind_str s s X
  obtain ⟨S2, hS2⟩ : ∃ S2, S2 = s ++ s := ⟨_, rfl⟩
  rw [← hS2] at h2 ⊢
  have kT : Hid (∀ X, Calls Tryz.prog 34 #[.string S2, .bool true] X fun e w' => e = .returned (.tuple #[.agg #[.int .i64 2, .bool false, .string S2, .bool false, .slice none 0 0, .bool false, .slice none 0 0], .bool true]) ∧ Below X.heap.size X w') := fun X => ofText_ok S2 X h2
  have hall : Hid (Below w.heap.size w W ∧ W.heap[w.heap.size + 1 + 1]? = some (.cells #[.int .i64 0, .bool false, .string ⟨#[]⟩, .bool false, .slice none 0 0, .bool false, .slice none 0 0] 32 (0, 0)) ∧ W.heap[w.heap.size]? = some (.cells #[.int .i64 2, .bool false, .string s, .bool false, .slice none 0 0, .bool false, .slice none 0 0] 32 (0, 0)) ∧ W.heap[w.heap.size + 1]? = some (.cells #[.int .i64 2, .bool false, .string s, .bool false, .slice none 0 0, .bool false, .slice none 0 0] 32 (0, 0))) := ⟨hbW, hq6, hq4, hq5⟩
  have hdh : Hid (Below W.heap.size W W.drew) := (Below.refl _ _).drew
  obtain ⟨⟨p0, p1, p2, p3, p4, p5, p6⟩, _, _⟩ := cells7 hq4
  obtain ⟨⟨q0, q1, q2, q3, q4, q5, q6⟩, _, _⟩ := cells7 hq5
  have hml : ¬ (9223372036854775807 < s.size + s.size) := by omega
  clear hq4 hq5 hq6 hbW hsz h2 hs
  unfold cStr
  go_enter Tryz.func16, Tryz.ntmps16
  go_upto_region 1 with fail
  rw [← hW]
  clear hW
  go_cut [13] from 10 to 13 (fun _ wx => Hid (Below w.heap.size w wx ∧ wx.heap[w.heap.size + 1 + 1]? = some (.cells #[.int .i64 0, .bool false, .string ⟨#[]⟩, .bool false, .slice none 0 0, .bool false, .slice none 0 0] 32 (0, 0)) ∧ wx.heap[w.heap.size]? = some (.cells #[.int .i64 2, .bool false, .string s, .bool false, .slice none 0 0, .bool false, .slice none 0 0] 32 (0, 0)) ∧ wx.heap[w.heap.size + 1]? = some (.cells #[.int .i64 2, .bool false, .string s, .bool false, .slice none 0 0, .bool false, .slice none 0 0] 32 (0, 0))))
  case first =>
    go_region_with (first
      | (go_at_call 41; refine Calls.mono (kA.out W.drew) ?_; rintro e w5 ⟨rfl, hb5⟩
         replace hb5 : Below W.heap.size W w5 := hdh.out.trans hb5
         replace q0 := keep_cell hb5 q0; replace q1 := keep_cell hb5 q1; replace q2 := keep_cell hb5 q2; replace q3 := keep_cell hb5 q3; replace q4 := keep_cell hb5 q4; replace q5 := keep_cell hb5 q5; replace q6 := keep_cell hb5 q6
         have hb5h : Hid (Below W.heap.size W w5) := hb5
         clear hb5 hdh)
      | (go_at_call 41; refine Calls.mono (kA.out _) ?_; rintro e w6 ⟨rfl, hb6⟩
         have hb6h : Hid (Below W.heap.size W w6) := bthen hb5h.out hb6
         have hqA := keep_heap hb6h.out hall.out.2.2.1
         have hqB := keep_heap hb6h.out hall.out.2.2.2
         obtain ⟨⟨u0, u1, u2, u3, u4, u5, u6⟩, uf, _⟩ := cells7 hqA
         obtain ⟨⟨v0, v1, v2, v3, v4, v5, v6⟩, vf, _⟩ := cells7 hqB
         have uf0 := uf 0; have uf1 := uf 1; have uf2 := uf 2; have uf3 := uf 3; have uf4 := uf 4; have uf5 := uf 5; have uf6 := uf 6
         have vf0 := vf 0; have vf1 := vf 1; have vf2 := vf 2; have vf3 := vf 3; have vf4 := vf 4; have vf5 := vf 5; have vf6 := vf 6
         clear hb6 hqA hqB uf vf))
    all_goals
      go_wp2_with fail
      go_meet
      case rel =>
        have h6 := hb6h.out
        have hqA := keep_heap h6 hall.out.2.2.1
        have hqB := keep_heap h6 hall.out.2.2.2
        have hqC := keep_heap h6 hall.out.2.1
        have hT : Below w.heap.size w (put7 (put7 w6 w.heap.size (.int .i64 2) (.bool false) (.string s) (.bool false) (.slice none 0 0) (.bool false) (.slice none 0 0)) (w.heap.size + 1) (.int .i64 2) (.bool false) (.string s) (.bool false) (.slice none 0 0) (.bool false) (.slice none 0 0)) ∧ (put7 (put7 w6 w.heap.size (.int .i64 2) (.bool false) (.string s) (.bool false) (.slice none 0 0) (.bool false) (.slice none 0 0)) (w.heap.size + 1) (.int .i64 2) (.bool false) (.string s) (.bool false) (.slice none 0 0) (.bool false) (.slice none 0 0)).heap[w.heap.size + 1 + 1]? = some (.cells #[.int .i64 0, .bool false, .string ⟨#[]⟩, .bool false, .slice none 0 0, .bool false, .slice none 0 0] 32 (0, 0)) ∧ (put7 (put7 w6 w.heap.size (.int .i64 2) (.bool false) (.string s) (.bool false) (.slice none 0 0) (.bool false) (.slice none 0 0)) (w.heap.size + 1) (.int .i64 2) (.bool false) (.string s) (.bool false) (.slice none 0 0) (.bool false) (.slice none 0 0)).heap[w.heap.size]? = some (.cells #[.int .i64 2, .bool false, .string s, .bool false, .slice none 0 0, .bool false, .slice none 0 0] 32 (0, 0)) ∧ (put7 (put7 w6 w.heap.size (.int .i64 2) (.bool false) (.string s) (.bool false) (.slice none 0 0) (.bool false) (.slice none 0 0)) (w.heap.size + 1) (.int .i64 2) (.bool false) (.string s) (.bool false) (.slice none 0 0) (.bool false) (.slice none 0 0)).heap[w.heap.size + 1]? = some (.cells #[.int .i64 2, .bool false, .string s, .bool false, .slice none 0 0, .bool false, .slice none 0 0] 32 (0, 0)) :=
          ⟨put7_below (put7_below (bthen hall.out.1 h6) (Nat.le_refl _)) (by omega), (put7_same (by omega)).trans ((put7_same (by omega)).trans hqC), (put7_same (by omega)).trans (put7_at hqA), put7_at ((put7_same (by omega)).trans hqB)⟩
        unfold put7 at hT
        exact hT
  case rest =>
    obtain ⟨hbw, hqC, hqA, hqB⟩ := hcut.out
    have hallc : Hid (Below w.heap.size w wc ∧ wc.heap[w.heap.size + 1 + 1]? = some (.cells #[.int .i64 0, .bool false, .string ⟨#[]⟩, .bool false, .slice none 0 0, .bool false, .slice none 0 0] 32 (0, 0))) := ⟨hbw, hqC⟩
    clear p0 p1 p2 p3 p4 p5 p6 q0 q1 q2 q3 q4 q5 q6 hcut hall hdh hbw hqC
    obtain ⟨⟨p0, p1, p2, p3, p4, p5, p6⟩, _, _⟩ := cells7 hqA
    obtain ⟨⟨q0, q1, q2, q3, q4, q5, q6⟩, _, _⟩ := cells7 hqB
    clear hqA hqB
    go_wp2_with fail
    refine Calls.mono (kK.out _) ?_
    clear kK kA
    rintro e w1 ⟨rfl, hb1⟩
    replace hallc : Hid (Below w.heap.size w w1 ∧ w1.heap[w.heap.size + 1 + 1]? = some (.cells #[.int .i64 0, .bool false, .string ⟨#[]⟩, .bool false, .slice none 0 0, .bool false, .slice none 0 0] 32 (0, 0))) := ⟨bthen hallc.out.1 hb1, keep_heap hb1 hallc.out.2⟩
    replace p0 := keep_cell hb1 p0; replace q0 := keep_cell hb1 q0; replace p1 := keep_cell hb1 p1; replace q1 := keep_cell hb1 q1; replace p2 := keep_cell hb1 p2; replace q2 := keep_cell hb1 q2; replace p3 := keep_cell hb1 p3; replace q3 := keep_cell hb1 q3; replace p4 := keep_cell hb1 p4; replace q4 := keep_cell hb1 q4; replace p5 := keep_cell hb1 p5; replace q5 := keep_cell hb1 q5; replace p6 := keep_cell hb1 p6; replace q6 := keep_cell hb1 q6
    clear hb1
    have es : (#[(43 : UInt8)].toList == #[(43 : UInt8)].toList) = true := by decide
    go_upto_region 6 with fail
    go_wp2_with fail
    rw [← hS2]
    refine Calls.mono (kT.out _) ?_
    clear kT
    rintro e w2 ⟨rfl, hb2⟩
    have q9 := keep_heap hb2 hallc.out.2
    obtain ⟨⟨z0, z1, z2, z3, z4, z5, z6⟩, fz, _⟩ := cells7 q9
    have fz0 := fz 0
    have fz1 := fz 1
    have fz2 := fz 2
    have fz3 := fz 3
    have fz4 := fz 4
    have fz5 := fz 5
    have fz6 := fz 6
    clear fz
    obtain ⟨W8, hW8⟩ : ∃ W8, W8 = put7 w2 (w.heap.size + 1 + 1) (.int .i64 2) (.bool false) (.string S2) (.bool false) (.slice none 0 0) (.bool false) (.slice none 0 0) := ⟨_, rfl⟩
    have hqW8 : Hid (W8.heap[w.heap.size + 1 + 1]? = some (.cells #[.int .i64 2, .bool false, .string S2, .bool false, .slice none 0 0, .bool false, .slice none 0 0] 32 (0, 0))) := by show _ = _; rw [hW8]; exact put7_at q9
    have hBW8 : Hid (Below w.heap.size w W8) := by show Below _ _ _; rw [hW8]; exact put7_below (bthen hallc.out.1 hb2) (by omega)
    clear q9 hallc hb2 p0 p1 p2 p3 p4 p5 p6 q0 q1 q2 q3 q4 q5 q6 hS2
    go_wp2
    unfold put7 at hW8
    rw [← hW8]
    obtain ⟨⟨i0, i1, i2, i3, i4, i5, i6⟩, _, _⟩ := cells7 hqW8.out
    exact bodyPost_ret (v := .tuple #[.agg #[.int .i64 2, .bool false, .string S2, .bool false, .slice none 0 0, .bool false, .slice none 0 0], .bool true]) (by simp [results, Tryz.results16, go_sem, i0, i1, i2, i3, i4, i5, i6]) rfl ⟨rfl, hBW8.out⟩
set_option maxRecDepth 20000 in
set_option maxHeartbeats 2000000 in
theorem Binary_long (s : ByteArray) (w : World) (hs : s.size ≤ 65536) (h2 : 65536 < (s ++ s).size) : Calls Tryz.prog 16 #[.string ⟨#[43]⟩, cStr s, cStr s] w fun e w' => e = .returned (.tuple #[cNone, .bool false]) ∧ Below w.heap.size w w' := by
  obtain ⟨W, hW, hq4, hq5, hq6, hbW, hsz⟩ := three_new (w := w) (A := .cells #[.int .i64 2, .bool false, .string s, .bool false, .slice none 0 0, .bool false, .slice none 0 0] 32) (B := .cells #[.int .i64 2, .bool false, .string s, .bool false, .slice none 0 0, .bool false, .slice none 0 0] 32) (C := .cells #[.int .i64 0, .bool false, .string ⟨#[]⟩, .bool false, .slice none 0 0, .bool false, .slice none 0 0] 32)
  have kA : Hid (∀ X, Calls Tryz.prog 41 #[.agg #[.int .i64 2, .bool false, .string s, .bool false, .slice none 0 0, .bool false, .slice none 0 0]] X fun e w' => e = .returned (.agg #[.int .i64 2, .bool false, .string s, .bool false, .slice none 0 0, .bool false, .slice none 0 0]) ∧ Below X.heap.size X w') := fun X => admit_str s X hs
  have kK : Hid (∀ X, Calls Tryz.prog 49 #[.agg #[.int .i64 2, .bool false, .string s, .bool false, .slice none 0 0, .bool false, .slice none 0 0], .agg #[.int .i64 2, .bool false, .string s, .bool false, .slice none 0 0, .bool false, .slice none 0 0]] X fun e w' => e = .returned (.int .i64 2) ∧ Below X.heap.size X w') := fun X => commonKind_str s s X
  obtain ⟨S2, hS2⟩ : ∃ S2, S2 = s ++ s := ⟨_, rfl⟩
  rw [← hS2] at h2
  have kT : Hid (∀ X, Calls Tryz.prog 34 #[.string S2, .bool true] X fun e w' => e = .returned (.tuple #[.agg #[.int .i64 0, .bool false, .string ⟨#[]⟩, .bool false, .slice none 0 0, .bool false, .slice none 0 0], .bool false]) ∧ Below X.heap.size X w') := fun X => ofText_big S2 X h2
  have hall : Hid (Below w.heap.size w W ∧ W.heap[w.heap.size + 1 + 1]? = some (.cells #[.int .i64 0, .bool false, .string ⟨#[]⟩, .bool false, .slice none 0 0, .bool false, .slice none 0 0] 32 (0, 0)) ∧ W.heap[w.heap.size]? = some (.cells #[.int .i64 2, .bool false, .string s, .bool false, .slice none 0 0, .bool false, .slice none 0 0] 32 (0, 0)) ∧ W.heap[w.heap.size + 1]? = some (.cells #[.int .i64 2, .bool false, .string s, .bool false, .slice none 0 0, .bool false, .slice none 0 0] 32 (0, 0))) := ⟨hbW, hq6, hq4, hq5⟩
  have hdh : Hid (Below W.heap.size W W.drew) := (Below.refl _ _).drew
  obtain ⟨⟨p0, p1, p2, p3, p4, p5, p6⟩, _, _⟩ := cells7 hq4
  obtain ⟨⟨q0, q1, q2, q3, q4, q5, q6⟩, _, _⟩ := cells7 hq5
  have hml : ¬ (9223372036854775807 < s.size + s.size) := by omega
  clear hq4 hq5 hq6 hbW hsz h2 hs
  unfold cStr
  go_enter Tryz.func16, Tryz.ntmps16
  go_upto_region 1 with fail
  rw [← hW]
  clear hW
  go_cut [13] from 10 to 13 (fun _ wx => Hid (Below w.heap.size w wx ∧ wx.heap[w.heap.size + 1 + 1]? = some (.cells #[.int .i64 0, .bool false, .string ⟨#[]⟩, .bool false, .slice none 0 0, .bool false, .slice none 0 0] 32 (0, 0)) ∧ wx.heap[w.heap.size]? = some (.cells #[.int .i64 2, .bool false, .string s, .bool false, .slice none 0 0, .bool false, .slice none 0 0] 32 (0, 0)) ∧ wx.heap[w.heap.size + 1]? = some (.cells #[.int .i64 2, .bool false, .string s, .bool false, .slice none 0 0, .bool false, .slice none 0 0] 32 (0, 0))))
  case first =>
    go_region_with (first
      | (go_at_call 41; refine Calls.mono (kA.out W.drew) ?_; rintro e w5 ⟨rfl, hb5⟩
         replace hb5 : Below W.heap.size W w5 := hdh.out.trans hb5
         replace q0 := keep_cell hb5 q0; replace q1 := keep_cell hb5 q1; replace q2 := keep_cell hb5 q2; replace q3 := keep_cell hb5 q3; replace q4 := keep_cell hb5 q4; replace q5 := keep_cell hb5 q5; replace q6 := keep_cell hb5 q6
         have hb5h : Hid (Below W.heap.size W w5) := hb5
         clear hb5 hdh)
      | (go_at_call 41; refine Calls.mono (kA.out _) ?_; rintro e w6 ⟨rfl, hb6⟩
         have hb6h : Hid (Below W.heap.size W w6) := bthen hb5h.out hb6
         have hqA := keep_heap hb6h.out hall.out.2.2.1
         have hqB := keep_heap hb6h.out hall.out.2.2.2
         obtain ⟨⟨u0, u1, u2, u3, u4, u5, u6⟩, uf, _⟩ := cells7 hqA
         obtain ⟨⟨v0, v1, v2, v3, v4, v5, v6⟩, vf, _⟩ := cells7 hqB
         have uf0 := uf 0; have uf1 := uf 1; have uf2 := uf 2; have uf3 := uf 3; have uf4 := uf 4; have uf5 := uf 5; have uf6 := uf 6
         have vf0 := vf 0; have vf1 := vf 1; have vf2 := vf 2; have vf3 := vf 3; have vf4 := vf 4; have vf5 := vf 5; have vf6 := vf 6
         clear hb6 hqA hqB uf vf))
    all_goals
      go_wp2_with fail
      go_meet
      case rel =>
        have h6 := hb6h.out
        have hqA := keep_heap h6 hall.out.2.2.1
        have hqB := keep_heap h6 hall.out.2.2.2
        have hqC := keep_heap h6 hall.out.2.1
        have hT : Below w.heap.size w (put7 (put7 w6 w.heap.size (.int .i64 2) (.bool false) (.string s) (.bool false) (.slice none 0 0) (.bool false) (.slice none 0 0)) (w.heap.size + 1) (.int .i64 2) (.bool false) (.string s) (.bool false) (.slice none 0 0) (.bool false) (.slice none 0 0)) ∧ (put7 (put7 w6 w.heap.size (.int .i64 2) (.bool false) (.string s) (.bool false) (.slice none 0 0) (.bool false) (.slice none 0 0)) (w.heap.size + 1) (.int .i64 2) (.bool false) (.string s) (.bool false) (.slice none 0 0) (.bool false) (.slice none 0 0)).heap[w.heap.size + 1 + 1]? = some (.cells #[.int .i64 0, .bool false, .string ⟨#[]⟩, .bool false, .slice none 0 0, .bool false, .slice none 0 0] 32 (0, 0)) ∧ (put7 (put7 w6 w.heap.size (.int .i64 2) (.bool false) (.string s) (.bool false) (.slice none 0 0) (.bool false) (.slice none 0 0)) (w.heap.size + 1) (.int .i64 2) (.bool false) (.string s) (.bool false) (.slice none 0 0) (.bool false) (.slice none 0 0)).heap[w.heap.size]? = some (.cells #[.int .i64 2, .bool false, .string s, .bool false, .slice none 0 0, .bool false, .slice none 0 0] 32 (0, 0)) ∧ (put7 (put7 w6 w.heap.size (.int .i64 2) (.bool false) (.string s) (.bool false) (.slice none 0 0) (.bool false) (.slice none 0 0)) (w.heap.size + 1) (.int .i64 2) (.bool false) (.string s) (.bool false) (.slice none 0 0) (.bool false) (.slice none 0 0)).heap[w.heap.size + 1]? = some (.cells #[.int .i64 2, .bool false, .string s, .bool false, .slice none 0 0, .bool false, .slice none 0 0] 32 (0, 0)) :=
          ⟨put7_below (put7_below (bthen hall.out.1 h6) (Nat.le_refl _)) (by omega), (put7_same (by omega)).trans ((put7_same (by omega)).trans hqC), (put7_same (by omega)).trans (put7_at hqA), put7_at ((put7_same (by omega)).trans hqB)⟩
        unfold put7 at hT
        exact hT
  case rest =>
    obtain ⟨hbw, hqC, hqA, hqB⟩ := hcut.out
    have hallc : Hid (Below w.heap.size w wc ∧ wc.heap[w.heap.size + 1 + 1]? = some (.cells #[.int .i64 0, .bool false, .string ⟨#[]⟩, .bool false, .slice none 0 0, .bool false, .slice none 0 0] 32 (0, 0))) := ⟨hbw, hqC⟩
    clear p0 p1 p2 p3 p4 p5 p6 q0 q1 q2 q3 q4 q5 q6 hcut hall hdh hbw hqC
    obtain ⟨⟨p0, p1, p2, p3, p4, p5, p6⟩, _, _⟩ := cells7 hqA
    obtain ⟨⟨q0, q1, q2, q3, q4, q5, q6⟩, _, _⟩ := cells7 hqB
    clear hqA hqB
    go_wp2_with fail
    refine Calls.mono (kK.out _) ?_
    clear kK kA
    rintro e w1 ⟨rfl, hb1⟩
    replace hallc : Hid (Below w.heap.size w w1 ∧ w1.heap[w.heap.size + 1 + 1]? = some (.cells #[.int .i64 0, .bool false, .string ⟨#[]⟩, .bool false, .slice none 0 0, .bool false, .slice none 0 0] 32 (0, 0))) := ⟨bthen hallc.out.1 hb1, keep_heap hb1 hallc.out.2⟩
    replace p0 := keep_cell hb1 p0; replace q0 := keep_cell hb1 q0; replace p1 := keep_cell hb1 p1; replace q1 := keep_cell hb1 q1; replace p2 := keep_cell hb1 p2; replace q2 := keep_cell hb1 q2; replace p3 := keep_cell hb1 p3; replace q3 := keep_cell hb1 q3; replace p4 := keep_cell hb1 p4; replace q4 := keep_cell hb1 q4; replace p5 := keep_cell hb1 p5; replace q5 := keep_cell hb1 q5; replace p6 := keep_cell hb1 p6; replace q6 := keep_cell hb1 q6
    clear hb1
    have es : (#[(43 : UInt8)].toList == #[(43 : UInt8)].toList) = true := by decide
    go_upto_region 6 with fail
    go_wp2_with fail
    rw [← hS2]
    refine Calls.mono (kT.out _) ?_
    clear kT
    rintro e w2 ⟨rfl, hb2⟩
    have q9 := keep_heap hb2 hallc.out.2
    obtain ⟨⟨z0, z1, z2, z3, z4, z5, z6⟩, fz, _⟩ := cells7 q9
    have fz0 := fz 0
    have fz1 := fz 1
    have fz2 := fz 2
    have fz3 := fz 3
    have fz4 := fz 4
    have fz5 := fz 5
    have fz6 := fz 6
    clear fz
    obtain ⟨W8, hW8⟩ : ∃ W8, W8 = put7 w2 (w.heap.size + 1 + 1) (.int .i64 0) (.bool false) (.string ⟨#[]⟩) (.bool false) (.slice none 0 0) (.bool false) (.slice none 0 0) := ⟨_, rfl⟩
    have hqW8 : Hid (W8.heap[w.heap.size + 1 + 1]? = some (.cells #[.int .i64 0, .bool false, .string ⟨#[]⟩, .bool false, .slice none 0 0, .bool false, .slice none 0 0] 32 (0, 0))) := by show _ = _; rw [hW8]; exact put7_at q9
    have hBW8 : Hid (Below w.heap.size w W8) := by show Below _ _ _; rw [hW8]; exact put7_below (bthen hallc.out.1 hb2) (by omega)
    clear q9 hallc hb2 p0 p1 p2 p3 p4 p5 p6 q0 q1 q2 q3 q4 q5 q6 hS2
    go_wp2
    unfold put7 at hW8
    rw [← hW8]
    obtain ⟨⟨i0, i1, i2, i3, i4, i5, i6⟩, _, _⟩ := cells7 hqW8.out
    exact bodyPost_ret (v := .tuple #[.agg #[.int .i64 0, .bool false, .string ⟨#[]⟩, .bool false, .slice none 0 0, .bool false, .slice none 0 0], .bool false]) (by simp [results, Tryz.results16, go_sem, i0, i1, i2, i3, i4, i5, i6]) rfl ⟨rfl, hBW8.out⟩
end Go.Proofs.YtclokcoimdjaeaaGreatDoor
namespace Go.Proofs.YtclokcoimdjaeaaGreatDoor
set_option linter.unusedVariables false
open Go.RowKit
attribute [local go_sem ↓] Go.wp_at_zero Go.wp_at_succ
set_option maxRecDepth 20000 in
set_option maxHeartbeats 2000000 in
theorem Binary19_yes {w : World} (s : ByteArray) (ka : Int) (ba : Bool) (sa : ByteArray) (ma : Bool) (xa : Option Addr) (la ca : Nat) (na : Bool) (ya : Option Addr) (ja da : Nat) (kb : Int) (bb : Bool) (sb : ByteArray) (mb : Bool) (xb : Option Addr) (lb cb : Nat) (nb : Bool) (yb : Option Addr) (jb db : Nat) (P : World → Value → Prop) (hPn : ∀ w w' t, Below w.heap.size w w' → P w t → P w' t) (hPp : ∀ (w : World) (b : Nat) (t v0 v1 v2 v3 v4 v5 v6 : Value), ZBox w b → P w t → P (put7 w b v0 v1 v2 v3 v4 v5 v6) t) (hB : ∀ X, Below w.heap.size w X → Calls Tryz.prog 56 #[.string s, .agg #[.int .i64 ka, .bool ba, .string sa, .bool ma, .slice xa la ca, .bool na, .slice ya ja da], .agg #[.int .i64 kb, .bool bb, .string sb, .bool mb, .slice xb lb cb, .bool nb, .slice yb jb db]] X fun e w' => ∃ (kr : Int) (br : Bool) (sr : ByteArray) (mr : Bool) (xr : Option Addr) (lr cr : Nat) (nr : Bool) (yr : Option Addr) (jr dr : Nat), e = .returned (.tuple #[.agg #[.int .i64 kr, .bool br, .string sr, .bool mr, .slice xr lr cr, .bool nr, .slice yr jr dr], .bool true]) ∧ P w' (.agg #[.int .i64 kr, .bool br, .string sr, .bool mr, .slice xr lr cr, .bool nr, .slice yr jr dr]) ∧ Below X.heap.size X w') (hS : ∀ X (kr : Int) (br : Bool) (sr : ByteArray) (mr : Bool) (xr : Option Addr) (lr cr : Nat) (nr : Bool) (yr : Option Addr) (jr dr : Nat), P X (.agg #[.int .i64 kr, .bool br, .string sr, .bool mr, .slice xr lr cr, .bool nr, .slice yr jr dr]) → Calls Tryz.prog 37 #[.agg #[.int .i64 kr, .bool br, .string sr, .bool mr, .slice xr lr cr, .bool nr, .slice yr jr dr]] X fun e w' => e = .returned (.bool true) ∧ Below X.heap.size X w') :
    Calls Tryz.prog 19 #[.string s, .agg #[.int .i64 ka, .bool ba, .string sa, .bool ma, .slice xa la ca, .bool na, .slice ya ja da], .agg #[.int .i64 kb, .bool bb, .string sb, .bool mb, .slice xb lb cb, .bool nb, .slice yb jb db]] w fun e w' => ∃ t, e = .returned (.tuple #[t, .bool true]) ∧ P w' t ∧ Below w.heap.size w w' := by
  obtain ⟨W, hW, hqa, hqb, hqc, hbW, hsz⟩ := three_new (w := w) (A := .cells #[.int .i64 ka, .bool ba, .string sa, .bool ma, .slice xa la ca, .bool na, .slice ya ja da] 42) (B := .cells #[.int .i64 kb, .bool bb, .string sb, .bool mb, .slice xb lb cb, .bool nb, .slice yb jb db] 42) (C := .cells #[.int .i64 0, .bool false, .string ⟨#[]⟩, .bool false, .slice none 0 0, .bool false, .slice none 0 0] 42)
  obtain ⟨⟨p0, p1, p2, p3, p4, p5, p6⟩, _, _⟩ := cells7 hqa
  obtain ⟨⟨q0, q1, q2, q3, q4, q5, q6⟩, _, _⟩ := cells7 hqb
  have kB : Hid (Calls Tryz.prog 56 #[.string s, .agg #[.int .i64 ka, .bool ba, .string sa, .bool ma, .slice xa la ca, .bool na, .slice ya ja da], .agg #[.int .i64 kb, .bool bb, .string sb, .bool mb, .slice xb lb cb, .bool nb, .slice yb jb db]] W _) := hB W hbW
  have hall : Hid (Below w.heap.size w W ∧ W.heap[w.heap.size + 1 + 1]? = some (.cells #[.int .i64 0, .bool false, .string ⟨#[]⟩, .bool false, .slice none 0 0, .bool false, .slice none 0 0] 42 (0, 0))) := ⟨hbW, hqc⟩
  replace hS : Hid (∀ X (kr : Int) (br : Bool) (sr : ByteArray) (mr : Bool) (xr : Option Addr) (lr cr : Nat) (nr : Bool) (yr : Option Addr) (jr dr : Nat), P X (.agg #[.int .i64 kr, .bool br, .string sr, .bool mr, .slice xr lr cr, .bool nr, .slice yr jr dr]) → Calls Tryz.prog 37 #[.agg #[.int .i64 kr, .bool br, .string sr, .bool mr, .slice xr lr cr, .bool nr, .slice yr jr dr]] X fun e w' => e = .returned (.bool true) ∧ Below X.heap.size X w') := hS
  replace hPn : Hid (∀ w w' t, Below w.heap.size w w' → P w t → P w' t) := hPn
  replace hPp : Hid (∀ (w : World) (b : Nat) (t v0 v1 v2 v3 v4 v5 v6 : Value), ZBox w b → P w t → P (put7 w b v0 v1 v2 v3 v4 v5 v6) t) := hPp
  clear hqa hqb hqc hbW hsz hB
  go_enter Tryz.func19, Tryz.ntmps19
  go_upto_region 1 with fail
  rw [← hW]
  clear hW
  go_wp2_with fail
  refine Calls.mono kB.out ?_
  clear kB
  rintro e w1 ⟨kr, br, sr, mr, xr, lr, cr, nr, yr, jr, dr, rfl, hP, hb1⟩
  obtain ⟨W2, hW2⟩ : ∃ W2, W2 = w1.alloc (.cells #[.int .i64 kr, .bool br, .string sr, .bool mr, .slice xr lr cr, .bool nr, .slice yr jr dr] 42) := ⟨_, rfl⟩
  have hb2 : Below w1.heap.size w1 W2 := by rw [hW2]; exact (Below.refl _ _).alloc (Nat.le_refl _) _
  have q2' : W2.heap[w1.heap.size]? = some (.cells #[.int .i64 kr, .bool br, .string sr, .bool mr, .slice xr lr cr, .bool nr, .slice yr jr dr] 42 (0, 0)) := by rw [hW2]; exact newAt _ _
  have zk : Hid (Below W.heap.size W W2) := bthen hb1 hb2
  have hPh : Hid (P W2 (.agg #[.int .i64 kr, .bool br, .string sr, .bool mr, .slice xr lr cr, .bool nr, .slice yr jr dr])) := hPn.out _ _ _ hb2 hP
  have kS : Hid (Calls Tryz.prog 37 #[.agg #[.int .i64 kr, .bool br, .string sr, .bool mr, .slice xr lr cr, .bool nr, .slice yr jr dr]] W2 _) := hS.out W2 kr br sr mr xr lr cr nr yr jr dr hPh.out
  obtain ⟨⟨g0, g1, g2, g3, g4, g5, g6⟩, _, _⟩ := cells7 q2'
  clear hP hb1 hb2 q2' p0 p1 p2 p3 p4 p5 p6 q0 q1 q2 q3 q4 q5 q6
  go_upto_region 2 with fail
  rw [← hW2]
  clear hW2
  generalize w1.heap.size = pC at *
  go_wp2_with fail
  refine Calls.mono kS.out ?_
  clear kS
  rintro e w3 ⟨rfl, hb3⟩
  replace g0 := keep_cell hb3 g0
  replace g1 := keep_cell hb3 g1
  replace g2 := keep_cell hb3 g2
  replace g3 := keep_cell hb3 g3
  replace g4 := keep_cell hb3 g4
  replace g5 := keep_cell hb3 g5
  replace g6 := keep_cell hb3 g6
  replace zk : Hid (Below W.heap.size W w3) := bthen zk.out hb3
  replace hPh : Hid (P w3 (.agg #[.int .i64 kr, .bool br, .string sr, .bool mr, .slice xr lr cr, .bool nr, .slice yr jr dr])) := hPn.out _ _ _ hb3 hPh.out
  clear hb3
  have q6 := keep_heap zk.out hall.out.2
  obtain ⟨⟨z0, z1, z2, z3, z4, z5, z6⟩, fz, _⟩ := cells7 q6
  have fz0 := fz 0
  have fz1 := fz 1
  have fz2 := fz 2
  have fz3 := fz 3
  have fz4 := fz 4
  have fz5 := fz 5
  have fz6 := fz 6
  clear fz
  obtain ⟨W8, hW8⟩ : ∃ W8, W8 = put7 w3 (w.heap.size + 1 + 1) (.int .i64 kr) (.bool br) (.string sr) (.bool mr) (.slice xr lr cr) (.bool nr) (.slice yr jr dr) := ⟨_, rfl⟩
  have hqW8 : Hid (W8.heap[w.heap.size + 1 + 1]? = some (.cells #[.int .i64 kr, .bool br, .string sr, .bool mr, .slice xr lr cr, .bool nr, .slice yr jr dr] 42 (0, 0))) := by show _ = _; rw [hW8]; exact put7_at q6
  have hBW8 : Hid (Below w.heap.size w W8 ∧ P W8 (.agg #[.int .i64 kr, .bool br, .string sr, .bool mr, .slice xr lr cr, .bool nr, .slice yr jr dr])) := by
    show _ ∧ _
    rw [hW8]
    exact ⟨put7_below (bthen hall.out.1 zk.out) (by omega), hPp.out _ _ _ _ _ _ _ _ _ _ ⟨_, _, _, _, _, _, _, _, _, _, _, q6⟩ hPh.out⟩
  clear q6 zk hall hPh hPn hPp hS
  go_wp2
  unfold put7 at hW8
  rw [← hW8]
  obtain ⟨⟨i0, i1, i2, i3, i4, i5, i6⟩, _, _⟩ := cells7 hqW8.out
  exact bodyPost_ret (v := .tuple #[.agg #[.int .i64 kr, .bool br, .string sr, .bool mr, .slice xr lr cr, .bool nr, .slice yr jr dr], .bool true]) (by simp [results, Tryz.results19, go_sem, i0, i1, i2, i3, i4, i5, i6]) rfl ⟨_, rfl, hBW8.out.2, hBW8.out.1⟩
set_option maxRecDepth 20000 in
set_option maxHeartbeats 2000000 in
theorem Binary19_no {w : World} (s : ByteArray) (ka : Int) (ba : Bool) (sa : ByteArray) (ma : Bool) (xa : Option Addr) (la ca : Nat) (na : Bool) (ya : Option Addr) (ja da : Nat) (kb : Int) (bb : Bool) (sb : ByteArray) (mb : Bool) (xb : Option Addr) (lb cb : Nat) (nb : Bool) (yb : Option Addr) (jb db : Nat) (P : World → Value → Prop) (hPn : ∀ w w' t, Below w.heap.size w w' → P w t → P w' t) (hPp : ∀ (w : World) (b : Nat) (t v0 v1 v2 v3 v4 v5 v6 : Value), ZBox w b → P w t → P (put7 w b v0 v1 v2 v3 v4 v5 v6) t) (hB : ∀ X, Below w.heap.size w X → Calls Tryz.prog 56 #[.string s, .agg #[.int .i64 ka, .bool ba, .string sa, .bool ma, .slice xa la ca, .bool na, .slice ya ja da], .agg #[.int .i64 kb, .bool bb, .string sb, .bool mb, .slice xb lb cb, .bool nb, .slice yb jb db]] X fun e w' => ∃ (kr : Int) (br : Bool) (sr : ByteArray) (mr : Bool) (xr : Option Addr) (lr cr : Nat) (nr : Bool) (yr : Option Addr) (jr dr : Nat), e = .returned (.tuple #[.agg #[.int .i64 kr, .bool br, .string sr, .bool mr, .slice xr lr cr, .bool nr, .slice yr jr dr], .bool true]) ∧ P w' (.agg #[.int .i64 kr, .bool br, .string sr, .bool mr, .slice xr lr cr, .bool nr, .slice yr jr dr]) ∧ Below X.heap.size X w') (hS : ∀ X (kr : Int) (br : Bool) (sr : ByteArray) (mr : Bool) (xr : Option Addr) (lr cr : Nat) (nr : Bool) (yr : Option Addr) (jr dr : Nat), P X (.agg #[.int .i64 kr, .bool br, .string sr, .bool mr, .slice xr lr cr, .bool nr, .slice yr jr dr]) → Calls Tryz.prog 37 #[.agg #[.int .i64 kr, .bool br, .string sr, .bool mr, .slice xr lr cr, .bool nr, .slice yr jr dr]] X fun e w' => e = .returned (.bool false) ∧ Below X.heap.size X w') :
    Calls Tryz.prog 19 #[.string s, .agg #[.int .i64 ka, .bool ba, .string sa, .bool ma, .slice xa la ca, .bool na, .slice ya ja da], .agg #[.int .i64 kb, .bool bb, .string sb, .bool mb, .slice xb lb cb, .bool nb, .slice yb jb db]] w fun e w' => e = .returned (.tuple #[cNone, .bool false]) ∧ Below w.heap.size w w' := by
  obtain ⟨W, hW, hqa, hqb, hqc, hbW, hsz⟩ := three_new (w := w) (A := .cells #[.int .i64 ka, .bool ba, .string sa, .bool ma, .slice xa la ca, .bool na, .slice ya ja da] 42) (B := .cells #[.int .i64 kb, .bool bb, .string sb, .bool mb, .slice xb lb cb, .bool nb, .slice yb jb db] 42) (C := .cells #[.int .i64 0, .bool false, .string ⟨#[]⟩, .bool false, .slice none 0 0, .bool false, .slice none 0 0] 42)
  obtain ⟨⟨p0, p1, p2, p3, p4, p5, p6⟩, _, _⟩ := cells7 hqa
  obtain ⟨⟨q0, q1, q2, q3, q4, q5, q6⟩, _, _⟩ := cells7 hqb
  have kB : Hid (Calls Tryz.prog 56 #[.string s, .agg #[.int .i64 ka, .bool ba, .string sa, .bool ma, .slice xa la ca, .bool na, .slice ya ja da], .agg #[.int .i64 kb, .bool bb, .string sb, .bool mb, .slice xb lb cb, .bool nb, .slice yb jb db]] W _) := hB W hbW
  have hall : Hid (Below w.heap.size w W ∧ W.heap[w.heap.size + 1 + 1]? = some (.cells #[.int .i64 0, .bool false, .string ⟨#[]⟩, .bool false, .slice none 0 0, .bool false, .slice none 0 0] 42 (0, 0))) := ⟨hbW, hqc⟩
  replace hS : Hid (∀ X (kr : Int) (br : Bool) (sr : ByteArray) (mr : Bool) (xr : Option Addr) (lr cr : Nat) (nr : Bool) (yr : Option Addr) (jr dr : Nat), P X (.agg #[.int .i64 kr, .bool br, .string sr, .bool mr, .slice xr lr cr, .bool nr, .slice yr jr dr]) → Calls Tryz.prog 37 #[.agg #[.int .i64 kr, .bool br, .string sr, .bool mr, .slice xr lr cr, .bool nr, .slice yr jr dr]] X fun e w' => e = .returned (.bool false) ∧ Below X.heap.size X w') := hS
  replace hPn : Hid (∀ w w' t, Below w.heap.size w w' → P w t → P w' t) := hPn
  replace hPp : Hid (∀ (w : World) (b : Nat) (t v0 v1 v2 v3 v4 v5 v6 : Value), ZBox w b → P w t → P (put7 w b v0 v1 v2 v3 v4 v5 v6) t) := hPp
  clear hqa hqb hqc hbW hsz hB
  go_enter Tryz.func19, Tryz.ntmps19
  go_upto_region 1 with fail
  rw [← hW]
  clear hW
  go_wp2_with fail
  refine Calls.mono kB.out ?_
  clear kB
  rintro e w1 ⟨kr, br, sr, mr, xr, lr, cr, nr, yr, jr, dr, rfl, hP, hb1⟩
  obtain ⟨W2, hW2⟩ : ∃ W2, W2 = w1.alloc (.cells #[.int .i64 kr, .bool br, .string sr, .bool mr, .slice xr lr cr, .bool nr, .slice yr jr dr] 42) := ⟨_, rfl⟩
  have hb2 : Below w1.heap.size w1 W2 := by rw [hW2]; exact (Below.refl _ _).alloc (Nat.le_refl _) _
  have q2' : W2.heap[w1.heap.size]? = some (.cells #[.int .i64 kr, .bool br, .string sr, .bool mr, .slice xr lr cr, .bool nr, .slice yr jr dr] 42 (0, 0)) := by rw [hW2]; exact newAt _ _
  have zk : Hid (Below W.heap.size W W2) := bthen hb1 hb2
  have hPh : Hid (P W2 (.agg #[.int .i64 kr, .bool br, .string sr, .bool mr, .slice xr lr cr, .bool nr, .slice yr jr dr])) := hPn.out _ _ _ hb2 hP
  have kS : Hid (Calls Tryz.prog 37 #[.agg #[.int .i64 kr, .bool br, .string sr, .bool mr, .slice xr lr cr, .bool nr, .slice yr jr dr]] W2 _) := hS.out W2 kr br sr mr xr lr cr nr yr jr dr hPh.out
  obtain ⟨⟨g0, g1, g2, g3, g4, g5, g6⟩, _, _⟩ := cells7 q2'
  clear hP hb1 hb2 q2' p0 p1 p2 p3 p4 p5 p6 q0 q1 q2 q3 q4 q5 q6
  go_upto_region 2 with fail
  rw [← hW2]
  clear hW2
  generalize w1.heap.size = pC at *
  go_wp2_with fail
  refine Calls.mono kS.out ?_
  clear kS
  rintro e w3 ⟨rfl, hb3⟩
  replace g0 := keep_cell hb3 g0
  replace g1 := keep_cell hb3 g1
  replace g2 := keep_cell hb3 g2
  replace g3 := keep_cell hb3 g3
  replace g4 := keep_cell hb3 g4
  replace g5 := keep_cell hb3 g5
  replace g6 := keep_cell hb3 g6
  replace zk : Hid (Below W.heap.size W w3) := bthen zk.out hb3
  replace hPh : Hid (P w3 (.agg #[.int .i64 kr, .bool br, .string sr, .bool mr, .slice xr lr cr, .bool nr, .slice yr jr dr])) := hPn.out _ _ _ hb3 hPh.out
  clear hb3
  have q6 := keep_heap zk.out hall.out.2
  obtain ⟨⟨z0, z1, z2, z3, z4, z5, z6⟩, fz, _⟩ := cells7 q6
  have fz0 := fz 0
  have fz1 := fz 1
  have fz2 := fz 2
  have fz3 := fz 3
  have fz4 := fz 4
  have fz5 := fz 5
  have fz6 := fz 6
  clear fz
  obtain ⟨W8, hW8⟩ : ∃ W8, W8 = put7 w3 (w.heap.size + 1 + 1) (.int .i64 0) (.bool false) (.string ⟨#[]⟩) (.bool false) (.slice none 0 0) (.bool false) (.slice none 0 0) := ⟨_, rfl⟩
  have hqW8 : Hid (W8.heap[w.heap.size + 1 + 1]? = some (.cells #[.int .i64 0, .bool false, .string ⟨#[]⟩, .bool false, .slice none 0 0, .bool false, .slice none 0 0] 42 (0, 0))) := by show _ = _; rw [hW8]; exact put7_at q6
  have hBW8 : Hid (Below w.heap.size w W8) := by
    show Below _ _ _
    rw [hW8]
    exact put7_below (bthen hall.out.1 zk.out) (by omega)
  clear q6 zk hall hPh hPn hPp hS
  go_wp2
  unfold put7 at hW8
  rw [← hW8]
  obtain ⟨⟨i0, i1, i2, i3, i4, i5, i6⟩, _, _⟩ := cells7 hqW8.out
  exact bodyPost_ret (v := .tuple #[.agg #[.int .i64 0, .bool false, .string ⟨#[]⟩, .bool false, .slice none 0 0, .bool false, .slice none 0 0], .bool false]) (by simp [results, Tryz.results19, go_sem, i0, i1, i2, i3, i4, i5, i6]) rfl ⟨rfl, hBW8.out⟩
set_option maxRecDepth 20000 in
set_option maxHeartbeats 2000000 in
theorem From14_yes {w : World}  (ka : Int) (ba : Bool) (sa : ByteArray) (ma : Bool) (xa : Option Addr) (la ca : Nat) (na : Bool) (ya : Option Addr) (ja da : Nat) (P : World → Value → Prop) (hPn : ∀ w w' t, Below w.heap.size w w' → P w t → P w' t) (hPp : ∀ (w : World) (b : Nat) (t v0 v1 v2 v3 v4 v5 v6 : Value), ZBox w b → P w t → P (put7 w b v0 v1 v2 v3 v4 v5 v6) t) (hB : ∀ X, Below w.heap.size w X → Calls Tryz.prog 40 #[.agg #[.int .i64 ka, .bool ba, .string sa, .bool ma, .slice xa la ca, .bool na, .slice ya ja da]] X fun e w' => ∃ (kr : Int) (br : Bool) (sr : ByteArray) (mr : Bool) (xr : Option Addr) (lr cr : Nat) (nr : Bool) (yr : Option Addr) (jr dr : Nat), e = .returned (.tuple #[.agg #[.int .i64 kr, .bool br, .string sr, .bool mr, .slice xr lr cr, .bool nr, .slice yr jr dr], .bool true]) ∧ P w' (.agg #[.int .i64 kr, .bool br, .string sr, .bool mr, .slice xr lr cr, .bool nr, .slice yr jr dr]) ∧ Below X.heap.size X w') (hS : ∀ X (kr : Int) (br : Bool) (sr : ByteArray) (mr : Bool) (xr : Option Addr) (lr cr : Nat) (nr : Bool) (yr : Option Addr) (jr dr : Nat), P X (.agg #[.int .i64 kr, .bool br, .string sr, .bool mr, .slice xr lr cr, .bool nr, .slice yr jr dr]) → Calls Tryz.prog 37 #[.agg #[.int .i64 kr, .bool br, .string sr, .bool mr, .slice xr lr cr, .bool nr, .slice yr jr dr]] X fun e w' => e = .returned (.bool true) ∧ Below X.heap.size X w') :
    Calls Tryz.prog 14 #[.agg #[.int .i64 ka, .bool ba, .string sa, .bool ma, .slice xa la ca, .bool na, .slice ya ja da]] w fun e w' => ∃ t, e = .returned (.tuple #[t, .bool true]) ∧ P w' t ∧ Below w.heap.size w w' := by
  obtain ⟨W, hW, hqa, hqb, hbW, hsz⟩ := two_new (w := w) (A := .cells #[.int .i64 ka, .bool ba, .string sa, .bool ma, .slice xa la ca, .bool na, .slice ya ja da] 32) (B := .cells #[.int .i64 0, .bool false, .string ⟨#[]⟩, .bool false, .slice none 0 0, .bool false, .slice none 0 0] 42)
  obtain ⟨⟨p0, p1, p2, p3, p4, p5, p6⟩, _, _⟩ := cells7 hqa
  have kB : Hid (Calls Tryz.prog 40 #[.agg #[.int .i64 ka, .bool ba, .string sa, .bool ma, .slice xa la ca, .bool na, .slice ya ja da]] W _) := hB W hbW
  have hall : Hid (Below w.heap.size w W ∧ W.heap[w.heap.size + 1]? = some (.cells #[.int .i64 0, .bool false, .string ⟨#[]⟩, .bool false, .slice none 0 0, .bool false, .slice none 0 0] 42 (0, 0))) := ⟨hbW, hqb⟩
  replace hS : Hid (∀ X (kr : Int) (br : Bool) (sr : ByteArray) (mr : Bool) (xr : Option Addr) (lr cr : Nat) (nr : Bool) (yr : Option Addr) (jr dr : Nat), P X (.agg #[.int .i64 kr, .bool br, .string sr, .bool mr, .slice xr lr cr, .bool nr, .slice yr jr dr]) → Calls Tryz.prog 37 #[.agg #[.int .i64 kr, .bool br, .string sr, .bool mr, .slice xr lr cr, .bool nr, .slice yr jr dr]] X fun e w' => e = .returned (.bool true) ∧ Below X.heap.size X w') := hS
  replace hPn : Hid (∀ w w' t, Below w.heap.size w w' → P w t → P w' t) := hPn
  replace hPp : Hid (∀ (w : World) (b : Nat) (t v0 v1 v2 v3 v4 v5 v6 : Value), ZBox w b → P w t → P (put7 w b v0 v1 v2 v3 v4 v5 v6) t) := hPp
  clear hqa hqb hbW hsz hB
  go_enter Tryz.func14, Tryz.ntmps14
  go_upto_region 1 with fail
  rw [← hW]
  clear hW
  go_wp2_with fail
  refine Calls.mono kB.out ?_
  clear kB
  rintro e w1 ⟨kr, br, sr, mr, xr, lr, cr, nr, yr, jr, dr, rfl, hP, hb1⟩
  obtain ⟨W2, hW2⟩ : ∃ W2, W2 = w1.alloc (.cells #[.int .i64 kr, .bool br, .string sr, .bool mr, .slice xr lr cr, .bool nr, .slice yr jr dr] 42) := ⟨_, rfl⟩
  have hb2 : Below w1.heap.size w1 W2 := by rw [hW2]; exact (Below.refl _ _).alloc (Nat.le_refl _) _
  have q2' : W2.heap[w1.heap.size]? = some (.cells #[.int .i64 kr, .bool br, .string sr, .bool mr, .slice xr lr cr, .bool nr, .slice yr jr dr] 42 (0, 0)) := by rw [hW2]; exact newAt _ _
  have zk : Hid (Below W.heap.size W W2) := bthen hb1 hb2
  have hPh : Hid (P W2 (.agg #[.int .i64 kr, .bool br, .string sr, .bool mr, .slice xr lr cr, .bool nr, .slice yr jr dr])) := hPn.out _ _ _ hb2 hP
  have kS : Hid (Calls Tryz.prog 37 #[.agg #[.int .i64 kr, .bool br, .string sr, .bool mr, .slice xr lr cr, .bool nr, .slice yr jr dr]] W2 _) := hS.out W2 kr br sr mr xr lr cr nr yr jr dr hPh.out
  obtain ⟨⟨g0, g1, g2, g3, g4, g5, g6⟩, _, _⟩ := cells7 q2'
  clear hP hb1 hb2 q2' p0 p1 p2 p3 p4 p5 p6
  go_upto_region 2 with fail
  rw [← hW2]
  clear hW2
  generalize w1.heap.size = pC at *
  go_wp2_with fail
  refine Calls.mono kS.out ?_
  clear kS
  rintro e w3 ⟨rfl, hb3⟩
  replace g0 := keep_cell hb3 g0
  replace g1 := keep_cell hb3 g1
  replace g2 := keep_cell hb3 g2
  replace g3 := keep_cell hb3 g3
  replace g4 := keep_cell hb3 g4
  replace g5 := keep_cell hb3 g5
  replace g6 := keep_cell hb3 g6
  replace zk : Hid (Below W.heap.size W w3) := bthen zk.out hb3
  replace hPh : Hid (P w3 (.agg #[.int .i64 kr, .bool br, .string sr, .bool mr, .slice xr lr cr, .bool nr, .slice yr jr dr])) := hPn.out _ _ _ hb3 hPh.out
  clear hb3
  have q6 := keep_heap zk.out hall.out.2
  obtain ⟨⟨z0, z1, z2, z3, z4, z5, z6⟩, fz, _⟩ := cells7 q6
  have fz0 := fz 0
  have fz1 := fz 1
  have fz2 := fz 2
  have fz3 := fz 3
  have fz4 := fz 4
  have fz5 := fz 5
  have fz6 := fz 6
  clear fz
  obtain ⟨W8, hW8⟩ : ∃ W8, W8 = put7 w3 (w.heap.size + 1) (.int .i64 kr) (.bool br) (.string sr) (.bool mr) (.slice xr lr cr) (.bool nr) (.slice yr jr dr) := ⟨_, rfl⟩
  have hqW8 : Hid (W8.heap[w.heap.size + 1]? = some (.cells #[.int .i64 kr, .bool br, .string sr, .bool mr, .slice xr lr cr, .bool nr, .slice yr jr dr] 42 (0, 0))) := by show _ = _; rw [hW8]; exact put7_at q6
  have hBW8 : Hid (Below w.heap.size w W8 ∧ P W8 (.agg #[.int .i64 kr, .bool br, .string sr, .bool mr, .slice xr lr cr, .bool nr, .slice yr jr dr])) := by
    show _ ∧ _
    rw [hW8]
    exact ⟨put7_below (bthen hall.out.1 zk.out) (by omega), hPp.out _ _ _ _ _ _ _ _ _ _ ⟨_, _, _, _, _, _, _, _, _, _, _, q6⟩ hPh.out⟩
  clear q6 zk hall hPh hPn hPp hS
  go_wp2
  unfold put7 at hW8
  rw [← hW8]
  obtain ⟨⟨i0, i1, i2, i3, i4, i5, i6⟩, _, _⟩ := cells7 hqW8.out
  exact bodyPost_ret (v := .tuple #[.agg #[.int .i64 kr, .bool br, .string sr, .bool mr, .slice xr lr cr, .bool nr, .slice yr jr dr], .bool true]) (by simp [results, Tryz.results14, go_sem, i0, i1, i2, i3, i4, i5, i6]) rfl ⟨_, rfl, hBW8.out.2, hBW8.out.1⟩
end Go.Proofs.YtclokcoimdjaeaaGreatDoor
namespace Go.Proofs.YtclokcoimdjaeaaGreatDoor
set_option linter.unusedVariables false
open Go.RowKit
attribute [local go_sem ↓] Go.wp_at_zero Go.wp_at_succ
theorem small_str (s : ByteArray) (w : World) (hs : s.size ≤ 65536) : Calls Tryz.prog 37 #[cStr s] w fun e w' => e = .returned (.bool true) ∧ Below w.heap.size w w' :=
  small37_any (ratR_nil w 0) (by decide) hs
set_option maxRecDepth 20000 in
set_option maxHeartbeats 4000000 in
theorem small_long (s : ByteArray) (w : World) (hs : 65536 < s.size) : Calls Tryz.prog 37 #[cStr s] w fun e w' => e = .returned (.bool false) ∧ Below w.heap.size w w' := by
  unfold cStr
  obtain ⟨W, hW⟩ : ∃ W, W = w.alloc (.cells #[.int .i64 2, .bool false, .string s, .bool false, .slice none 0 0, .bool false, .slice none 0 0] 42) := ⟨_, rfl⟩
  have hb : Hid (Below w.heap.size w W) := by show Below _ _ _; rw [hW]; exact (Below.refl _ _).alloc (Nat.le_refl _) _
  have hq : W.heap[w.heap.size]? = some (.cells #[.int .i64 2, .bool false, .string s, .bool false, .slice none 0 0, .bool false, .slice none 0 0] 42 (0, 0)) := by rw [hW]; exact newAt _ _
  obtain ⟨⟨p0, p1, p2, p3, p4, p5, p6⟩, _, _⟩ := cells7 hq
  have d1 : decide ((s.size : Int) ≤ 65536) = false := decide_eq_false (by omega)
  clear hq hs
  go_enter Tryz.func37, Tryz.ntmps37
  go_upto_region 1 with fail
  rw [← hW]
  clear hW
  go_wp2
  exact bodyPost_ret (v := .bool false) (by simp [results, Tryz.results37, go_sem]) rfl ⟨rfl, hb.out⟩
set_option maxRecDepth 20000 in
set_option maxHeartbeats 4000000 in
theorem To30_str (s : ByteArray) (w : World) : Calls Tryz.prog 30 #[cStr s] w fun e w' => e = .returned (cStr s) ∧ Below w.heap.size w w' := by
  unfold cStr
  obtain ⟨W, hW, hqa, hqb, hbW, hsz⟩ := two_new (w := w) (A := .cells #[.int .i64 2, .bool false, .string s, .bool false, .slice none 0 0, .bool false, .slice none 0 0] 42) (B := .cells #[.int .i64 0, .bool false, .string ⟨#[]⟩, .bool false, .slice none 0 0, .bool false, .slice none 0 0] 32)
  obtain ⟨⟨p0, p1, p2, p3, p4, p5, p6⟩, _, _⟩ := cells7 hqa
  have hall : Hid (Below w.heap.size w W ∧ W.heap[w.heap.size + 1]? = some (.cells #[.int .i64 0, .bool false, .string ⟨#[]⟩, .bool false, .slice none 0 0, .bool false, .slice none 0 0] 32 (0, 0))) := ⟨hbW, hqb⟩
  clear hqa hqb hbW hsz
  go_enter Tryz.func30, Tryz.ntmps30
  go_upto_region 1 with fail
  rw [← hW]
  clear hW
  obtain ⟨W2, hW2⟩ : ∃ W2, W2 = W.alloc (.cells #[.int .i64 2, .bool false, .string s, .bool false, .slice none 0 0, .bool false, .slice none 0 0] 32) := ⟨_, rfl⟩
  have hb2 : Below W.heap.size W W2 := by rw [hW2]; exact (Below.refl _ _).alloc (Nat.le_refl _) _
  have q6 := keep_heap hb2 hall.out.2
  have hq2 : W2.heap[W.heap.size]? = some (.cells #[.int .i64 2, .bool false, .string s, .bool false, .slice none 0 0, .bool false, .slice none 0 0] 32 (0, 0)) := by rw [hW2]; exact newAt _ _
  have p0' := keep_cell hb2 p0
  obtain ⟨⟨g0, g1, g2, g3, g4, g5, g6⟩, _, _⟩ := cells7 hq2
  obtain ⟨⟨z0, z1, z2, z3, z4, z5, z6⟩, fz, _⟩ := cells7 q6
  have fz0 := fz 0
  have fz1 := fz 1
  have fz2 := fz 2
  have fz3 := fz 3
  have fz4 := fz 4
  have fz5 := fz 5
  have fz6 := fz 6
  clear fz
  obtain ⟨W8, hW8⟩ : ∃ W8, W8 = put7 W2 (w.heap.size + 1) (.int .i64 2) (.bool false) (.string s) (.bool false) (.slice none 0 0) (.bool false) (.slice none 0 0) := ⟨_, rfl⟩
  have hqW8 : Hid (W8.heap[w.heap.size + 1]? = some (.cells #[.int .i64 2, .bool false, .string s, .bool false, .slice none 0 0, .bool false, .slice none 0 0] 32 (0, 0))) := by show _ = _; rw [hW8]; exact put7_at q6
  have hBW8 : Hid (Below w.heap.size w W8) := by show Below _ _ _; rw [hW8]; exact put7_below (bthen hall.out.1 hb2) (by omega)
  clear q6 hall hb2 hq2
  go_upto_region 2 with fail
  rw [← hW2]
  clear hW2
  generalize W.heap.size = pX at *
  go_wp2
  unfold put7 at hW8
  rw [← hW8]
  obtain ⟨⟨i0, i1, i2, i3, i4, i5, i6⟩, _, _⟩ := cells7 hqW8.out
  exact bodyPost_ret (v := .agg #[.int .i64 2, .bool false, .string s, .bool false, .slice none 0 0, .bool false, .slice none 0 0]) (by simp [results, Tryz.results30, go_sem, i0, i1, i2, i3, i4, i5, i6]) rfl ⟨rfl, hBW8.out⟩
def VStr (s : ByteArray) (pA pC pX : Nat) (t : Nat) (v : Value) (w : World) : Prop := match t with
  | 2 => v = .pointer (some ⟨pA, 0, none⟩)
  | 3 => v = .pointer (some ⟨pC, 0, none⟩)
  | 4 => v = .bool true
  | 5 => v = .pointer (some ⟨pX, 0, none⟩)
  | 8 => v = .pointer (some ⟨pA, 0, none⟩)
  | 9 => v = .int .i64 2
  | 10 => v = .pointer (some ⟨pX, 0, none⟩)
  | 11 => v = .int .i64 2
  | 12 => v = .bool true
  | 13 => v = .bool true
  | 14 => v = .pointer (some ⟨pA, 1, none⟩)
  | 15 => v = .bool false
  | 16 => v = .pointer (some ⟨pX, 1, none⟩)
  | 17 => v = .bool false
  | 18 => v = .bool true
  | 19 => v = .bool true
  | 20 => v = .bool true
  | 21 => v = .pointer (some ⟨pA, 2, none⟩)
  | 22 => v = .string s
  | 23 => v = .pointer (some ⟨pX, 2, none⟩)
  | 24 => v = .string s
  | 25 => v = .bool true
  | 26 => v = .bool true
  | 27 => v = .bool true
  | 28 => v = .pointer (some ⟨pX, 0, none⟩)
  | 29 => v = .int .i64 2
  | 30 => v = .bool false
  | 31 => v = .bool false
  | 32 => v = .pointer (some ⟨pX, 0, none⟩)
  | 33 => v = .int .i64 2
  | 34 => v = .bool false
  | 35 => v = .bool false
  | 36 => v = .pointer (some ⟨pA, 3, none⟩)
  | 37 => v = .agg #[.bool false, .slice none 0 0, .bool false, .slice none 0 0]
  | 38 => v = .bool true
  | 39 => v = .bool false
  | 40 => v = .bool true
  | 41 => v = .bool true
  | 42 => v = .bool true
  | 43 => v = .pointer (some ⟨pA, 3, none⟩)
  | 44 => v = .agg #[.bool false, .slice none 0 0, .bool false, .slice none 0 0]
  | 45 => v = .bool true
  | 46 => v = .bool true
  | 52 => v = .bool true
  | 53 => v = .bool true
  | _ => True
theorem VStr_next (s : ByteArray) (pA pC pX : Nat) (t : Nat) (v : Value) (w w' : World) (hb : Below w.heap.size w w') (h : VStr s pA pC pX t v w) : VStr s pA pC pX t v w' := by
  unfold VStr at h ⊢
  split at h <;> first | exact h | trivial
set_option maxRecDepth 20000 in
set_option maxHeartbeats 4000000 in
theorem Is38_str (s : ByteArray) (w : World) : Calls Tryz.prog 38 #[cStr s, cStr s] w fun e w' => e = .returned (.bool true) ∧ Below w.heap.size w w' := by
  obtain ⟨W, hW, hqa, hqc, hbW, hsz⟩ := two_new (w := w) (A := .cells #[.int .i64 2, .bool false, .string s, .bool false, .slice none 0 0, .bool false, .slice none 0 0] 32) (B := .cells #[.int .i64 2, .bool false, .string s, .bool false, .slice none 0 0, .bool false, .slice none 0 0] 42)
  have kT : Hid (Calls Tryz.prog 30 #[.agg #[.int .i64 2, .bool false, .string s, .bool false, .slice none 0 0, .bool false, .slice none 0 0]] W _) := To30_str s W
  have qA : Hid (W.heap[w.heap.size]? = some (.cells #[.int .i64 2, .bool false, .string s, .bool false, .slice none 0 0, .bool false, .slice none 0 0] 32 (0, 0))) := hqa
  have zz : Hid (Below w.heap.size w W) := hbW
  obtain ⟨⟨p0, p1, p2, p3, p4, p5, p6⟩, _, _⟩ := cells7 hqc
  clear hqa hqc hbW hsz
  unfold cStr
  go_enter Tryz.func38, Tryz.ntmps38
  go_upto_region 1 with fail
  rw [← hW]
  clear hW
  go_wp2_with fail
  refine Calls.mono kT.out ?_
  clear kT p0 p1 p2 p3 p4 p5 p6
  rintro e w1 ⟨he, hb1⟩
  unfold cStr at he
  subst he
  obtain ⟨W2, hW2⟩ : ∃ W2, W2 = w1.alloc (.cells #[.int .i64 2, .bool false, .string s, .bool false, .slice none 0 0, .bool false, .slice none 0 0] 32) := ⟨_, rfl⟩
  have hb2 : Below w1.heap.size w1 W2 := by rw [hW2]; exact (Below.refl _ _).alloc (Nat.le_refl _) _
  have qX : Hid (W2.heap[w1.heap.size]? = some (.cells #[.int .i64 2, .bool false, .string s, .bool false, .slice none 0 0, .bool false, .slice none 0 0] 32 (0, 0))) := by show _ = _; rw [hW2]; exact newAt _ _
  have kk := bthen hb1 hb2
  replace qA : Hid (W2.heap[w.heap.size]? = some (.cells #[.int .i64 2, .bool false, .string s, .bool false, .slice none 0 0, .bool false, .slice none 0 0] 32 (0, 0))) := keep_heap kk qA.out
  replace zz : Hid (Below w.heap.size w W2) := bthen zz.out kk
  go_upto_region 2 with fail
  rw [← hW2]
  clear hW2 hb1 hb2 kk
  generalize w1.heap.size = pX at *
  refine wp_region_typed (VStr s w.heap.size (w.heap.size + 1) pX) [2, 3, 5] 54 (by kernel_rfl) (by kernel_rfl) rfl (VStr_next _ _ _ _) ?hstart ?hstep ?hend
  case hstart =>
   intro t ht
   simp only [List.mem_cons, List.not_mem_nil, or_false] at ht
   rcases ht with rfl | rfl | rfl <;> rfl
  case hstep =>
   refine steps_cons ?s0 (steps_cons ?s1 (steps_cons ?s2 (steps_cons ?s3 (steps_cons ?s4 (steps_cons ?s5 (steps_cons ?s6 (steps_cons ?s7 (steps_cons ?s8 (steps_cons ?s9 (steps_cons ?s10 (steps_cons ?s11 (steps_cons ?s12 (steps_cons ?s13 (steps_cons ?s14 (steps_cons ?s15 (steps_cons ?s16 (steps_cons ?s17 (steps_cons ?s18 (steps_cons ?s19 (steps_cons ?s20 (steps_cons ?s21 (steps_cons ?s22 (steps_cons ?s23 (steps_cons ?s24 (steps_cons ?s25 (steps_cons ?s26 (steps_cons ?s27 (steps_cons ?s28 (steps_cons ?s29 (steps_cons ?s30 (steps_cons ?s31 (steps_cons ?s32 (steps_cons ?s33 (steps_cons ?s34 (steps_cons ?s35 (steps_cons ?s36 (steps_cons ?s37 (steps_cons ?s38 (steps_cons ?s39 (steps_cons ?s40 (steps_cons ?s41 (steps_cons ?s42 (steps_cons ?s43 (steps_cons ?s44 (steps_cons ?s45 (steps_cons ?s46 steps_nil))))))))))))))))))))))))))))))))))))))))))))))
   case s0 =>
    refine StepOk.of (guard_none rfl) fun b w' hsz hW hl K hK => ?_
    clear hsz
    unfold Oper.wp
    have e2 : b.tmps[2]?.getD undef = .pointer (some ⟨w.heap.size, 0, none⟩) := getD' (look hl 2 (by kernel_rfl))
    go_simp
    exact hK _ _ (Below.refl _ _) (dst_eq rfl (by first | rfl | decide))
   case s1 =>
    refine StepOk.of (guard_none rfl) fun b w' hsz hW hl K hK => ?_
    clear hsz
    unfold Oper.wp
    have e8 : b.tmps[8]?.getD undef = .pointer (some ⟨w.heap.size, 0, none⟩) := getD' (look hl 8 (by kernel_rfl))
    obtain ⟨⟨z0, z1, z2, z3, z4, z5, z6⟩, _, _⟩ := cells7 (keep_heap hW qA.out)
    go_simp
    exact hK _ _ (Below.refl _ _) (dst_eq rfl rfl)
   case s2 =>
    refine StepOk.of (guard_none rfl) fun b w' hsz hW hl K hK => ?_
    clear hsz
    unfold Oper.wp
    have e5 : b.tmps[5]?.getD undef = .pointer (some ⟨pX, 0, none⟩) := getD' (look hl 5 (by kernel_rfl))
    go_simp
    exact hK _ _ (Below.refl _ _) (dst_eq rfl (by first | rfl | decide))
   case s3 =>
    refine StepOk.of (guard_none rfl) fun b w' hsz hW hl K hK => ?_
    clear hsz
    unfold Oper.wp
    have e10 : b.tmps[10]?.getD undef = .pointer (some ⟨pX, 0, none⟩) := getD' (look hl 10 (by kernel_rfl))
    obtain ⟨⟨z0, z1, z2, z3, z4, z5, z6⟩, _, _⟩ := cells7 (keep_heap hW qX.out)
    go_simp
    exact hK _ _ (Below.refl _ _) (dst_eq rfl rfl)
   case s4 =>
    refine StepOk.of (guard_none rfl) fun b w' hsz hW hl K hK => ?_
    clear hsz
    unfold Oper.wp
    have e9 : b.tmps[9]?.getD undef = .int .i64 2 := getD' (look hl 9 (by kernel_rfl))
    have e11 : b.tmps[11]?.getD undef = .int .i64 2 := getD' (look hl 11 (by kernel_rfl))
    go_simp
    exact hK _ _ (Below.refl _ _) (dst_eq rfl (by first | rfl | decide))
   case s5 => exact step_move 12 13 rfl rfl (guard_none rfl) (by kernel_rfl) (fun v w h => h)
   case s6 =>
    refine StepOk.of (guard_open 5 13 true rfl (by kernel_rfl) (by kernel_rfl) (fun v w h => h)) fun b w' hsz hW hl K hK => ?_
    clear hsz
    unfold Oper.wp
    have e2 : b.tmps[2]?.getD undef = .pointer (some ⟨w.heap.size, 0, none⟩) := getD' (look hl 2 (by kernel_rfl))
    go_simp
    exact hK _ _ (Below.refl _ _) (dst_eq rfl (by first | rfl | decide))
   case s7 =>
    refine StepOk.of (guard_open 5 13 true rfl (by kernel_rfl) (by kernel_rfl) (fun v w h => h)) fun b w' hsz hW hl K hK => ?_
    clear hsz
    unfold Oper.wp
    have e14 : b.tmps[14]?.getD undef = .pointer (some ⟨w.heap.size, 1, none⟩) := getD' (look hl 14 (by kernel_rfl))
    obtain ⟨⟨z0, z1, z2, z3, z4, z5, z6⟩, _, _⟩ := cells7 (keep_heap hW qA.out)
    go_simp
    exact hK _ _ (Below.refl _ _) (dst_eq rfl rfl)
   case s8 =>
    refine StepOk.of (guard_open 5 13 true rfl (by kernel_rfl) (by kernel_rfl) (fun v w h => h)) fun b w' hsz hW hl K hK => ?_
    clear hsz
    unfold Oper.wp
    have e5 : b.tmps[5]?.getD undef = .pointer (some ⟨pX, 0, none⟩) := getD' (look hl 5 (by kernel_rfl))
    go_simp
    exact hK _ _ (Below.refl _ _) (dst_eq rfl (by first | rfl | decide))
   case s9 =>
    refine StepOk.of (guard_open 5 13 true rfl (by kernel_rfl) (by kernel_rfl) (fun v w h => h)) fun b w' hsz hW hl K hK => ?_
    clear hsz
    unfold Oper.wp
    have e16 : b.tmps[16]?.getD undef = .pointer (some ⟨pX, 1, none⟩) := getD' (look hl 16 (by kernel_rfl))
    obtain ⟨⟨z0, z1, z2, z3, z4, z5, z6⟩, _, _⟩ := cells7 (keep_heap hW qX.out)
    go_simp
    exact hK _ _ (Below.refl _ _) (dst_eq rfl rfl)
   case s10 =>
    refine StepOk.of (guard_open 5 13 true rfl (by kernel_rfl) (by kernel_rfl) (fun v w h => h)) fun b w' hsz hW hl K hK => ?_
    clear hsz
    unfold Oper.wp
    have e15 : b.tmps[15]?.getD undef = .bool false := getD' (look hl 15 (by kernel_rfl))
    have e17 : b.tmps[17]?.getD undef = .bool false := getD' (look hl 17 (by kernel_rfl))
    go_simp
    exact hK _ _ (Below.refl _ _) (dst_eq rfl (by first | rfl | decide))
   case s11 => exact step_pick 13 18 19 (.const (.bool false)) rfl rfl (guard_none rfl) (by kernel_rfl) (by kernel_rfl) (fun v w h => h) (fun v w h => h)
   case s12 => exact step_move 19 20 rfl rfl (guard_none rfl) (by kernel_rfl) (fun v w h => h)
   case s13 =>
    refine StepOk.of (guard_open 12 20 true rfl (by kernel_rfl) (by kernel_rfl) (fun v w h => h)) fun b w' hsz hW hl K hK => ?_
    clear hsz
    unfold Oper.wp
    have e2 : b.tmps[2]?.getD undef = .pointer (some ⟨w.heap.size, 0, none⟩) := getD' (look hl 2 (by kernel_rfl))
    go_simp
    exact hK _ _ (Below.refl _ _) (dst_eq rfl (by first | rfl | decide))
   case s14 =>
    refine StepOk.of (guard_open 12 20 true rfl (by kernel_rfl) (by kernel_rfl) (fun v w h => h)) fun b w' hsz hW hl K hK => ?_
    clear hsz
    unfold Oper.wp
    have e21 : b.tmps[21]?.getD undef = .pointer (some ⟨w.heap.size, 2, none⟩) := getD' (look hl 21 (by kernel_rfl))
    obtain ⟨⟨z0, z1, z2, z3, z4, z5, z6⟩, _, _⟩ := cells7 (keep_heap hW qA.out)
    go_simp
    exact hK _ _ (Below.refl _ _) (dst_eq rfl rfl)
   case s15 =>
    refine StepOk.of (guard_open 12 20 true rfl (by kernel_rfl) (by kernel_rfl) (fun v w h => h)) fun b w' hsz hW hl K hK => ?_
    clear hsz
    unfold Oper.wp
    have e5 : b.tmps[5]?.getD undef = .pointer (some ⟨pX, 0, none⟩) := getD' (look hl 5 (by kernel_rfl))
    go_simp
    exact hK _ _ (Below.refl _ _) (dst_eq rfl (by first | rfl | decide))
   case s16 =>
    refine StepOk.of (guard_open 12 20 true rfl (by kernel_rfl) (by kernel_rfl) (fun v w h => h)) fun b w' hsz hW hl K hK => ?_
    clear hsz
    unfold Oper.wp
    have e23 : b.tmps[23]?.getD undef = .pointer (some ⟨pX, 2, none⟩) := getD' (look hl 23 (by kernel_rfl))
    obtain ⟨⟨z0, z1, z2, z3, z4, z5, z6⟩, _, _⟩ := cells7 (keep_heap hW qX.out)
    go_simp
    exact hK _ _ (Below.refl _ _) (dst_eq rfl rfl)
   case s17 =>
    refine StepOk.of (guard_open 12 20 true rfl (by kernel_rfl) (by kernel_rfl) (fun v w h => h)) fun b w' hsz hW hl K hK => ?_
    clear hsz
    unfold Oper.wp
    have e22 : b.tmps[22]?.getD undef = .string s := getD' (look hl 22 (by kernel_rfl))
    have e24 : b.tmps[24]?.getD undef = .string s := getD' (look hl 24 (by kernel_rfl))
    have es : (s.toList == s.toList) = true := by simp
    go_simp
    exact hK _ _ (Below.refl _ _) (dst_eq rfl rfl)
   case s18 => exact step_pick 20 25 26 (.const (.bool false)) rfl rfl (guard_none rfl) (by kernel_rfl) (by kernel_rfl) (fun v w h => h) (fun v w h => h)
   case s19 => exact step_move 26 27 rfl rfl (guard_none rfl) (by kernel_rfl) (fun v w h => h)
   case s20 =>
    refine StepOk.of (guard_open 19 27 true rfl (by kernel_rfl) (by kernel_rfl) (fun v w h => h)) fun b w' hsz hW hl K hK => ?_
    clear hsz
    unfold Oper.wp
    have e5 : b.tmps[5]?.getD undef = .pointer (some ⟨pX, 0, none⟩) := getD' (look hl 5 (by kernel_rfl))
    go_simp
    exact hK _ _ (Below.refl _ _) (dst_eq rfl (by first | rfl | decide))
   case s21 =>
    refine StepOk.of (guard_open 19 27 true rfl (by kernel_rfl) (by kernel_rfl) (fun v w h => h)) fun b w' hsz hW hl K hK => ?_
    clear hsz
    unfold Oper.wp
    have e28 : b.tmps[28]?.getD undef = .pointer (some ⟨pX, 0, none⟩) := getD' (look hl 28 (by kernel_rfl))
    obtain ⟨⟨z0, z1, z2, z3, z4, z5, z6⟩, _, _⟩ := cells7 (keep_heap hW qX.out)
    go_simp
    exact hK _ _ (Below.refl _ _) (dst_eq rfl rfl)
   case s22 =>
    refine StepOk.of (guard_open 19 27 true rfl (by kernel_rfl) (by kernel_rfl) (fun v w h => h)) fun b w' hsz hW hl K hK => ?_
    clear hsz
    unfold Oper.wp
    have e29 : b.tmps[29]?.getD undef = .int .i64 2 := getD' (look hl 29 (by kernel_rfl))
    go_simp
    exact hK _ _ (Below.refl _ _) (dst_eq rfl (by first | rfl | decide))
   case s23 => exact step_move 30 31 rfl rfl (guard_open 19 27 true rfl (by kernel_rfl) (by kernel_rfl) (fun v w h => h)) (by kernel_rfl) (fun v w h => h)
   case s24 =>
    refine StepOk.of (guard_open 23 31 false rfl (by kernel_rfl) (by kernel_rfl) (fun v w h => h)) fun b w' hsz hW hl K hK => ?_
    clear hsz
    unfold Oper.wp
    have e5 : b.tmps[5]?.getD undef = .pointer (some ⟨pX, 0, none⟩) := getD' (look hl 5 (by kernel_rfl))
    go_simp
    exact hK _ _ (Below.refl _ _) (dst_eq rfl (by first | rfl | decide))
   case s25 =>
    refine StepOk.of (guard_open 23 31 false rfl (by kernel_rfl) (by kernel_rfl) (fun v w h => h)) fun b w' hsz hW hl K hK => ?_
    clear hsz
    unfold Oper.wp
    have e32 : b.tmps[32]?.getD undef = .pointer (some ⟨pX, 0, none⟩) := getD' (look hl 32 (by kernel_rfl))
    obtain ⟨⟨z0, z1, z2, z3, z4, z5, z6⟩, _, _⟩ := cells7 (keep_heap hW qX.out)
    go_simp
    exact hK _ _ (Below.refl _ _) (dst_eq rfl rfl)
   case s26 =>
    refine StepOk.of (guard_open 23 31 false rfl (by kernel_rfl) (by kernel_rfl) (fun v w h => h)) fun b w' hsz hW hl K hK => ?_
    clear hsz
    unfold Oper.wp
    have e33 : b.tmps[33]?.getD undef = .int .i64 2 := getD' (look hl 33 (by kernel_rfl))
    go_simp
    exact hK _ _ (Below.refl _ _) (dst_eq rfl (by first | rfl | decide))
   case s27 => exact step_pickE 31 34 35 (.const (.bool true)) rfl rfl (guard_open 19 27 true rfl (by kernel_rfl) (by kernel_rfl) (fun v w h => h)) (by kernel_rfl) (by kernel_rfl) (fun v w h => h) (fun v w h => h)
   case s28 =>
    refine StepOk.of (guard_open 19 27 true rfl (by kernel_rfl) (by kernel_rfl) (fun v w h => h)) fun b w' hsz hW hl K hK => ?_
    clear hsz
    unfold Oper.wp
    have e2 : b.tmps[2]?.getD undef = .pointer (some ⟨w.heap.size, 0, none⟩) := getD' (look hl 2 (by kernel_rfl))
    go_simp
    exact hK _ _ (Below.refl _ _) (dst_eq rfl (by first | rfl | decide))
   case s29 =>
    refine StepOk.of (guard_open 19 27 true rfl (by kernel_rfl) (by kernel_rfl) (fun v w h => h)) fun b w' hsz hW hl K hK => ?_
    clear hsz
    unfold Oper.wp
    have e36 : b.tmps[36]?.getD undef = .pointer (some ⟨w.heap.size, 3, none⟩) := getD' (look hl 36 (by kernel_rfl))
    obtain ⟨⟨z0, z1, z2, z3, z4, z5, z6⟩, _, _⟩ := cells7 (keep_heap hW qA.out)
    go_simp
    exact hK _ _ (Below.refl _ _) (dst_eq rfl rfl)
   case s30 => exact step_call1 83 37 38 _ (by kernel_rfl) rfl rfl (guard_open 19 27 true rfl (by kernel_rfl) (by kernel_rfl) (fun v w h => h)) (by kernel_rfl) (fun v w' hB' hv => by have hv : v = .agg #[.bool false, .slice none 0 0, .bool false, .slice none 0 0] := hv; subst hv; exact (empty_any w' false none 0 0 false none 0 0 true rfl).mono fun e w'' h => ⟨_, h.1, rfl, h.2⟩)
   case s31 =>
    refine StepOk.of (guard_open 19 27 true rfl (by kernel_rfl) (by kernel_rfl) (fun v w h => h)) fun b w' hsz hW hl K hK => ?_
    clear hsz
    unfold Oper.wp
    have e38 : b.tmps[38]?.getD undef = .bool true := getD' (look hl 38 (by kernel_rfl))
    go_simp
    exact hK _ _ (Below.refl _ _) (dst_eq rfl (by first | rfl | decide))
   case s32 =>
    refine StepOk.of (guard_open 19 27 true rfl (by kernel_rfl) (by kernel_rfl) (fun v w h => h)) fun b w' hsz hW hl K hK => ?_
    clear hsz
    unfold Oper.wp
    have e35 : b.tmps[35]?.getD undef = .bool false := getD' (look hl 35 (by kernel_rfl))
    have e39 : b.tmps[39]?.getD undef = .bool false := getD' (look hl 39 (by kernel_rfl))
    go_simp
    exact hK _ _ (Below.refl _ _) (dst_eq rfl (by first | rfl | decide))
   case s33 => exact step_pick 27 40 41 (.const (.bool false)) rfl rfl (guard_none rfl) (by kernel_rfl) (by kernel_rfl) (fun v w h => h) (fun v w h => h)
   case s34 => exact step_move 41 42 rfl rfl (guard_none rfl) (by kernel_rfl) (fun v w h => h)
   case s35 =>
    refine StepOk.of (guard_open 34 42 true rfl (by kernel_rfl) (by kernel_rfl) (fun v w h => h)) fun b w' hsz hW hl K hK => ?_
    clear hsz
    unfold Oper.wp
    have e2 : b.tmps[2]?.getD undef = .pointer (some ⟨w.heap.size, 0, none⟩) := getD' (look hl 2 (by kernel_rfl))
    go_simp
    exact hK _ _ (Below.refl _ _) (dst_eq rfl (by first | rfl | decide))
   case s36 =>
    refine StepOk.of (guard_open 34 42 true rfl (by kernel_rfl) (by kernel_rfl) (fun v w h => h)) fun b w' hsz hW hl K hK => ?_
    clear hsz
    unfold Oper.wp
    have e43 : b.tmps[43]?.getD undef = .pointer (some ⟨w.heap.size, 3, none⟩) := getD' (look hl 43 (by kernel_rfl))
    obtain ⟨⟨z0, z1, z2, z3, z4, z5, z6⟩, _, _⟩ := cells7 (keep_heap hW qA.out)
    go_simp
    exact hK _ _ (Below.refl _ _) (dst_eq rfl rfl)
   case s37 => exact step_call1 83 44 45 _ (by kernel_rfl) rfl rfl (guard_open 34 42 true rfl (by kernel_rfl) (by kernel_rfl) (fun v w h => h)) (by kernel_rfl) (fun v w' hB' hv => by have hv : v = .agg #[.bool false, .slice none 0 0, .bool false, .slice none 0 0] := hv; subst hv; exact (empty_any w' false none 0 0 false none 0 0 true rfl).mono fun e w'' h => ⟨_, h.1, rfl, h.2⟩)
   case s38 => exact step_move 45 46 rfl rfl (guard_open 34 42 true rfl (by kernel_rfl) (by kernel_rfl) (fun v w h => h)) (by kernel_rfl) (fun v w h => h)
   case s39 => exact step_shut 38 46 47 false rfl (by kernel_rfl) (by kernel_rfl) (fun v w h => by rw [show v = .bool true from h]; intro hh; cases hh) rfl (fun w => trivial)
   case s40 => exact step_shut 38 46 48 false rfl (by kernel_rfl) (by kernel_rfl) (fun v w h => by rw [show v = .bool true from h]; intro hh; cases hh) rfl (fun w => trivial)
   case s41 => exact step_shut 38 46 49 false rfl (by kernel_rfl) (by kernel_rfl) (fun v w h => by rw [show v = .bool true from h]; intro hh; cases hh) rfl (fun w => trivial)
   case s42 => exact step_shut 38 46 50 false rfl (by kernel_rfl) (by kernel_rfl) (fun v w h => by rw [show v = .bool true from h]; intro hh; cases hh) rfl (fun w => trivial)
   case s43 => exact step_shut 38 46 51 false rfl (by kernel_rfl) (by kernel_rfl) (fun v w h => by rw [show v = .bool true from h]; intro hh; cases hh) rfl (fun w => trivial)
   case s44 => exact step_pickC 46 52 (.bool true) (.tmp 51) rfl rfl (guard_open 34 42 true rfl (by kernel_rfl) (by kernel_rfl) (fun v w h => h)) (by kernel_rfl) (fun v w h => h) (fun w => rfl)
   case s45 => exact step_pick 42 52 53 (.const (.bool false)) rfl rfl (guard_none rfl) (by kernel_rfl) (by kernel_rfl) (fun v w h => h) (fun v w h => h)
   case s46 => exact step_assign 53 4 rfl rfl (guard_none rfl) (by kernel_rfl) (fun v w h => h)
  case hend =>
   intro b w' hs hd hW hv
   have h0 : b.tmps.getD 4 undef = .bool true := hv 4 (.inr ⟨46, _, rfl, rfl⟩)
   rw [Array.getD_eq_getD_getElem?] at h0
   go_wp2
   exact bodyPost_ret (v := .bool true) (by simp [results, Tryz.results38, go_sem, h0]) hd ⟨rfl, bthen zz.out hW⟩
set_option maxRecDepth 20000 in
set_option maxHeartbeats 4000000 in
theorem is12_str (s : ByteArray) (w : World) : Calls Tryz.prog 12 #[cStr s, .bool true, cStr s, .bool true] w fun e w' => e = .returned (.bool true) ∧ Below w.heap.size w w' := by
  obtain ⟨W, hW, hqa, hqc, hbW, hsz⟩ := two_new (w := w) (A := .cells #[.int .i64 2, .bool false, .string s, .bool false, .slice none 0 0, .bool false, .slice none 0 0] 32) (B := .cells #[.int .i64 2, .bool false, .string s, .bool false, .slice none 0 0, .bool false, .slice none 0 0] 42)
  obtain ⟨⟨p0, p1, p2, p3, p4, p5, p6⟩, _, _⟩ := cells7 hqa
  obtain ⟨⟨q0, q1, q2, q3, q4, q5, q6⟩, _, _⟩ := cells7 hqc
  have kS : Hid (Calls Tryz.prog 38 #[.agg #[.int .i64 2, .bool false, .string s, .bool false, .slice none 0 0, .bool false, .slice none 0 0], .agg #[.int .i64 2, .bool false, .string s, .bool false, .slice none 0 0, .bool false, .slice none 0 0]] W fun e w' => e = .returned (.bool true) ∧ Below W.heap.size W w') := Is38_str s W
  have zz : Hid (Below w.heap.size w W) := hbW
  clear hqa hqc hbW hsz
  unfold cStr
  go_enter Tryz.func12, Tryz.ntmps12
  go_upto_region 1 with fail
  rw [← hW]
  clear hW
  go_wp2_with fail
  refine Calls.mono kS.out ?_
  clear kS
  rintro e w1 ⟨rfl, hb1⟩
  have hbh : Hid (Below W.heap.size W w1) := hb1
  clear hb1
  go_wp2
  exact bodyPost_ret (v := .bool true) (by simp [results, Tryz.results12, go_sem]) rfl ⟨rfl, bthen zz.out hbh.out⟩
end Go.Proofs.YtclokcoimdjaeaaGreatDoor
