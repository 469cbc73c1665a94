/- constants: admit. -/
import Derived.Test.YtclokcoimdjaeaaGreatDoorQdm
namespace Go.Proofs.YtclokcoimdjaeaaGreatDoor
open Go.RowKit
attribute [local go_sem ↓] Go.wp_at_zero Go.wp_at_succ
set_option maxRecDepth 20000 in
set_option maxHeartbeats 2000000 in
theorem admit_int {w : World} {n1 : Bool} {a1 : Option Addr} {l1 c1 : Nat} {n2 : Bool} {a2 : Option Addr} {l2 c2 : Nat} {n d : Int} {m : Nat} (hv : Frac w (.agg #[.bool n1, .slice a1 l1 c1, .bool n2, .slice a2 l2 c2]) n d m) (hm : m ≤ 256) (hw : (pN n d).tmod (pD d) = 0) :
    Calls Tryz.prog 41 #[.agg #[.int .i64 3, .bool false, .string ⟨#[]⟩, .bool n1, .slice a1 l1 c1, .bool n2, .slice a2 l2 c2]] w fun e w' => e = .returned (.agg #[.int .i64 3, .bool false, .string ⟨#[]⟩, .bool n1, .slice a1 l1 c1, .bool n2, .slice a2 l2 c2]) ∧ Below w.heap.size w w' := by
  obtain ⟨W0, hW0⟩ : ∃ W0, W0 = w.alloc (.cells #[.int .i64 3, .bool false, .string ⟨#[]⟩, .bool n1, .slice a1 l1 c1, .bool n2, .slice a2 l2 c2] 32) := ⟨_, rfl⟩
  have hbW0 : Below w.heap.size w W0 := by rw [hW0]; exact (Below.refl _ _).alloc (Nat.le_refl _) _
  have hs0 : W0.heap.size = w.heap.size + 1 := by rw [hW0]; simp
  have hq0 : W0.heap[w.heap.size]? = some (.cells #[.int .i64 3, .bool false, .string ⟨#[]⟩, .bool n1, .slice a1 l1 c1, .bool n2, .slice a2 l2 c2] 32 (0, 0)) := by rw [hW0]; exact newAt _ _
  obtain ⟨W, hW⟩ : ∃ W, W = W0.alloc (.cells #[.int .i64 0, .bool false, .string ⟨#[]⟩, .bool false, .slice none 0 0, .bool false, .slice none 0 0] 32) := ⟨_, rfl⟩
  have hbW : Below W0.heap.size W0 W := by rw [hW]; exact (Below.refl _ _).alloc (Nat.le_refl _) _
  have hq : W.heap[w.heap.size + 1]? = some (.cells #[.int .i64 0, .bool false, .string ⟨#[]⟩, .bool false, .slice none 0 0, .bool false, .slice none 0 0] 32 (0, 0)) := by rw [hW, ← hs0]; exact newAt _ _
  obtain ⟨⟨p0, p1, p2, p3, p4, p5, p6⟩, _, _⟩ := cells7 ((hbW.block _ (by omega)).trans hq0)
  have kA : Hid (Calls Tryz.prog 88 #[.int .i64 3, .agg #[.bool n1, .slice a1 l1 c1, .bool n2, .slice a2 l2 c2]] W _) := admitNumber_int ((hv.next hbW0).next hbW) hm hw
  have hB : Hid (Below w.heap.size w W) := hbW0.trans (hbW.mono (by omega))
  have hqh : Hid (W.heap[w.heap.size + 1]? = some (.cells #[.int .i64 0, .bool false, .string ⟨#[]⟩, .bool false, .slice none 0 0, .bool false, .slice none 0 0] 32 (0, 0))) := hq
  have hsW : Hid (w.heap.size + 1 < W.heap.size) := (Array.getElem?_eq_some_iff.1 hq).1
  clear hv hq hbW hbW0 hs0 hw hq0
  go_enter Tryz.func41, Tryz.ntmps41
  go_upto_region 1 with fail
  rw [← hW0, ← hW]
  clear hW hW0
  go_wp2_with fail
  refine Calls.mono kA.out ?_
  clear kA
  rintro e w1 ⟨rfl, hb1⟩
  have hq1 := (hb1.block _ hsW.out).trans hqh.out
  have hB1 : Hid (Below w.heap.size w w1) := hB.out.trans (hb1.mono (by have := hsW.out; omega))
  obtain ⟨⟨r0, r1, r2, r3, r4, r5, r6⟩, rf, rl⟩ := cells7 hq1
  have rf0 := rf 0
  have rf1 := rf 1
  have rf2 := rf 2
  have rf3 := rf 3
  have rf4 := rf 4
  have rf5 := rf 5
  have rf6 := rf 6
  obtain ⟨W8, hW8⟩ : ∃ W8, W8 = put7 w1 (w.heap.size + 1) (.int .i64 3) (.bool false) (.string ⟨#[]⟩) (.bool n1) (.slice a1 l1 c1) (.bool n2) (.slice a2 l2 c2) := ⟨_, rfl⟩
  have hqW8 : Hid (W8.heap[w.heap.size + 1]? = some (.cells #[.int .i64 3, .bool false, .string ⟨#[]⟩, .bool n1, .slice a1 l1 c1, .bool n2, .slice a2 l2 c2] 32 (0, 0))) := by show _ = _; rw [hW8]; exact put7_at hq1
  have hBW8 : Hid (Below w.heap.size w W8) := by
    show Below _ _ _
    rw [hW8]
    exact put7_below hB1.out (by omega)
  clear hq1 rf hb1 hqh hB hB1 p0 p1 p2 p3 p4 p5 p6
  go_wp2
  unfold put7 at hW8
  rw [← hW8]
  obtain ⟨⟨j0, j1, j2, j3, j4, j5, j6⟩, _, _⟩ := cells7 hqW8.out
  exact bodyPost_ret (v := .agg #[.int .i64 3, .bool false, .string ⟨#[]⟩, .bool n1, .slice a1 l1 c1, .bool n2, .slice a2 l2 c2]) (by simp [results, Tryz.results41, go_sem, j0, j1, j2, j3, j4, j5, j6]) rfl ⟨rfl, hBW8.out⟩
end Go.Proofs.YtclokcoimdjaeaaGreatDoor
namespace Go.Proofs.YtclokcoimdjaeaaGreatDoor
open Go.RowKit
attribute [local go_sem ↓] Go.wp_at_zero Go.wp_at_succ
set_option maxRecDepth 20000 in
set_option maxHeartbeats 2000000 in
theorem wholeOf_int {w : World} {n1 : Bool} {a1 : Option Addr} {l1 c1 : Nat} {n2 : Bool} {a2 : Option Addr} {l2 c2 : Nat} {n d : Int} {m : Nat} (hv : Frac w (.agg #[.bool n1, .slice a1 l1 c1, .bool n2, .slice a2 l2 c2]) n d m) (hm : m ≤ 256) (hw : (pN n d).tmod (pD d) = 0) :
    Calls Tryz.prog 45 #[.agg #[.int .i64 3, .bool false, .string ⟨#[]⟩, .bool n1, .slice a1 l1 c1, .bool n2, .slice a2 l2 c2]] w fun e w' => ∃ t, e = .returned t ∧ OutE w' t ((pN n d).tdiv (pD d)) (m + 3) ∧ Below w.heap.size w w' := by
  obtain ⟨W0, hW0⟩ : ∃ W0, W0 = w.alloc (.cells #[.int .i64 3, .bool false, .string ⟨#[]⟩, .bool n1, .slice a1 l1 c1, .bool n2, .slice a2 l2 c2] 32) := ⟨_, rfl⟩
  have hbW0 : Below w.heap.size w W0 := by rw [hW0]; exact (Below.refl _ _).alloc (Nat.le_refl _) _
  have hs0 : W0.heap.size = w.heap.size + 1 := by rw [hW0]; simp
  have hq0 : W0.heap[w.heap.size]? = some (.cells #[.int .i64 3, .bool false, .string ⟨#[]⟩, .bool n1, .slice a1 l1 c1, .bool n2, .slice a2 l2 c2] 32 (0, 0)) := by rw [hW0]; exact newAt _ _
  obtain ⟨W, hW⟩ : ∃ W, W = W0.alloc (.cells #[.bool false, .slice none 0 0] 28) := ⟨_, rfl⟩
  have hbW : Below W0.heap.size W0 W := by rw [hW]; exact (Below.refl _ _).alloc (Nat.le_refl _) _
  have hq : W.heap[w.heap.size + 1]? = some (.cells #[.bool false, .slice none 0 0] 28 (0, 0)) := by rw [hW, ← hs0]; exact newAt _ _
  obtain ⟨⟨p0, p1, p2, p3, p4, p5, p6⟩, _, _⟩ := cells7 ((hbW.block _ (by omega)).trans hq0)
  have kA : Hid (Calls Tryz.prog 91 #[.agg #[.bool n1, .slice a1 l1 c1, .bool n2, .slice a2 l2 c2]] W _) := Int_num ((hv.next hbW0).next hbW) (by omega)
  have hB : Hid (Below w.heap.size w W) := hbW0.trans (hbW.mono (by omega))
  have hqh : Hid (W.heap[w.heap.size + 1]? = some (.cells #[.bool false, .slice none 0 0] 28 (0, 0))) := hq
  have hsW : Hid (w.heap.size + 1 < W.heap.size) := (Array.getElem?_eq_some_iff.1 hq).1
  have hwh : Hid ((pN n d).tmod (pD d) = 0) := hw
  clear hv hq hbW hbW0 hs0 hq0 hw
  obtain ⟨Z, hZ⟩ : ∃ Z, Z = (pN n d).tdiv (pD d) := ⟨_, rfl⟩
  rw [← hZ]
  have hZh : Hid (Z = (pN n d).tdiv (pD d)) := hZ
  clear hZ
  go_enter Tryz.func45, Tryz.ntmps45
  go_upto_region 1 with fail
  rw [← hW0, ← hW]
  clear hW hW0
  go_wp2_with fail
  refine Calls.mono kA.out ?_
  clear kA
  rintro e w1 ⟨t, rfl, ⟨t', hf, hI, _⟩, hb1⟩
  have hO : OutE w1 t' Z (m + 3) := by rw [hZh.out]; exact hI hwh.out
  obtain ⟨ng, a, l, c, rfl⟩ := hO.num.form
  rw [decide_eq_true hwh.out] at hf
  subst hf
  obtain ⟨X1, hX1⟩ : ∃ X1, X1 = w1.alloc (.cells #[.bool ng, .slice a l c] 28) := ⟨_, rfl⟩
  have hbX1 : Below w1.heap.size w1 X1 := by rw [hX1]; exact (Below.refl _ _).alloc (Nat.le_refl _) _
  have hqX : X1.heap[w1.heap.size]? = some (.cells #[.bool ng, .slice a l c] 28 (0, 0)) := by rw [hX1]; exact newAt _ _
  obtain ⟨⟨x0, x1⟩, _, xl⟩ := cells2 hqX
  have hq1 := (hbX1.block _ (by have := hsW.out; have := hb1.size; omega)).trans ((hb1.block _ hsW.out).trans hqh.out)
  obtain ⟨⟨r0, r1⟩, rf, rl⟩ := cells2 hq1
  have rf0 := rf 0
  have rf1 := rf 1
  have hB1 : Hid (Below w.heap.size w X1) := hB.out.trans ((hb1.mono (by have := hsW.out; omega)).trans (hbX1.mono (by have := hsW.out; have := hb1.size; omega)))
  have hOX : Hid (OutE X1 (.agg #[.bool ng, .slice a l c]) Z (m + 3)) := hO.next hbX1
  have hnb : Hid (NoInt X1 (w.heap.size + 1)) := ⟨_, _, _, hq1, by decide, two_notInt (notInt_bool _) (notInt_slice _ _ _)⟩
  obtain ⟨W8, hW8⟩ : ∃ W8, W8 = (X1.setCell ⟨w.heap.size + 1, 0, none⟩ (.bool ng)).setCell ⟨w.heap.size + 1, 1, none⟩ (.slice a l c) := ⟨_, rfl⟩
  have hq8 : Hid (W8.heap[w.heap.size + 1]? = some (.cells #[.bool ng, .slice a l c] 28 (0, 0))) := by show _ = _; rw [hW8]; simp [World.setCell, Array.getElem?_modify, hq1]
  have hB8 : Hid (Below w.heap.size w W8) := by
    show Below _ _ _
    rw [hW8]
    exact (hB1.out.setCell (by show w.heap.size ≤ w.heap.size + 1; omega) _).setCell (by show w.heap.size ≤ w.heap.size + 1; omega) _
  have hO8 : Hid (OutE W8 (.agg #[.bool ng, .slice a l c]) Z (m + 3)) := by
    show OutE _ _ _ _
    rw [hW8]
    have h1 := hOX.out.noint (p := ⟨w.heap.size + 1, 0, none⟩) hnb.out (.bool ng)
    exact h1.noint (p := ⟨w.heap.size + 1, 1, none⟩) (hnb.out.set _ _ _ (notInt_bool _)) (.slice a l c)
  clear hO hI hb1 hbX1 hqX hq1 rf hqh hB hB1 hOX hnb p0 p1 p2 p3 p4 p5 p6
  go_upto_region 2 with fail
  rw [← hX1]
  clear hX1
  obtain ⟨bx, hbx⟩ : ∃ bx, bx = w1.heap.size := ⟨_, rfl⟩
  rw [← hbx] at x0 x1 xl ⊢
  clear hbx
  go_wp2
  rw [← hW8]
  obtain ⟨⟨j0, j1⟩, _, _⟩ := cells2 hq8.out
  exact bodyPost_ret (v := .agg #[.bool ng, .slice a l c]) (by simp [results, Tryz.results45, go_sem, j0, j1]) rfl ⟨_, rfl, hO8.out, hB8.out⟩
end Go.Proofs.YtclokcoimdjaeaaGreatDoor
namespace Go.Proofs.YtclokcoimdjaeaaGreatDoor
open Go.RowKit
attribute [local go_sem ↓] Go.wp_at_zero Go.wp_at_succ
set_option maxRecDepth 20000 in
set_option maxHeartbeats 2000000 in
theorem commonKind_int {w : World} {n1 : Bool} {a1 : Option Addr} {l1 c1 : Nat} {n2 : Bool} {a2 : Option Addr} {l2 c2 : Nat} {m1 : Bool} {b1 : Option Addr} {k1 d1 : Nat} {m2 : Bool} {b2 : Option Addr} {k2 d2 : Nat} :
    Calls Tryz.prog 49 #[.agg #[.int .i64 3, .bool false, .string ⟨#[]⟩, .bool n1, .slice a1 l1 c1, .bool n2, .slice a2 l2 c2], .agg #[.int .i64 3, .bool false, .string ⟨#[]⟩, .bool m1, .slice b1 k1 d1, .bool m2, .slice b2 k2 d2]] w fun e w' => e = .returned (.int .i64 3) ∧ Below w.heap.size w w' := by
  obtain ⟨W0, hW0⟩ : ∃ W0, W0 = w.alloc (.cells #[.int .i64 3, .bool false, .string ⟨#[]⟩, .bool n1, .slice a1 l1 c1, .bool n2, .slice a2 l2 c2] 32) := ⟨_, rfl⟩
  have hbW0 : Below w.heap.size w W0 := by rw [hW0]; exact (Below.refl _ _).alloc (Nat.le_refl _) _
  have hs0 : W0.heap.size = w.heap.size + 1 := by rw [hW0]; simp
  have hq0 : W0.heap[w.heap.size]? = some (.cells #[.int .i64 3, .bool false, .string ⟨#[]⟩, .bool n1, .slice a1 l1 c1, .bool n2, .slice a2 l2 c2] 32 (0, 0)) := by rw [hW0]; exact newAt _ _
  obtain ⟨W, hW⟩ : ∃ W, W = W0.alloc (.cells #[.int .i64 3, .bool false, .string ⟨#[]⟩, .bool m1, .slice b1 k1 d1, .bool m2, .slice b2 k2 d2] 32) := ⟨_, rfl⟩
  have hbW : Below W0.heap.size W0 W := by rw [hW]; exact (Below.refl _ _).alloc (Nat.le_refl _) _
  have hq : W.heap[w.heap.size + 1]? = some (.cells #[.int .i64 3, .bool false, .string ⟨#[]⟩, .bool m1, .slice b1 k1 d1, .bool m2, .slice b2 k2 d2] 32 (0, 0)) := by rw [hW, ← hs0]; exact newAt _ _
  obtain ⟨⟨p0, p1, p2, p3, p4, p5, p6⟩, _, _⟩ := cells7 ((hbW.block _ (by omega)).trans hq0)
  obtain ⟨⟨r0, r1, r2, r3, r4, r5, r6⟩, _, _⟩ := cells7 hq
  have hB : Hid (Below w.heap.size w W) := hbW0.trans (hbW.mono (by omega))
  clear hq hbW hbW0 hs0 hq0
  go_enter Tryz.func49, Tryz.ntmps49
  go_upto_region 1 with fail
  rw [← hW0, ← hW]
  clear hW hW0
  go_wp2
  go_ret
  exact ⟨rfl, hB.out⟩
end Go.Proofs.YtclokcoimdjaeaaGreatDoor
