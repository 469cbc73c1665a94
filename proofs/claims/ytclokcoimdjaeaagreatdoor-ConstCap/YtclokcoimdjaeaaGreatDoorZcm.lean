/- constants: the second road's numbers of 64 bits, powers of two, and fractions told. -/
import Derived.Test.YtclokcoimdjaeaaGreatDoorGimm
import Derived.Test.YtclokcoimdjaeaaGreatDoorYd
import Derived.Test.YtclokcoimdjaeaaGreatDoorYc
import Derived.Test.YtclokcoimdjaeaaGreatDoorQnm
namespace Go.Proofs.YtclokcoimdjaeaaGreatDoor
set_option linter.unusedVariables false
open Go.RowKit
attribute [local go_sem ↓] Go.wp_at_zero Go.wp_at_succ
theorem To_num {w : World} {u : Value} {z : Int} {m : Nat} (hu : Rint w u z m) (hm : m ≤ 10000) :
    Calls Tryz.prog 120 #[u] w fun e w' => ∃ t, e = .returned t ∧ OutE w' t z m ∧ Below w.heap.size w w' := by
  obtain ⟨na, x, ca, xs, rfl, ha, hn, rfl, hl⟩ := hu
  refine (To_any na x ca xs w ha hn (by omega)).mono ?_
  rintro e w' ⟨a', cap', rfl, ho, hb⟩
  exact ⟨_, rfl, ⟨_, na, a', cap', paired xs, rfl, ho, ⟨paired_nrm xs ha.words hn.1, fun h => paired_ne xs (hn.2 h)⟩, by simp [num, paired_val], by rw [paired_len]; omega⟩, hb⟩
theorem boxes_torat (w : World) (n1 : Bool) (a1 : Option Addr) (l1 c1 : Nat) (n2 : Bool) (a2 : Option Addr) (l2 c2 : Nat) : ∃ W, W = (w.alloc (.cells #[.bool n1, .slice a1 l1 c1, .bool n2, .slice a2 l2 c2] 40)).alloc (.cells #[.bool false, .slice none 0 0, .bool false, .slice none 0 0] 30) ∧ Below w.heap.size w W ∧
    (W.cell? ⟨w.heap.size, 0, none⟩ = some (.bool n1) ∧ W.cell? ⟨w.heap.size, 1, none⟩ = some (.slice a1 l1 c1) ∧ W.cell? ⟨w.heap.size, 2, none⟩ = some (.bool n2) ∧ W.cell? ⟨w.heap.size, 3, none⟩ = some (.slice a2 l2 c2)) ∧ Box4 W (w.heap.size + 1) := by
  refine ⟨_, rfl, ((Below.refl _ _).alloc (Nat.le_refl _) _).alloc (by simp) _, ⟨?_, ?_, ?_, ?_⟩, ?n0⟩
  case n0 =>
    have h := Box4.new (w.alloc (.cells #[.bool n1, .slice a1 l1 c1, .bool n2, .slice a2 l2 c2] 40)) false none 0 0 false none 0 0 30 (by decide)
    rw [show (w.alloc (.cells #[.bool n1, .slice a1 l1 c1, .bool n2, .slice a2 l2 c2] 40)).heap.size = w.heap.size + 1 from by simp] at h
    exact h
  all_goals simp [go_sem, World.cell?_alloc_past]
set_option maxRecDepth 20000 in
set_option maxHeartbeats 4000000 in
theorem ToRat_num {w : World} {u : Value} {p q : Int} {m : Nat} (hu : RatR w u p q m) (hm : m ≤ 10000) :
    Calls Tryz.prog 69 #[u] w fun e w' => ∃ t, e = .returned t ∧ FracE w' t p q m ∧ Below w.heap.size w w' := by
  obtain ⟨n1, a1, l1, c1, n2, a2, l2, c2, rfl⟩ := hu.form
  obtain ⟨W, hW, hbW, ⟨e0, e1, e2, e3⟩, x0⟩ := boxes_torat w n1 a1 l1 c1 n2 a2 l2 c2
  obtain ⟨hAN, hAD⟩ := (hu.next hbW).parts
  have hD0 : Below W.heap.size W W.drew := (Below.refl _ _).drew
  go_enter Tryz.func69, Tryz.ntmps69
  go_upto_region 1 with fail
  rw [← hW]
  clear hW
  go_region_with (first
    | (go_at_call_of 120 (Value.slice a1 l1 c1); refine Calls.mono (To_num (hAN.next hD0) hm) ?_; rintro e w2 ⟨t, rfl, hO, hb2⟩; obtain ⟨n3, a3, l3, c3, rfl⟩ := hO.num.form; have hB2 : Below W.heap.size W w2 := bthen hD0 hb2; have p2' := keep_cell hB2 e2; have p3' := keep_cell hB2 e3)
    | (go_at_call_of 120 (Value.slice a2 l2 c2); refine Calls.mono (To_num (hAD.next hB2) hm) ?_; rintro e w3 ⟨t, rfl, hP, hb3⟩; obtain ⟨n4, a4, l4, c4, rfl⟩ := hP.num.form; have hB3 : Below W.heap.size W w3 := bthen hB2 hb3; have hO3 := hO.next hb3; have y0 := x0.next hB3; obtain ⟨_, _, _, _, _, _, _, _, j0, j1, j2, j3, f⟩ := y0.cells; have f0 := f 0; have f1 := f 1; have f2 := f 2; have f3 := f 3; clear f))
  all_goals
    have hbx : Hid _ := put4_boxed (base := w.heap.size) y0.noint (by omega) n3 a3 l3 c3 n4 a4 l4 c4
    have hBf := bthen hbW hB3
    have hUf : Hid _ := hbx.out.out hO3
    have hOf : Hid _ := hbx.out.out hP
    clear hO hO3 hP hAN hAD hb2 hB2 hb3 hB3
    go_wp2
    exact bodyPost_ret (v := .agg #[.bool n3, .slice a3 l3 c3, .bool n4, .slice a4 l4 c4]) (by simp [results, Tryz.results69, go_sem, j0, j1, j2, j3]) rfl ⟨_, rfl, ⟨_, _, _, _, _, _, _, _, rfl, hUf.out, hOf.out⟩, hbx.out.keep hBf (Nat.le_refl _) hBf.size⟩
end Go.Proofs.YtclokcoimdjaeaaGreatDoor
namespace Go.Proofs.YtclokcoimdjaeaaGreatDoor
open Go.RowKit
attribute [local go_sem ↓] Go.wp_at_zero Go.wp_at_succ
/-- A number of the second road, of a kind. -/
def CRn (w : World) (v : Value) (k p q : Int) (m : Nat) : Prop :=
  ∃ m1 b1 k1 d1 m2 b2 k2 d2, v = .agg #[.int .i64 k, .bool false, .string ⟨#[]⟩, .bool m1, .slice b1 k1 d1, .bool m2, .slice b2 k2 d2] ∧ RatR w (.agg #[.bool m1, .slice b1 k1 d1, .bool m2, .slice b2 k2 d2]) p q m
theorem CRn.next {w w' : World} {v : Value} {k p q : Int} {m : Nat} (h : CRn w v k p q m) (hb : Below w.heap.size w w') : CRn w' v k p q m := by
  obtain ⟨m1, b1, k1, d1, m2, b2, k2, d2, e, hR⟩ := h
  exact ⟨m1, b1, k1, d1, m2, b2, k2, d2, e, hR.next hb⟩
theorem CRn.more {w : World} {v : Value} {k p q : Int} {m m' : Nat} (h : CRn w v k p q m) (hm : m ≤ m') : CRn w v k p q m' := by
  obtain ⟨m1, b1, k1, d1, m2, b2, k2, d2, e, hR⟩ := h
  exact ⟨m1, b1, k1, d1, m2, b2, k2, d2, e, hR.more hm⟩
theorem CRn.put7 {w : World} {g : Nat} {v0 v1 v2 v3 v4 v5 v6 v : Value} {k p q : Int} {m : Nat} (h : CRn w v k p q m) (hz : ZBox w g) : CRn (put7 w g v0 v1 v2 v3 v4 v5 v6) v k p q m := by
  obtain ⟨m1, b1, k1, d1, m2, b2, k2, d2, e, hR⟩ := h
  exact ⟨m1, b1, k1, d1, m2, b2, k2, d2, e, hR.put7 hz⟩
set_option maxRecDepth 20000 in
set_option maxHeartbeats 2000000 in
theorem Num57_any (w : World) (k : Int) (b : Bool) (s : ByteArray) (m1 : Bool) (b1 : Option Addr) (k1 d1 : Nat) (m2 : Bool) (b2 : Option Addr) (k2 d2 : Nat) (B : Bool) (hB : (decide (k = 3) || decide (k = 4)) = B) :
    Calls Tryz.prog 57 #[.agg #[.int .i64 k, .bool b, .string s, .bool m1, .slice b1 k1 d1, .bool m2, .slice b2 k2 d2]] w fun e w' => e = .returned (.bool B) ∧ Below w.heap.size w w' := by
  obtain ⟨W, hW⟩ : ∃ W, W = w.alloc (.cells #[.int .i64 k, .bool b, .string s, .bool m1, .slice b1 k1 d1, .bool m2, .slice b2 k2 d2] 42) := ⟨_, rfl⟩
  have hbW : Hid (Below w.heap.size w W) := by show Below _ _ _; rw [hW]; exact (Below.refl _ _).alloc (Nat.le_refl _) _
  have hqW : W.heap[w.heap.size]? = some (.cells #[.int .i64 k, .bool b, .string s, .bool m1, .slice b1 k1 d1, .bool m2, .slice b2 k2 d2] 42 (0, 0)) := by rw [hW]; exact newAt _ _
  obtain ⟨⟨p0, p1, p2, p3, p4, p5, p6⟩, _, _⟩ := cells7 hqW
  clear hqW
  by_cases h3 : k = 3
  · subst h3
    subst hB
    go_enter Tryz.func57, Tryz.ntmps57
    go_upto_region 1 with fail
    rw [← hW]
    clear hW
    go_wp2
    exact bodyPost_ret (v := .bool true) (by simp [results, Tryz.results57, go_sem]) rfl ⟨rfl, hbW.out⟩
  · have e3 : (k == 3) = false := by rw [beq_eq_false_iff_ne]; exact h3
    rw [decide_eq_false h3] at hB
    by_cases h4 : k = 4
    · subst h4
      subst hB
      go_enter Tryz.func57, Tryz.ntmps57
      go_upto_region 1 with fail
      rw [← hW]
      clear hW
      go_wp2
      exact bodyPost_ret (v := .bool true) (by simp [results, Tryz.results57, go_sem]) rfl ⟨rfl, hbW.out⟩
    · have e4 : (k == 4) = false := by rw [beq_eq_false_iff_ne]; exact h4
      rw [decide_eq_false h4] at hB
      subst hB
      clear h3 h4
      go_enter Tryz.func57, Tryz.ntmps57
      go_upto_region 1 with fail
      rw [← hW]
      clear hW
      go_wp2
      exact bodyPost_ret (v := .bool false) (by simp [results, Tryz.results57, go_sem]) rfl ⟨rfl, hbW.out⟩
end Go.Proofs.YtclokcoimdjaeaaGreatDoor
namespace Go.Proofs.YtclokcoimdjaeaaGreatDoor
open Go.RowKit
attribute [local go_sem ↓] Go.wp_at_zero Go.wp_at_succ
theorem Rint.more {w : World} {v : Value} {z : Int} {n m : Nat} (h : Rint w v z n) (hm : n ≤ m) : Rint w v z m := by
  obtain ⟨neg, a, cap, ds, e, hr, hn, hz, hl⟩ := h
  exact ⟨neg, a, cap, ds, e, hr, hn, hz, by omega⟩
end Go.Proofs.YtclokcoimdjaeaaGreatDoor
