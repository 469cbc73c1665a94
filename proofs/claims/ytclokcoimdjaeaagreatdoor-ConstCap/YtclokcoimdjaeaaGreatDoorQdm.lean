/- constants: what is short; a number made a constant. -/
import Derived.Test.YtclokcoimdjaeaaGreatDoorFxmm
import Derived.Test.YtclokcoimdjaeaaGreatDoorBnm
namespace Go.Proofs.YtclokcoimdjaeaaGreatDoor
open Go.RowKit
attribute [local go_sem ↓] Go.wp_at_zero Go.wp_at_succ
theorem Num.bnd {w : World} {v : Value} {z : Int} {n : Nat} (h : Num w v z n) : (z.natAbs : Int) < 4294967296 ^ n := by
  obtain ⟨neg, a, cap, ds, _, hr, hz, hl⟩ := h
  have h1 := val_lt (B := 4294967296) (by decide) hr.words
  have h2 := val_abs (B := 4294967296) (n := neg) (by decide) hr.words
  rw [hz] at h2
  rw [← h2]
  exact Int.lt_of_lt_of_le h1 (pow_mono (by decide) hl)
theorem bits_short {y : Int} {L m : Nat} (hb : HasBits (y.natAbs : Int) L) (h : (y.natAbs : Int) < 4294967296 ^ m) : L ≤ 32 * m := by
  rcases hb.2 with h0 | h1
  · omega
  · rw [show (4294967296 : Int) = 2 ^ 32 from by decide, ← Int.pow_mul] at h
    have h2 : (2 : Int) ^ (L - 1) < 2 ^ (32 * m) := Int.lt_of_le_of_lt h1 h
    rcases Nat.lt_or_ge (L - 1) (32 * m) with h3 | h3
    · omega
    · have := pow_mono (B := 2) (by decide) h3
      omega
/-- A number of at most 8192 bits; one of more. -/
def Sh (n : Int) : Prop := ∀ L, HasBits (n.natAbs : Int) L → L ≤ 8192
def NSh (n : Int) : Prop := ∀ L, HasBits (n.natAbs : Int) L → 8192 < L
set_option maxRecDepth 20000 in
set_option maxHeartbeats 2000000 in
theorem isShort_val {w : World} {v : Value} {n d : Int} {m : Nat} (hv : Frac w v n d m) (hm : m ≤ 900) (hs1 : Sh n) (hs2 : Sh d) :
    Calls Tryz.prog 96 #[v] w fun e w' => e = .returned (.bool true) ∧ Below w.heap.size w w' := by
  obtain ⟨n1, a1, l1, c1, n2, a2, l2, c2, rfl, h1, h2⟩ := hv
  obtain ⟨W, hW, hbW, hlt, ⟨p0, p1, p2, p3⟩, _, _⟩ := box4 w n1 a1 l1 c1 n2 a2 l2 c2
  have k1 : Hid (Calls Tryz.prog 167 #[.agg #[.bool n1, .slice a1 l1 c1]] W _) := Bits_num (h1.next hbW) (by omega)
  have k2 : Hid (∀ X, Below W.heap.size W X → Calls Tryz.prog 167 #[.agg #[.bool n2, .slice a2 l2 c2]] X _) := fun X hX => Bits_num ((h2.next hbW).next hX) (by omega)
  have b1 : Hid (Sh n) := hs1
  have b2 : Hid (Sh d) := hs2
  have hbWh : Hid (Below w.heap.size w W) := hbW
  clear h1 h2 hbW hs1 hs2
  go_enter Tryz.func96, Tryz.ntmps96
  go_upto_region 1 with fail
  rw [← hW]
  clear hW
  go_wp2_with fail
  refine Calls.mono k1.out ?_
  rintro e w1 ⟨L, rfl, hL, hb1⟩
  have hL0 : L ≤ 8192 := b1.out L hL
  have hL1 : (L : Int) ≤ 8192 := by omega
  have p2' := keep_cell hb1 p2
  have p3' := keep_cell hb1 p3
  have k2' : Hid (Calls Tryz.prog 167 #[.agg #[.bool n2, .slice a2 l2 c2]] w1 _) := k2.out w1 hb1
  have hb1h : Hid (Below W.heap.size W w1) := hb1
  clear hb1 hL k2 k1 p0 p1 p2 p3 b1 hL0
  go_wp2_with fail
  refine Calls.mono k2'.out ?_
  rintro e w2 ⟨M, rfl, hM, hb2⟩
  have hM0 : M ≤ 8192 := b2.out M hM
  have hM1 : (M : Int) ≤ 8192 := by omega
  have hb2h : Hid (Below w1.heap.size w1 w2) := hb2
  clear hb2 hM k2' p2' p3' b2 hM0
  go_wp2
  go_ret
  exact ⟨rfl, hbWh.out.trans ((hb1h.out.mono (Nat.le_of_lt hlt)).trans (hb2h.out.mono (by have := hb1h.out.size; omega)))⟩
set_option maxRecDepth 20000 in
set_option maxHeartbeats 2000000 in
theorem isShort_big {w : World} {v : Value} {n d : Int} {m : Nat} (hv : Frac w v n d m) (hm : m ≤ 900) (hs1 : NSh n) :
    Calls Tryz.prog 96 #[v] w fun e w' => e = .returned (.bool false) ∧ Below w.heap.size w w' := by
  obtain ⟨n1, a1, l1, c1, n2, a2, l2, c2, rfl, h1, h2⟩ := hv
  obtain ⟨W, hW, hbW, hlt, ⟨p0, p1, p2, p3⟩, _, _⟩ := box4 w n1 a1 l1 c1 n2 a2 l2 c2
  have k1 : Hid (Calls Tryz.prog 167 #[.agg #[.bool n1, .slice a1 l1 c1]] W _) := Bits_num (h1.next hbW) (by omega)
  have b1 : Hid (NSh n) := hs1
  have hbWh : Hid (Below w.heap.size w W) := hbW
  clear h1 h2 hbW hs1
  go_enter Tryz.func96, Tryz.ntmps96
  go_upto_region 1 with fail
  rw [← hW]
  clear hW
  go_wp2_with fail
  refine Calls.mono k1.out ?_
  rintro e w1 ⟨L, rfl, hL, hb1⟩
  have hL1 : decide ((L : Int) ≤ 8192) = false := decide_eq_false (by have := b1.out L hL; omega)
  have hb1h : Hid (Below W.heap.size W w1) := hb1
  clear hb1 hL k1 p0 p1 p2 p3 b1
  go_wp2
  go_ret
  exact ⟨rfl, hbWh.out.trans (hb1h.out.mono (Nat.le_of_lt hlt))⟩
/-- A fraction of at most 256 words each is short. -/
theorem isShort_num {w : World} {v : Value} {n d : Int} {m : Nat} (hv : Frac w v n d m) (hm : m ≤ 256) :
    Calls Tryz.prog 96 #[v] w fun e w' => e = .returned (.bool true) ∧ Below w.heap.size w w' := by
  have hv' := hv
  obtain ⟨n1, a1, l1, c1, n2, a2, l2, c2, rfl, h1, h2⟩ := hv
  exact isShort_val hv' (by omega) (fun L hL => by have := bits_short hL h1.bnd; omega) (fun L hL => by have := bits_short hL h2.bnd; omega)
/-- A number as a constant of a kind. -/
def CNum (w : World) (v : Value) (k n d : Int) (m : Nat) : Prop :=
  ∃ n1 a1 l1 c1 n2 a2 l2 c2, v = .agg #[.int .i64 k, .bool false, .string ⟨#[]⟩, .bool n1, .slice a1 l1 c1, .bool n2, .slice a2 l2 c2] ∧ Frac w (.agg #[.bool n1, .slice a1 l1 c1, .bool n2, .slice a2 l2 c2]) n d m
theorem CNum.next {w w' : World} {v : Value} {k n d : Int} {m : Nat} (h : CNum w v k n d m) (hb : Below w.heap.size w w') : CNum w' v k n d m := by
  obtain ⟨n1, a1, l1, c1, n2, a2, l2, c2, hv, h1⟩ := h
  exact ⟨n1, a1, l1, c1, n2, a2, l2, c2, hv, h1.next hb⟩
theorem CNum.more {w : World} {v : Value} {k n d : Int} {m m' : Nat} (h : CNum w v k n d m) (hm : m ≤ m') : CNum w v k n d m' := by
  obtain ⟨n1, a1, l1, c1, n2, a2, l2, c2, hv, x1, y1, z1, u1, x2, y2, z2, u2, e, h1, h2⟩ := h
  exact ⟨n1, a1, l1, c1, n2, a2, l2, c2, hv, x1, y1, z1, u1, x2, y2, z2, u2, e, h1.more' hm, h2.more' hm⟩
/-- The zero constant. -/
def cNone : Value := .agg #[.int .i64 0, .bool false, .string ⟨#[]⟩, .bool false, .slice none 0 0, .bool false, .slice none 0 0]
/-- Seven cells of a block. -/
theorem cells7 {w : World} {b T : Nat} {v0 v1 v2 v3 v4 v5 v6 : Value} (h : w.heap[b]? = some (.cells #[v0, v1, v2, v3, v4, v5, v6] T (0, 0))) : (w.cell? ⟨b, 0, none⟩ = some v0 ∧ w.cell? ⟨b, 1, none⟩ = some v1 ∧ w.cell? ⟨b, 2, none⟩ = some v2 ∧ w.cell? ⟨b, 3, none⟩ = some v3 ∧ w.cell? ⟨b, 4, none⟩ = some v4 ∧ w.cell? ⟨b, 5, none⟩ = some v5 ∧ w.cell? ⟨b, 6, none⟩ = some v6) ∧ (∀ o, w.frozen? ⟨b, o, none⟩ = false) ∧ b < w.heap.size := by
  refine ⟨⟨?_, ?_, ?_, ?_, ?_, ?_, ?_⟩, fun o => ?_, (Array.getElem?_eq_some_iff.1 h).1⟩
  all_goals simp [World.cell?, World.frozen?, h]
theorem newAt (w : World) (o : Obj) : (w.alloc o).heap[w.heap.size]? = some o := by show (w.heap.push _)[w.heap.size]? = _; simp
/-- Seven cells stored. -/
def put7 (w : World) (b : Nat) (v0 v1 v2 v3 v4 v5 v6 : Value) : World := ((((((w.setCell ⟨b, 0, none⟩ v0).setCell ⟨b, 1, none⟩ v1).setCell ⟨b, 2, none⟩ v2).setCell ⟨b, 3, none⟩ v3).setCell ⟨b, 4, none⟩ v4).setCell ⟨b, 5, none⟩ v5).setCell ⟨b, 6, none⟩ v6
theorem put7_same {w : World} {b c : Nat} {v0 v1 v2 v3 v4 v5 v6 : Value} (hb : c ≠ b) : (put7 w b v0 v1 v2 v3 v4 v5 v6).heap[c]? = w.heap[c]? := by
  unfold put7; rw [Below.heap_setCell _ _ _ _ hb, Below.heap_setCell _ _ _ _ hb, Below.heap_setCell _ _ _ _ hb, Below.heap_setCell _ _ _ _ hb, Below.heap_setCell _ _ _ _ hb, Below.heap_setCell _ _ _ _ hb, Below.heap_setCell _ _ _ _ hb]
theorem put7_at {w : World} {b T : Nat} {u0 u1 u2 u3 u4 u5 u6 v0 v1 v2 v3 v4 v5 v6 : Value} (h : w.heap[b]? = some (.cells #[u0, u1, u2, u3, u4, u5, u6] T (0, 0))) : (put7 w b v0 v1 v2 v3 v4 v5 v6).heap[b]? = some (.cells #[v0, v1, v2, v3, v4, v5, v6] T (0, 0)) := by
  unfold put7; simp [World.setCell, Array.getElem?_modify, h]
theorem put7_size {w : World} {b : Nat} {v0 v1 v2 v3 v4 v5 v6 : Value} : (put7 w b v0 v1 v2 v3 v4 v5 v6).heap.size = w.heap.size := by unfold put7; simp
theorem put7_below {B : Nat} {w w' : World} {b : Nat} {v0 v1 v2 v3 v4 v5 v6 : Value} (h : Below B w w') (hb : B ≤ b) : Below B w (put7 w' b v0 v1 v2 v3 v4 v5 v6) := by
  unfold put7; exact ((((((h.setCell hb _).setCell hb _).setCell hb _).setCell hb _).setCell hb _).setCell hb _).setCell hb _
end Go.Proofs.YtclokcoimdjaeaaGreatDoor
namespace Go.Proofs.YtclokcoimdjaeaaGreatDoor
open Go.RowKit
attribute [local go_sem ↓] Go.wp_at_zero Go.wp_at_succ
set_option maxRecDepth 20000 in
set_option maxHeartbeats 2000000 in
theorem ofNumber_ok {w : World} {v : Value} {k n d : Int} {m : Nat} (hv : Frac w v n d m) (hm : m ≤ 256) :
    Calls Tryz.prog 48 #[.int .i64 k, v, .bool true] w fun e w' => ∃ t, e = .returned (.tuple #[t, .bool true]) ∧ CNum w' t k n d m ∧ Below w.heap.size w w' := by
  have hv' := hv
  obtain ⟨n1, a1, l1, c1, n2, a2, l2, c2, rfl, _, _⟩ := hv'
  obtain ⟨W0, hW0, hbW0, hlt0, ⟨p0, p1, p2, p3⟩, _, _⟩ := box4 w n1 a1 l1 c1 n2 a2 l2 c2
  obtain ⟨W, hW⟩ : ∃ W, W = W0.alloc (.cells #[.int .i64 0, .bool false, .string ⟨#[]⟩, .bool false, .slice none 0 0, .bool false, .slice none 0 0] 32) := ⟨_, rfl⟩
  have hs0 : W0.heap.size = w.heap.size + 1 := by rw [hW0]; simp
  have hbW : Below W0.heap.size W0 W := by rw [hW]; exact (Below.refl _ _).alloc (Nat.le_refl _) _
  have hq : W.heap[w.heap.size + 1]? = some (.cells #[.int .i64 0, .bool false, .string ⟨#[]⟩, .bool false, .slice none 0 0, .bool false, .slice none 0 0] 32 (0, 0)) := by rw [hW, ← hs0]; exact newAt _ _
  replace p0 := keep_cell hbW p0
  replace p1 := keep_cell hbW p1
  replace p2 := keep_cell hbW p2
  replace p3 := keep_cell hbW p3
  have kS : Hid (Calls Tryz.prog 96 #[.agg #[.bool n1, .slice a1 l1 c1, .bool n2, .slice a2 l2 c2]] W _) := isShort_num ((hv.next hbW0).next hbW) (by omega)
  have hvh : Hid (Frac w (.agg #[.bool n1, .slice a1 l1 c1, .bool n2, .slice a2 l2 c2]) n d m) := hv
  have hB : Hid (Below w.heap.size w W) := hbW0.trans (hbW.mono (by omega))
  have hqh : Hid (W.heap[w.heap.size + 1]? = _) := hq
  have hsW : Hid (w.heap.size + 1 < W.heap.size) := (Array.getElem?_eq_some_iff.1 hq).1
  clear hv hq hbW hbW0 hs0 hlt0
  go_enter Tryz.func48, Tryz.ntmps48
  go_upto_region 1 with fail
  rw [← hW0, ← hW]
  clear hW hW0
  go_wp2_with fail
  refine Calls.mono kS.out ?_
  rintro e w1 ⟨rfl, hb1⟩
  replace p0 := keep_cell hb1 p0
  replace p1 := keep_cell hb1 p1
  replace p2 := keep_cell hb1 p2
  replace p3 := keep_cell hb1 p3
  have hq1 := (hb1.block _ hsW.out).trans hqh.out
  obtain ⟨⟨r0, r1, r2, r3, r4, r5, r6⟩, rf, rl⟩ := cells7 hq1
  have rf0 := rf 0
  have rf1 := rf 1
  have rf2 := rf 2
  have rf3 := rf 3
  have rf4 := rf 4
  have rf5 := rf 5
  have rf6 := rf 6
  obtain ⟨W8, hW8⟩ : ∃ W8, W8 = put7 w1 (w.heap.size + 1) (.int .i64 k) (.bool false) (.string ⟨#[]⟩) (.bool n1) (.slice a1 l1 c1) (.bool n2) (.slice a2 l2 c2) := ⟨_, rfl⟩
  have hq8 : Hid (W8.heap[w.heap.size + 1]? = some (.cells #[.int .i64 k, .bool false, .string ⟨#[]⟩, .bool n1, .slice a1 l1 c1, .bool n2, .slice a2 l2 c2] 32 (0, 0))) := by show _ = _; rw [hW8]; exact put7_at hq1
  have hB8 : Hid (Below w.heap.size w W8) := by
    show Below _ _ _
    rw [hW8]
    exact put7_below (hB.out.trans (hb1.mono (by have := hsW.out; omega))) (by omega)
  clear kS hb1 hq1 rf hqh
  go_wp2
  unfold put7 at hW8
  rw [← hW8]
  obtain ⟨⟨j0, j1, j2, j3, j4, j5, j6⟩, _, _⟩ := cells7 hq8.out
  exact bodyPost_ret (v := .tuple #[.agg #[.int .i64 k, .bool false, .string ⟨#[]⟩, .bool n1, .slice a1 l1 c1, .bool n2, .slice a2 l2 c2], .bool true]) (by simp [results, Tryz.results48, go_sem, j0, j1, j2, j3, j4, j5, j6]) rfl ⟨_, rfl, ⟨_, _, _, _, _, _, _, _, rfl, hvh.out.next hB8.out⟩, hB8.out⟩
end Go.Proofs.YtclokcoimdjaeaaGreatDoor
namespace Go.Proofs.YtclokcoimdjaeaaGreatDoor
open Go.RowKit
attribute [local go_sem ↓] Go.wp_at_zero Go.wp_at_succ
/-- Four cells of a block. -/
theorem cells4 {w : World} {b T : Nat} {v0 v1 v2 v3 : Value} (h : w.heap[b]? = some (.cells #[v0, v1, v2, v3] T (0, 0))) : (w.cell? ⟨b, 0, none⟩ = some v0 ∧ w.cell? ⟨b, 1, none⟩ = some v1 ∧ w.cell? ⟨b, 2, none⟩ = some v2 ∧ w.cell? ⟨b, 3, none⟩ = some v3) ∧ (∀ o, w.frozen? ⟨b, o, none⟩ = false) ∧ b < w.heap.size := by
  refine ⟨⟨?_, ?_, ?_, ?_⟩, fun o => ?_, (Array.getElem?_eq_some_iff.1 h).1⟩
  all_goals simp [World.cell?, World.frozen?, h]
theorem cells2 {w : World} {b T : Nat} {v0 v1 : Value} (h : w.heap[b]? = some (.cells #[v0, v1] T (0, 0))) : (w.cell? ⟨b, 0, none⟩ = some v0 ∧ w.cell? ⟨b, 1, none⟩ = some v1) ∧ (∀ o, w.frozen? ⟨b, o, none⟩ = false) ∧ b < w.heap.size := by
  refine ⟨⟨?_, ?_⟩, fun o => ?_, (Array.getElem?_eq_some_iff.1 h).1⟩
  all_goals simp [World.cell?, World.frozen?, h]
def put4c (w : World) (b : Nat) (v0 v1 v2 v3 : Value) : World := (((w.setCell ⟨b, 0, none⟩ v0).setCell ⟨b, 1, none⟩ v1).setCell ⟨b, 2, none⟩ v2).setCell ⟨b, 3, none⟩ v3
theorem put4c_at {w : World} {b T : Nat} {u0 u1 u2 u3 v0 v1 v2 v3 : Value} (h : w.heap[b]? = some (.cells #[u0, u1, u2, u3] T (0, 0))) : (put4c w b v0 v1 v2 v3).heap[b]? = some (.cells #[v0, v1, v2, v3] T (0, 0)) := by
  unfold put4c; simp [World.setCell, Array.getElem?_modify, h]
theorem put4c_below {B : Nat} {w w' : World} {b : Nat} {v0 v1 v2 v3 : Value} (h : Below B w w') (hb : B ≤ b) : Below B w (put4c w' b v0 v1 v2 v3) := by
  unfold put4c; exact (((h.setCell hb _).setCell hb _).setCell hb _).setCell hb _
theorem IntAns.form {w : World} {v : Value} {n d : Int} {m : Nat} (h : IntAns w v n d m) : ∃ ng a l c, v = .tuple #[.agg #[.bool ng, .slice a l c], .bool (decide ((pN n d).tmod (pD d) = 0))] := by
  obtain ⟨t, hv, h1, h2⟩ := h
  by_cases hz : (pN n d).tmod (pD d) = 0
  · obtain ⟨ng, a, l, c, rfl⟩ := (h1 hz).num.form
    exact ⟨ng, a, l, c, hv⟩
  · have := h2 hz
    subst this
    exact ⟨_, _, _, _, hv⟩
set_option maxRecDepth 20000 in
set_option maxHeartbeats 2000000 in
theorem isWhole_num {w : World} {v : Value} {n d : Int} {m : Nat} (hv : Frac w v n d m) (hm : m ≤ 256) :
    Calls Tryz.prog 157 #[v] w fun e w' => e = .returned (.bool (decide ((pN n d).tmod (pD d) = 0))) ∧ Below w.heap.size w w' := by
  have hv' := hv
  obtain ⟨n1, a1, l1, c1, n2, a2, l2, c2, rfl, _, _⟩ := hv'
  obtain ⟨W, hW, hbW, hlt, ⟨p0, p1, p2, p3⟩, _, _⟩ := box4 w n1 a1 l1 c1 n2 a2 l2 c2
  have kI : Hid (Calls Tryz.prog 91 #[.agg #[.bool n1, .slice a1 l1 c1, .bool n2, .slice a2 l2 c2]] W _) := Int_num (hv.next hbW) (by omega)
  have hbWh : Hid (Below w.heap.size w W) := hbW
  clear hv hbW
  obtain ⟨T, hT⟩ : ∃ T, T = decide ((pN n d).tmod (pD d) = 0) := ⟨_, rfl⟩
  rw [← hT]
  have hTh : Hid (T = decide ((pN n d).tmod (pD d) = 0)) := hT
  clear hT
  go_enter Tryz.func157, Tryz.ntmps157
  go_upto_region 1 with fail
  rw [← hW]
  clear hW
  go_wp2_with fail
  refine Calls.mono kI.out ?_
  clear kI
  rintro e w1 ⟨t, rfl, hI, hb1⟩
  obtain ⟨ng, a, l, c, hf⟩ := hI.form
  rw [← hTh.out] at hf
  subst hf
  have hb1h : Hid (Below W.heap.size W w1) := hb1
  have hB : Hid (Below w.heap.size w (w1.alloc (.cells #[.bool ng, .slice a l c] 28))) := (hbWh.out.trans (hb1.mono (Nat.le_of_lt hlt))).alloc (by have := hb1.size; omega) _
  clear hI hb1 p0 p1 p2 p3
  go_wp2
  go_ret
  exact ⟨rfl, hB.out⟩
set_option maxRecDepth 20000 in
set_option maxHeartbeats 2000000 in
theorem shorten_num {w : World} {n1 : Bool} {a1 : Option Addr} {l1 c1 : Nat} {n2 : Bool} {a2 : Option Addr} {l2 c2 : Nat} {n d : Int} {m : Nat} (hv : Frac w (.agg #[.bool n1, .slice a1 l1 c1, .bool n2, .slice a2 l2 c2]) n d m) (hm : m ≤ 256) :
    Calls Tryz.prog 156 #[.agg #[.bool n1, .slice a1 l1 c1, .bool n2, .slice a2 l2 c2]] w fun e w' => e = .returned (.tuple #[.agg #[.bool n1, .slice a1 l1 c1, .bool n2, .slice a2 l2 c2], .bool true]) ∧ Below w.heap.size w w' := by
  obtain ⟨W0, hW0, hbW0, hlt0, ⟨p0, p1, p2, p3⟩, _, _⟩ := box4 w n1 a1 l1 c1 n2 a2 l2 c2
  obtain ⟨W, hW⟩ : ∃ W, W = W0.alloc (.cells #[.bool false, .slice none 0 0, .bool false, .slice none 0 0] 30) := ⟨_, rfl⟩
  have hs0 : W0.heap.size = w.heap.size + 1 := by rw [hW0]; simp
  have hbW : Below W0.heap.size W0 W := by rw [hW]; exact (Below.refl _ _).alloc (Nat.le_refl _) _
  have hq : W.heap[w.heap.size + 1]? = some (.cells #[.bool false, .slice none 0 0, .bool false, .slice none 0 0] 30 (0, 0)) := by rw [hW, ← hs0]; exact newAt _ _
  replace p0 := keep_cell hbW p0
  replace p1 := keep_cell hbW p1
  replace p2 := keep_cell hbW p2
  replace p3 := keep_cell hbW p3
  have kS : Hid (Calls Tryz.prog 96 #[.agg #[.bool n1, .slice a1 l1 c1, .bool n2, .slice a2 l2 c2]] W _) := isShort_num ((hv.next hbW0).next hbW) hm
  have hB : Hid (Below w.heap.size w W) := hbW0.trans (hbW.mono (by omega))
  have hqh : Hid (W.heap[w.heap.size + 1]? = _) := hq
  have hsW : Hid (w.heap.size + 1 < W.heap.size) := (Array.getElem?_eq_some_iff.1 hq).1
  clear hv hq hbW hbW0 hs0 hlt0
  go_enter Tryz.func156, Tryz.ntmps156
  go_upto_region 1 with fail
  rw [← hW0, ← hW]
  clear hW hW0
  go_wp2_with fail
  refine Calls.mono kS.out ?_
  rintro e w1 ⟨rfl, hb1⟩
  replace p0 := keep_cell hb1 p0
  replace p1 := keep_cell hb1 p1
  replace p2 := keep_cell hb1 p2
  replace p3 := keep_cell hb1 p3
  have hq1 := (hb1.block _ hsW.out).trans hqh.out
  obtain ⟨⟨r0, r1, r2, r3⟩, rf, rl⟩ := cells4 hq1
  have rf0 := rf 0
  have rf1 := rf 1
  have rf2 := rf 2
  have rf3 := rf 3
  obtain ⟨W8, hW8⟩ : ∃ W8, W8 = put4c w1 (w.heap.size + 1) (.bool n1) (.slice a1 l1 c1) (.bool n2) (.slice a2 l2 c2) := ⟨_, rfl⟩
  have hq8 : Hid (W8.heap[w.heap.size + 1]? = some (.cells #[.bool n1, .slice a1 l1 c1, .bool n2, .slice a2 l2 c2] 30 (0, 0))) := by show _ = _; rw [hW8]; exact put4c_at hq1
  have hB8 : Hid (Below w.heap.size w W8) := by
    show Below _ _ _
    rw [hW8]
    exact put4c_below (hB.out.trans (hb1.mono (by have := hsW.out; omega))) (by omega)
  clear kS hb1 hq1 rf hqh
  go_wp2
  unfold put4c at hW8
  rw [← hW8]
  obtain ⟨⟨j0, j1, j2, j3⟩, _, _⟩ := cells4 hq8.out
  exact bodyPost_ret (v := .tuple #[.agg #[.bool n1, .slice a1 l1 c1, .bool n2, .slice a2 l2 c2], .bool true]) (by simp [results, Tryz.results156, go_sem, j0, j1, j2, j3]) rfl ⟨rfl, hB8.out⟩
end Go.Proofs.YtclokcoimdjaeaaGreatDoor
namespace Go.Proofs.YtclokcoimdjaeaaGreatDoor
open Go.RowKit
attribute [local go_sem ↓] Go.wp_at_zero Go.wp_at_succ
set_option maxRecDepth 20000 in
set_option maxHeartbeats 2000000 in
theorem admitNumber_int {w : World} {n1 : Bool} {a1 : Option Addr} {l1 c1 : Nat} {n2 : Bool} {a2 : Option Addr} {l2 c2 : Nat} {n d : Int} {m : Nat} (hv : Frac w (.agg #[.bool n1, .slice a1 l1 c1, .bool n2, .slice a2 l2 c2]) n d m) (hm : m ≤ 256) (hw : (pN n d).tmod (pD d) = 0) :
    Calls Tryz.prog 88 #[.int .i64 3, .agg #[.bool n1, .slice a1 l1 c1, .bool n2, .slice a2 l2 c2]] w fun e w' => e = .returned (.agg #[.int .i64 3, .bool false, .string ⟨#[]⟩, .bool n1, .slice a1 l1 c1, .bool n2, .slice a2 l2 c2]) ∧ Below w.heap.size w w' := by
  obtain ⟨W0, hW0, hbW0, hlt0, ⟨p0, p1, p2, p3⟩, _, _⟩ := box4 w n1 a1 l1 c1 n2 a2 l2 c2
  obtain ⟨W, hW⟩ : ∃ W, W = W0.alloc (.cells #[.int .i64 0, .bool false, .string ⟨#[]⟩, .bool false, .slice none 0 0, .bool false, .slice none 0 0] 32) := ⟨_, rfl⟩
  have hs0 : W0.heap.size = w.heap.size + 1 := by rw [hW0]; simp
  have hbW : Below W0.heap.size W0 W := by rw [hW]; exact (Below.refl _ _).alloc (Nat.le_refl _) _
  have hq : W.heap[w.heap.size + 1]? = some (.cells #[.int .i64 0, .bool false, .string ⟨#[]⟩, .bool false, .slice none 0 0, .bool false, .slice none 0 0] 32 (0, 0)) := by rw [hW, ← hs0]; exact newAt _ _
  replace p0 := keep_cell hbW p0
  replace p1 := keep_cell hbW p1
  replace p2 := keep_cell hbW p2
  replace p3 := keep_cell hbW p3
  have hvW := (hv.next hbW0).next hbW
  have kS : Hid (Calls Tryz.prog 156 #[.agg #[.bool n1, .slice a1 l1 c1, .bool n2, .slice a2 l2 c2]] W _) := shorten_num hvW hm
  have kI : Hid (∀ X, Below W.heap.size W X → Calls Tryz.prog 157 #[.agg #[.bool n1, .slice a1 l1 c1, .bool n2, .slice a2 l2 c2]] X fun e w' => e = .returned (.bool true) ∧ Below X.heap.size X w') := fun X hX => (isWhole_num (hvW.next hX) hm).mono fun e w' h => ⟨by rw [h.1]; simp [hw], h.2⟩
  have hB : Hid (Below w.heap.size w W) := hbW0.trans (hbW.mono (by omega))
  have hqh : Hid (W.heap[w.heap.size + 1]? = some (.cells #[.int .i64 0, .bool false, .string ⟨#[]⟩, .bool false, .slice none 0 0, .bool false, .slice none 0 0] 32 (0, 0))) := hq
  have hsW : Hid (w.heap.size + 1 < W.heap.size) := (Array.getElem?_eq_some_iff.1 hq).1
  clear hv hvW hq hbW hbW0 hs0 hlt0 hw
  go_enter Tryz.func88, Tryz.ntmps88
  go_upto_region 1 with fail
  rw [← hW0, ← hW]
  clear hW hW0
  go_wp2_with fail
  refine Calls.mono kS.out ?_
  rintro e w1 ⟨rfl, hb1⟩
  obtain ⟨X1, hX1⟩ : ∃ X1, X1 = w1.alloc (.cells #[.bool n1, .slice a1 l1 c1, .bool n2, .slice a2 l2 c2] 30) := ⟨_, rfl⟩
  have hbX1 : Below w1.heap.size w1 X1 := by rw [hX1]; exact (Below.refl _ _).alloc (Nat.le_refl _) _
  have hqX : X1.heap[w1.heap.size]? = some (.cells #[.bool n1, .slice a1 l1 c1, .bool n2, .slice a2 l2 c2] 30 (0, 0)) := by rw [hX1]; exact newAt _ _
  obtain ⟨⟨x0, x1, x2, x3⟩, _, xl⟩ := cells4 hqX
  have hbWX : Below W.heap.size W X1 := hb1.trans (hbX1.mono hb1.size)
  have kI' : Hid (Calls Tryz.prog 157 #[.agg #[.bool n1, .slice a1 l1 c1, .bool n2, .slice a2 l2 c2]] X1 _) := kI.out X1 hbWX
  have hbWXh : Hid (Below W.heap.size W X1) := hbWX
  have hqXh : Hid (X1.heap[w1.heap.size]? = some (.cells #[.bool n1, .slice a1 l1 c1, .bool n2, .slice a2 l2 c2] 30 (0, 0))) := hqX
  clear kS kI hb1 hbX1 hbWX hqX p0 p1 p2 p3
  go_upto_region 2 with fail
  rw [← hX1]
  clear hX1
  obtain ⟨bx, hbx⟩ : ∃ bx, bx = w1.heap.size := ⟨_, rfl⟩
  rw [← hbx] at x0 x1 x2 x3 xl hqXh ⊢
  clear hbx
  go_wp2_with fail
  refine Calls.mono kI'.out ?_
  clear kI'
  rintro e w2 ⟨rfl, hb2⟩
  replace x0 := keep_cell hb2 x0
  replace x1 := keep_cell hb2 x1
  replace x2 := keep_cell hb2 x2
  replace x3 := keep_cell hb2 x3
  have hq2 := (hb2.block _ (by have := hsW.out; have := hbWXh.out.size; omega)).trans ((hbWXh.out.block _ hsW.out).trans hqh.out)
  have hB2 : Hid (Below w.heap.size w w2) := hB.out.trans ((hbWXh.out.mono (by have := hsW.out; omega)).trans (hb2.mono (by have := hsW.out; have := hbWXh.out.size; omega)))
  obtain ⟨⟨r0, r1, r2, r3, r4, r5, r6⟩, rf, rl⟩ := cells7 hq2
  have rf0 := rf 0
  have rf1 := rf 1
  have rf2 := rf 2
  have rf3 := rf 3
  have rf4 := rf 4
  have rf5 := rf 5
  have rf6 := rf 6
  obtain ⟨W8, hW8⟩ : ∃ W8, W8 = put7 w2 (w.heap.size + 1) (.int .i64 3) (.bool false) (.string ⟨#[]⟩) (.bool n1) (.slice a1 l1 c1) (.bool n2) (.slice a2 l2 c2) := ⟨_, rfl⟩
  have hqW8 : Hid (W8.heap[w.heap.size + 1]? = some (.cells #[.int .i64 3, .bool false, .string ⟨#[]⟩, .bool n1, .slice a1 l1 c1, .bool n2, .slice a2 l2 c2] 32 (0, 0))) := by show _ = _; rw [hW8]; exact put7_at hq2
  have hBW8 : Hid (Below w.heap.size w W8) := by
    show Below _ _ _
    rw [hW8]
    exact put7_below hB2.out (by omega)
  clear hq2 rf hb2 hqh hqXh hbWXh hB hB2
  go_wp2
  unfold put7 at hW8
  rw [← hW8]
  obtain ⟨⟨j0, j1, j2, j3, j4, j5, j6⟩, _, _⟩ := cells7 hqW8.out
  exact bodyPost_ret (v := .agg #[.int .i64 3, .bool false, .string ⟨#[]⟩, .bool n1, .slice a1 l1 c1, .bool n2, .slice a2 l2 c2]) (by simp [results, Tryz.results88, go_sem, j0, j1, j2, j3, j4, j5, j6]) rfl ⟨rfl, hBW8.out⟩
end Go.Proofs.YtclokcoimdjaeaaGreatDoor
