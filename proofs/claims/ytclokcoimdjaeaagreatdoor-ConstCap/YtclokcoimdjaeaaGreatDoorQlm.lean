/- constants: judge, Compare, Eq of whole ones. -/
import Derived.Test.YtclokcoimdjaeaaGreatDoorQj
namespace Go.Proofs.YtclokcoimdjaeaaGreatDoor
open Go.RowKit
attribute [local go_sem ↓] Go.wp_at_zero Go.wp_at_succ
set_option maxRecDepth 20000 in
set_option maxHeartbeats 2000000 in
theorem judge_eq (o : Int) (w : World) : Calls Tryz.prog 52 #[.string ⟨#[61, 61]⟩, .int .i64 o] w fun e w' => e = .returned (.tuple #[.bool (o == 0), .bool true]) ∧ Below w.heap.size w w' := by
  obtain ⟨T, hT⟩ : ∃ T, T = (o == 0) := ⟨_, rfl⟩
  rw [← hT]
  go_enter Tryz.func52, Tryz.ntmps52
  go_wp2
  refine bodyPost_ret (v := .tuple #[.bool (o == 0), .bool true]) (by simp [results, Tryz.results52, go_sem]) rfl ⟨by rw [hT], Below.refl _ _⟩
set_option maxRecDepth 20000 in
set_option maxHeartbeats 2000000 in
theorem judge_lt (o : Int) (w : World) : Calls Tryz.prog 52 #[.string ⟨#[60]⟩, .int .i64 o] w fun e w' => e = .returned (.tuple #[.bool (decide (o < 0)), .bool true]) ∧ Below w.heap.size w w' := by
  obtain ⟨T, hT⟩ : ∃ T, T = (decide (o < 0)) := ⟨_, rfl⟩
  rw [← hT]
  go_enter Tryz.func52, Tryz.ntmps52
  go_wp2
  refine bodyPost_ret (v := .tuple #[.bool (decide (o < 0)), .bool true]) (by simp [results, Tryz.results52, go_sem]) rfl ⟨by rw [hT], Below.refl _ _⟩
theorem cmpI_both {y z p q : Int} (hp : 0 < p) (hq : 0 < q) : cmpI (y * p * q) (z * q * p) = cmpI y z := by
  have hpq : 0 < p * q := Int.mul_pos hp hq
  have e1 : y * p * q = y * (p * q) := by rw [Int.mul_assoc]
  have e2 : z * q * p = z * (p * q) := by rw [Int.mul_assoc, Int.mul_comm q p]
  rw [e1, e2]
  have h1 : (y * (p * q) < z * (p * q)) ↔ y < z := ⟨fun h => Int.lt_of_mul_lt_mul_right h (Int.le_of_lt hpq), fun h => Int.mul_lt_mul_of_pos_right h hpq⟩
  have h2 : (z * (p * q) < y * (p * q)) ↔ z < y := ⟨fun h => Int.lt_of_mul_lt_mul_right h (Int.le_of_lt hpq), fun h => Int.mul_lt_mul_of_pos_right h hpq⟩
  unfold cmpI
  by_cases a1 : y < z
  · simp [a1, h1.2 a1]
  · by_cases a2 : z < y
    · have := h2.2 a2
      simp [a1, h1]
      try omega
    · have e : y = z := by omega
      subst e
      simp
theorem two_new {w : World} {A B : Obj} : ∃ W, W = (w.alloc A).alloc B ∧ W.heap[w.heap.size]? = some A ∧ W.heap[w.heap.size + 1]? = some B ∧ Below w.heap.size w W ∧ W.heap.size = w.heap.size + 1 + 1 := by
  have h1 : ((w.alloc A)).heap.size = w.heap.size + 1 := by simp
  refine ⟨_, rfl, ?_, ?_, ((Below.refl _ _).alloc (Nat.le_refl _) _).alloc (by simp) _, by simp⟩
  · rw [Below.heap_alloc _ _ _ (by omega)]; exact newAt _ _
  · rw [← h1]; exact newAt _ _
def Pair (w : World) (b : Nat) (A B : Array Value) (FA FB : Value) (n d n' d' : Int) (m : Nat) (wx : World) : Prop :=
  wx.heap[b]? = some (.cells A 32 (0, 0)) ∧ wx.heap[b + 1]? = some (.cells B 32 (0, 0)) ∧ Frac wx FA n d m ∧ Frac wx FB n' d' m ∧ Below b w wx
set_option maxRecDepth 20000 in
set_option maxHeartbeats 2000000 in
theorem Compare_raw {w : World} {n1 : Bool} {a1 : Option Addr} {l1 c1 : Nat} {n2 : Bool} {a2 : Option Addr} {l2 c2 : Nat} {m1 : Bool} {b1 : Option Addr} {k1 d1 : Nat} {m2 : Bool} {b2 : Option Addr} {k2 d2 : Nat} {n d n' d' y z : Int} {m : Nat} (s : ByteArray) (J : Int → Bool) (hm : m ≤ 80)
    (hF : Frac w (.agg #[.bool n1, .slice a1 l1 c1, .bool n2, .slice a2 l2 c2]) n d m) (hG : Frac w (.agg #[.bool m1, .slice b1 k1 d1, .bool m2, .slice b2 k2 d2]) n' d' m) (hy : pN n d = y * pD d) (hz : pN n' d' = z * pD d')
    (hj : ∀ (o : Int) (X : World), Calls Tryz.prog 52 #[.string s, .int .i64 o] X fun e w' => e = .returned (.tuple #[.bool (J o), .bool true]) ∧ Below X.heap.size X w') :
    Calls Tryz.prog 17 #[.string s, .agg #[.int .i64 3, .bool false, .string ⟨#[]⟩, .bool n1, .slice a1 l1 c1, .bool n2, .slice a2 l2 c2], .agg #[.int .i64 3, .bool false, .string ⟨#[]⟩, .bool m1, .slice b1 k1 d1, .bool m2, .slice b2 k2 d2]] w fun e w' => e = .returned (.tuple #[.bool (J (cmpI y z)), .bool true]) ∧ Below w.heap.size w w' := by
  have hwA : (pN n d).tmod (pD d) = 0 := by rw [hy]; exact Int.mul_tmod_left _ _
  have hwB : (pN n' d').tmod (pD d') = 0 := by rw [hz]; exact Int.mul_tmod_left _ _
  have hcmp : Hid (cmpI (pN n d * pD d') (pN n' d' * pD d) = cmpI y z) := by show _ = _; rw [hy, hz]; exact cmpI_both (pD_pos d) (pD_pos d')
  obtain ⟨W, hW, hq4, hq5, hbW, hsz⟩ := two_new (w := w) (A := .cells #[.int .i64 3, .bool false, .string ⟨#[]⟩, .bool n1, .slice a1 l1 c1, .bool n2, .slice a2 l2 c2] 32) (B := .cells #[.int .i64 3, .bool false, .string ⟨#[]⟩, .bool m1, .slice b1 k1 d1, .bool m2, .slice b2 k2 d2] 32)
  have hFW := hF.next hbW
  have hGW := hG.next hbW
  have kA : Hid (∀ X, Below W.heap.size W X → Calls Tryz.prog 41 #[.agg #[.int .i64 3, .bool false, .string ⟨#[]⟩, .bool n1, .slice a1 l1 c1, .bool n2, .slice a2 l2 c2]] X fun e w' => e = .returned (.agg #[.int .i64 3, .bool false, .string ⟨#[]⟩, .bool n1, .slice a1 l1 c1, .bool n2, .slice a2 l2 c2]) ∧ Below X.heap.size X w') := fun X hX => admit_int (hFW.next hX) (by omega) hwA
  have kB : Hid (∀ X, Below W.heap.size W X → Calls Tryz.prog 41 #[.agg #[.int .i64 3, .bool false, .string ⟨#[]⟩, .bool m1, .slice b1 k1 d1, .bool m2, .slice b2 k2 d2]] X fun e w' => e = .returned (.agg #[.int .i64 3, .bool false, .string ⟨#[]⟩, .bool m1, .slice b1 k1 d1, .bool m2, .slice b2 k2 d2]) ∧ Below X.heap.size X w') := fun X hX => admit_int (hGW.next hX) (by omega) hwB
  have hcuts : Hid (Frac W (.agg #[.bool n1, .slice a1 l1 c1, .bool n2, .slice a2 l2 c2]) n d m ∧ Frac W (.agg #[.bool m1, .slice b1 k1 d1, .bool m2, .slice b2 k2 d2]) n' d' m ∧ Below w.heap.size w W ∧ W.heap.size = w.heap.size + 1 + 1) := ⟨hFW, hGW, hbW, hsz⟩
  obtain ⟨⟨p0, p1, p2, p3, p4, p5, p6⟩, pf, _⟩ := cells7 hq4
  obtain ⟨⟨q0, q1, q2, q3, q4, q5, q6⟩, qf, _⟩ := cells7 hq5
  have hq4h : Hid (W.heap[w.heap.size]? = some (.cells #[.int .i64 3, .bool false, .string ⟨#[]⟩, .bool n1, .slice a1 l1 c1, .bool n2, .slice a2 l2 c2] 32 (0, 0))) := hq4
  have hq5h : Hid (W.heap[w.heap.size + 1]? = some (.cells #[.int .i64 3, .bool false, .string ⟨#[]⟩, .bool m1, .slice b1 k1 d1, .bool m2, .slice b2 k2 d2] 32 (0, 0))) := hq5
  have hjh : Hid (∀ (o : Int) (X : World), Calls Tryz.prog 52 #[.string s, .int .i64 o] X fun e w' => e = .returned (.tuple #[.bool (J o), .bool true]) ∧ Below X.heap.size X w') := hj
  have hdh : Hid (Below W.heap.size W W.drew) := (Below.refl _ _).drew
  obtain ⟨O, hO⟩ : ∃ O, O = cmpI y z := ⟨_, rfl⟩
  rw [← hO] at hcmp ⊢
  clear hF hG hy hz hj hwA hwB hq4 hq5 hbW hsz hFW hGW pf qf hO
  go_enter Tryz.func17, Tryz.ntmps17
  go_upto_region 1 with fail
  rw [← hW]
  clear hW
  obtain ⟨r, hr⟩ : ∃ r, r = w.heap.size := ⟨_, rfl⟩
  have hrh : Hid (r = w.heap.size) := hr
  rw [← hr] at p0 q0 p1 q1 p2 q2 p3 q3 p4 q4 p5 q5 p6 q6 hq4h hq5h ⊢
  clear hr
  go_cut [11] from 8 to 11 (fun _ wx => Hid (Pair w r #[.int .i64 3, .bool false, .string ⟨#[]⟩, .bool n1, .slice a1 l1 c1, .bool n2, .slice a2 l2 c2] #[.int .i64 3, .bool false, .string ⟨#[]⟩, .bool m1, .slice b1 k1 d1, .bool m2, .slice b2 k2 d2] (.agg #[.bool n1, .slice a1 l1 c1, .bool n2, .slice a2 l2 c2]) (.agg #[.bool m1, .slice b1 k1 d1, .bool m2, .slice b2 k2 d2]) n d n' d' m wx))
  case first =>
    go_region_with (first
      | (go_at_call 41; refine Calls.mono (kA.out _ hdh.out) ?_; rintro e w5 ⟨rfl, hb5⟩; clear kA
         replace hb5 : Below W.heap.size W w5 := hdh.out.trans hb5
         replace q0 := keep_cell hb5 q0; replace q1 := keep_cell hb5 q1; replace q2 := keep_cell hb5 q2; replace q3 := keep_cell hb5 q3; replace q4 := keep_cell hb5 q4; replace q5 := keep_cell hb5 q5; replace q6 := keep_cell hb5 q6
         have hb5h : Hid (Below W.heap.size W w5) := hb5
         clear hb5)
      | (go_at_call 41; refine Calls.mono (kB.out _ hb5h.out) ?_; rintro e w6 ⟨rfl, hb6⟩; clear kB
         have hb6h : Hid (Below W.heap.size W w6) := hb5h.out.trans (hb6.mono hb5h.out.size)
         have hqA : w6.heap[r]? = _ := (hb6h.out.block r (by have := hcuts.out.2.2.2; have := hrh.out; omega)).trans hq4h.out
         have hqB : w6.heap[r + 1]? = _ := (hb6h.out.block (r + 1) (by have := hcuts.out.2.2.2; have := hrh.out; omega)).trans hq5h.out
         obtain ⟨⟨u0, u1, u2, u3, u4, u5, u6⟩, uf, _⟩ := cells7 hqA
         obtain ⟨⟨v0, v1, v2, v3, v4, v5, v6⟩, vf, _⟩ := cells7 hqB
         have uf0 := uf 0; have uf1 := uf 1; have uf2 := uf 2; have uf3 := uf 3; have uf4 := uf 4; have uf5 := uf 5; have uf6 := uf 6
         have vf0 := vf 0; have vf1 := vf 1; have vf2 := vf 2; have vf3 := vf 3; have vf4 := vf 4; have vf5 := vf 5; have vf6 := vf 6
         clear hb6 hqA hqB uf vf))
    all_goals
      go_wp2_with fail
      go_meet
      case rel =>
        have hs := hcuts.out.2.2.2
        have hr' := hrh.out
        have h6 := hb6h.out
        have s6 := h6.size
        have hqA : w6.heap[r]? = some (.cells #[.int .i64 3, .bool false, .string ⟨#[]⟩, .bool n1, .slice a1 l1 c1, .bool n2, .slice a2 l2 c2] 32 (0, 0)) := (h6.block r (by omega)).trans hq4h.out
        have hqB : w6.heap[r + 1]? = some (.cells #[.int .i64 3, .bool false, .string ⟨#[]⟩, .bool m1, .slice b1 k1 d1, .bool m2, .slice b2 k2 d2] 32 (0, 0)) := (h6.block (r + 1) (by omega)).trans hq5h.out
        have hT : Pair w r #[.int .i64 3, .bool false, .string ⟨#[]⟩, .bool n1, .slice a1 l1 c1, .bool n2, .slice a2 l2 c2] #[.int .i64 3, .bool false, .string ⟨#[]⟩, .bool m1, .slice b1 k1 d1, .bool m2, .slice b2 k2 d2] (.agg #[.bool n1, .slice a1 l1 c1, .bool n2, .slice a2 l2 c2]) (.agg #[.bool m1, .slice b1 k1 d1, .bool m2, .slice b2 k2 d2]) n d n' d' m (put7 (put7 w6 r (.int .i64 3) (.bool false) (.string ⟨#[]⟩) (.bool n1) (.slice a1 l1 c1) (.bool n2) (.slice a2 l2 c2)) (r + 1) (.int .i64 3) (.bool false) (.string ⟨#[]⟩) (.bool m1) (.slice b1 k1 d1) (.bool m2) (.slice b2 k2 d2)) := by
          have cA : CBox w6 r := ⟨_, _, _, _, _, _, _, _, _, _, _, hqA⟩
          have cB : ∀ {x0 x1 x2 x3 x4 x5 x6 : Value}, CBox (put7 w6 r x0 x1 x2 x3 x4 x5 x6) (r + 1) := ⟨_, _, _, _, _, _, _, _, _, _, _, (put7_same (by omega)).trans hqB⟩
          refine ⟨(put7_same (by omega)).trans (put7_at hqA), put7_at ((put7_same (by omega)).trans hqB), frac_put7 cB (frac_put7 cA (hcuts.out.1.next h6)), frac_put7 cB (frac_put7 cA (hcuts.out.2.1.next h6)), ?_⟩
          have hb := hcuts.out.2.2.1
          rw [← hr'] at hb
          exact put7_below (put7_below (hb.trans (h6.mono (by omega))) (Nat.le_refl _)) (by omega)
        unfold put7 at hT
        exact hT
  case rest =>
    obtain ⟨hq4, hq5, hF, hG, hb⟩ := hcut.out
    clear hcut
    obtain ⟨⟨x0, x1, x2, x3, x4, x5, x6⟩, xf, _⟩ := cells7 hq4
    obtain ⟨⟨y0, y1, y2, y3, y4, y5, y6⟩, yf, _⟩ := cells7 hq5
    have kK : Hid (Calls Tryz.prog 49 #[.agg #[.int .i64 3, .bool false, .string ⟨#[]⟩, .bool n1, .slice a1 l1 c1, .bool n2, .slice a2 l2 c2], .agg #[.int .i64 3, .bool false, .string ⟨#[]⟩, .bool m1, .slice b1 k1 d1, .bool m2, .slice b2 k2 d2]] wc _) := commonKind_int
    have hl6 : r + 1 < wc.heap.size := (Array.getElem?_eq_some_iff.1 hq5).1
    have kC : Hid (∀ X, Below wc.heap.size wc X → Calls Tryz.prog 54 #[.agg #[.bool n1, .slice a1 l1 c1, .bool n2, .slice a2 l2 c2], .agg #[.bool m1, .slice b1 k1 d1, .bool m2, .slice b2 k2 d2]] X fun e w' => e = .returned (.int .i64 O) ∧ Below X.heap.size X w') := fun X hX => (Cmp26_num (hF.next hX) (hG.next hX) (by omega)).mono fun e w' h => ⟨by rw [h.1, hcmp.out], h.2⟩
    have hbh : Hid (Below r w wc ∧ r + 1 < wc.heap.size) := ⟨hb, hl6⟩
    clear hq4 hq5 hF hG hb hl6 xf yf hcuts hq4h hq5h hdh kA kB hcmp p0 q0 p1 q1 p2 q2 p3 q3 p4 q4 p5 q5 p6 q6
    go_wp2_with fail
    refine Calls.mono kK.out ?_
    clear kK
    rintro e w1 ⟨rfl, hb1⟩
    have hb1h : Hid (Below wc.heap.size wc w1) := hb1
    replace x0 := keep_cell hb1 x0
    replace x1 := keep_cell hb1 x1
    replace x2 := keep_cell hb1 x2
    replace x3 := keep_cell hb1 x3
    replace x4 := keep_cell hb1 x4
    replace x5 := keep_cell hb1 x5
    replace x6 := keep_cell hb1 x6
    replace y0 := keep_cell hb1 y0
    replace y1 := keep_cell hb1 y1
    replace y2 := keep_cell hb1 y2
    replace y3 := keep_cell hb1 y3
    replace y4 := keep_cell hb1 y4
    replace y5 := keep_cell hb1 y5
    replace y6 := keep_cell hb1 y6
    have kC' : Hid (Calls Tryz.prog 54 #[.agg #[.bool n1, .slice a1 l1 c1, .bool n2, .slice a2 l2 c2], .agg #[.bool m1, .slice b1 k1 d1, .bool m2, .slice b2 k2 d2]] w1 fun e w' => e = .returned (.int .i64 O) ∧ Below w1.heap.size w1 w') := kC.out w1 hb1
    clear hb1 kC
    go_wp2_with fail
    refine Calls.mono kC'.out ?_
    clear kC'
    rintro e w2 ⟨rfl, hb2⟩
    have hb2h : Hid (Below w1.heap.size w1 w2) := hb2
    clear hb2 x0 y0 x1 y1 x2 y2 x3 y3 x4 y4 x5 y5 x6 y6
    go_wp2_with fail
    refine Calls.mono (hjh.out O w2) ?_
    rintro e w3 ⟨rfl, hb3⟩
    have hB : Hid (Below w.heap.size w w3) := by
      show Below _ _ _
      rw [← hrh.out]
      have s1 := hb1h.out.size
      have s2 := hb2h.out.size
      have s0 := hbh.out.2
      exact hbh.out.1.trans ((hb1h.out.mono (by omega)).trans ((hb2h.out.mono (by omega)).trans (hb3.mono (by omega))))
    clear hb3 hb2h hb1h hbh
    go_wp2
    exact bodyPost_ret (v := .tuple #[.bool (J O), .bool true]) (by simp [results, Tryz.results17, go_sem]) rfl ⟨rfl, hB.out⟩
set_option maxRecDepth 20000 in
set_option maxHeartbeats 2000000 in
theorem Eq_raw {w : World} {n1 : Bool} {a1 : Option Addr} {l1 c1 : Nat} {n2 : Bool} {a2 : Option Addr} {l2 c2 : Nat} {m1 : Bool} {b1 : Option Addr} {k1 d1 : Nat} {m2 : Bool} {b2 : Option Addr} {k2 d2 : Nat} {n d n' d' y z : Int} {m : Nat} (hm : m ≤ 80)
    (hF : Frac w (.agg #[.bool n1, .slice a1 l1 c1, .bool n2, .slice a2 l2 c2]) n d m) (hG : Frac w (.agg #[.bool m1, .slice b1 k1 d1, .bool m2, .slice b2 k2 d2]) n' d' m) (hy : pN n d = y * pD d) (hz : pN n' d' = z * pD d') :
    Calls Tryz.prog 21 #[.agg #[.int .i64 3, .bool false, .string ⟨#[]⟩, .bool n1, .slice a1 l1 c1, .bool n2, .slice a2 l2 c2], .agg #[.int .i64 3, .bool false, .string ⟨#[]⟩, .bool m1, .slice b1 k1 d1, .bool m2, .slice b2 k2 d2]] w fun e w' => e = .returned (.bool (decide (y = z))) ∧ Below w.heap.size w w' := by
  obtain ⟨W, hW, hq4, hq5, hbW, hsz⟩ := two_new (w := w) (A := .cells #[.int .i64 3, .bool false, .string ⟨#[]⟩, .bool n1, .slice a1 l1 c1, .bool n2, .slice a2 l2 c2] 32) (B := .cells #[.int .i64 3, .bool false, .string ⟨#[]⟩, .bool m1, .slice b1 k1 d1, .bool m2, .slice b2 k2 d2] 32)
  have kC : Hid (Calls Tryz.prog 17 #[.string ⟨#[61, 61]⟩, .agg #[.int .i64 3, .bool false, .string ⟨#[]⟩, .bool n1, .slice a1 l1 c1, .bool n2, .slice a2 l2 c2], .agg #[.int .i64 3, .bool false, .string ⟨#[]⟩, .bool m1, .slice b1 k1 d1, .bool m2, .slice b2 k2 d2]] W fun e w' => e = .returned (.tuple #[.bool (cmpI y z == 0), .bool true]) ∧ Below W.heap.size W w') := Compare_raw ⟨#[61, 61]⟩ (fun o => o == 0) hm (hF.next hbW) (hG.next hbW) hy hz (fun o X => judge_eq o X)
  obtain ⟨⟨p0, p1, p2, p3, p4, p5, p6⟩, pf, _⟩ := cells7 hq4
  obtain ⟨⟨q0, q1, q2, q3, q4, q5, q6⟩, qf, _⟩ := cells7 hq5
  have heq : (cmpI y z == 0) = decide (y = z) := by
    by_cases h : y = z
    · rw [cmpI_eq h]; simp [h]
    · rcases Int.lt_or_gt_of_ne h with h1 | h1
      · rw [cmpI_lt h1]; simp [h]
      · rw [cmpI_gt h1]; simp [h]
  rw [heq] at kC
  obtain ⟨T, hT⟩ : ∃ T, T = decide (y = z) := ⟨_, rfl⟩
  rw [← hT] at kC ⊢
  have hBh : Hid (Below w.heap.size w W ∧ W.heap.size = w.heap.size + 1 + 1) := ⟨hbW, hsz⟩
  clear hT heq hq4 hq5 hbW hsz hF hG hy hz pf qf
  go_enter Tryz.func21, Tryz.ntmps21
  go_upto_region 1 with fail
  rw [← hW]
  clear hW
  go_wp2_with fail
  refine Calls.mono kC.out ?_
  clear kC
  rintro e w1 ⟨rfl, hb1⟩
  replace p0 := keep_cell hb1 p0
  replace p1 := keep_cell hb1 p1
  replace p2 := keep_cell hb1 p2
  replace p3 := keep_cell hb1 p3
  replace p4 := keep_cell hb1 p4
  replace p5 := keep_cell hb1 p5
  replace p6 := keep_cell hb1 p6
  replace q0 := keep_cell hb1 q0
  replace q1 := keep_cell hb1 q1
  replace q2 := keep_cell hb1 q2
  replace q3 := keep_cell hb1 q3
  replace q4 := keep_cell hb1 q4
  replace q5 := keep_cell hb1 q5
  replace q6 := keep_cell hb1 q6
  have hB : Hid (Below w.heap.size w w1) := hBh.out.1.trans (hb1.mono (by have := hBh.out.2; omega))
  clear hb1 hBh
  cases T with
  | true =>
    go_wp2
    go_ret
    exact ⟨rfl, hB.out⟩
  | false =>
    go_wp2
    go_ret
    exact ⟨rfl, hB.out⟩
end Go.Proofs.YtclokcoimdjaeaaGreatDoor
namespace Go.Proofs.YtclokcoimdjaeaaGreatDoor
open Go.RowKit
attribute [local go_sem ↓] Go.wp_at_zero Go.wp_at_succ
set_option maxRecDepth 20000 in
set_option maxHeartbeats 2000000 in
theorem whole_any (k : Int) (w : World) (h0 : -9223372036854775808 ≤ k) (h1 : k ≤ 9223372036854775807) :
    Calls Tryz.prog 31 #[.int .i64 k] w fun e w' => ∃ t, e = .returned t ∧ CI w' t k 6 ∧ Below w.heap.size w w' := by
  obtain ⟨W, hW⟩ : ∃ W, W = w.alloc (.cells #[.int .i64 0, .bool false, .string ⟨#[]⟩, .bool false, .slice none 0 0, .bool false, .slice none 0 0] 32) := ⟨_, rfl⟩
  have hbW : Below w.heap.size w W := by rw [hW]; exact (Below.refl _ _).alloc (Nat.le_refl _) _
  have hsz : W.heap.size = w.heap.size + 1 := by rw [hW]; simp
  have hq : W.heap[w.heap.size]? = some (.cells #[.int .i64 0, .bool false, .string ⟨#[]⟩, .bool false, .slice none 0 0, .bool false, .slice none 0 0] 32 (0, 0)) := by rw [hW]; exact newAt _ _
  have kA : Hid (Calls Tryz.prog 44 #[.int .i64 k] W _) := Of_any k W h0 h1
  have hall : Hid (Below w.heap.size w W ∧ W.heap.size = w.heap.size + 1 ∧ W.heap[w.heap.size]? = some (.cells #[.int .i64 0, .bool false, .string ⟨#[]⟩, .bool false, .slice none 0 0, .bool false, .slice none 0 0] 32 (0, 0))) := ⟨hbW, hsz, hq⟩
  clear hbW hsz hq
  go_enter Tryz.func31, Tryz.ntmps31
  go_upto_region 1 with fail
  rw [← hW]
  clear hW
  go_wp2_with fail
  refine Calls.mono kA.out ?_
  clear kA
  rintro e w1 ⟨t, rfl, hO, hb1⟩
  obtain ⟨ng, a, l, c, rfl⟩ := hO.form
  have kB : Hid (Calls Tryz.prog 70 #[.agg #[.bool ng, .slice a l c]] w1 _) := Whole_num hO.num (by omega)
  have hb1h : Hid (Below W.heap.size W w1) := hb1
  clear hO hb1
  go_wp2_with fail
  refine Calls.mono kB.out ?_
  clear kB
  rintro e w2 ⟨t, rfl, ⟨pp, qq, hFE, hlow⟩, hb2⟩
  have hF := hFE.frac
  obtain ⟨n1, a1, l1, c1, n2, a2, l2, c2, rfl, _, _⟩ := hFE
  have hX : Below W.heap.size W w2 := hb1h.out.trans (hb2.mono hb1h.out.size)
  have hq2 := (hX.block _ (by have := hall.out.2.1; omega)).trans hall.out.2.2
  have hB2 : Hid (Below w.heap.size w w2) := hall.out.1.trans (hX.mono (by have := hall.out.2.1; omega))
  obtain ⟨⟨r0, r1, r2, r3, r4, r5, r6⟩, rf, rl⟩ := cells7 hq2
  have rf0 := rf 0
  have rf1 := rf 1
  have rf2 := rf 2
  have rf3 := rf 3
  have rf4 := rf 4
  have rf5 := rf 5
  have rf6 := rf 6
  obtain ⟨W8, hW8⟩ : ∃ W8, W8 = put7 w2 (w.heap.size) (.int .i64 3) (.bool false) (.string ⟨#[]⟩) (.bool n1) (.slice a1 l1 c1) (.bool n2) (.slice a2 l2 c2) := ⟨_, rfl⟩
  have hqW8 : Hid (W8.heap[w.heap.size]? = some (.cells #[.int .i64 3, .bool false, .string ⟨#[]⟩, .bool n1, .slice a1 l1 c1, .bool n2, .slice a2 l2 c2] 32 (0, 0))) := by show _ = _; rw [hW8]; exact put7_at hq2
  have hBW8 : Hid (Below w.heap.size w W8) := by
    show Below _ _ _
    rw [hW8]
    exact put7_below hB2.out (by omega)
  have hC8 : Hid (CI W8 (.agg #[.int .i64 3, .bool false, .string ⟨#[]⟩, .bool n1, .slice a1 l1 c1, .bool n2, .slice a2 l2 c2]) k 6) := by
    refine ⟨pp, qq, ⟨_, _, _, _, _, _, _, _, rfl, ?_⟩, low_one hlow⟩
    rw [hW8]
    exact frac_put7 ⟨_, _, _, _, _, _, _, _, _, _, _, hq2⟩ hF
  clear hq2 rf hb2 hX hF hlow hB2 hb1h hall
  go_wp2
  unfold put7 at hW8
  rw [← hW8]
  obtain ⟨⟨j0, j1, j2, j3, j4, j5, j6⟩, _, _⟩ := cells7 hqW8.out
  exact bodyPost_ret (v := .agg #[.int .i64 3, .bool false, .string ⟨#[]⟩, .bool n1, .slice a1 l1 c1, .bool n2, .slice a2 l2 c2]) (by simp [results, Tryz.results31, go_sem, j0, j1, j2, j3, j4, j5, j6]) rfl ⟨_, rfl, hC8.out, hBW8.out⟩
theorem Bin_quo {w : World} {u v : Value} {y z : Int} {m : Nat} (hu : CI w u y m) (hv : CI w v z m) (hm : m ≤ 70) (h0 : z ≠ 0) :
    Calls Tryz.prog 16 #[.string ⟨#[47]⟩, u, v] w fun e w' => ∃ t, e = .returned (.tuple #[t, .bool true]) ∧ CI w' t (y.tdiv z) (m + 4 + 4) ∧ Below w.heap.size w w' := by
  obtain ⟨n, d, ⟨n1, a1, l1, c1, n2, a2, l2, c2, rfl, hF⟩, hy⟩ := hu
  obtain ⟨n', d', ⟨m1, b1, k1, d1, m2, b2, k2, d2, rfl, hG⟩, hz⟩ := hv
  refine (Binary_raw ⟨#[47]⟩ (fun Z => Z = y.tdiv z) (m + 4) (by omega) (by omega) hF hG hy hz (fun X a b ha hb => ?_)).mono ?_
  · refine (calc_quo ha hb (by omega) (by omega) h0).mono ?_
    rintro e w' ⟨t, rfl, hO, hb⟩
    exact ⟨t, _, rfl, rfl, hO.more (by omega), hb⟩
  · rintro e w' ⟨t, Z, rfl, rfl, hC, hb⟩
    exact ⟨t, rfl, hC, hb⟩
theorem Eq_int {w : World} {u v : Value} {y z : Int} {m : Nat} (hu : CI w u y m) (hv : CI w v z m) (hm : m ≤ 80) :
    Calls Tryz.prog 21 #[u, v] w fun e w' => e = .returned (.bool (decide (y = z))) ∧ Below w.heap.size w w' := by
  obtain ⟨n, d, ⟨n1, a1, l1, c1, n2, a2, l2, c2, rfl, hF⟩, hy⟩ := hu
  obtain ⟨n', d', ⟨m1, b1, k1, d1, m2, b2, k2, d2, rfl, hG⟩, hz⟩ := hv
  exact Eq_raw hm hF hG hy hz
end Go.Proofs.YtclokcoimdjaeaaGreatDoor
