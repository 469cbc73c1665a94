/- constants: Binary of whole ones. -/
import Derived.Test.YtclokcoimdjaeaaGreatDoorQim
import Derived.Test.YtclokcoimdjaeaaGreatDoorQgm
import Derived.Deep.CutRange
import Derived.Deep.RegionWith
namespace Go.Proofs.YtclokcoimdjaeaaGreatDoor
open Go.RowKit
attribute [local go_sem ↓] Go.wp_at_zero Go.wp_at_succ
/-- Two whole constants at hand, in the boxes b and b + 1; the answer's box is b + 2. -/
def Two (w : World) (b : Nat) (A B : Array Value) (FA FB : Value) (n d n' d' : Int) (m : Nat) (wx : World) : Prop :=
  wx.heap[b]? = some (.cells A 32 (0, 0)) ∧ wx.heap[b + 1]? = some (.cells B 32 (0, 0)) ∧ wx.heap[b + 1 + 1]? = some (.cells #[.int .i64 0, .bool false, .string ⟨#[]⟩, .bool false, .slice none 0 0, .bool false, .slice none 0 0] 32 (0, 0)) ∧ Frac wx FA n d m ∧ Frac wx FB n' d' m ∧ Below b w wx
theorem three_new {w : World} {A B C : Obj} : ∃ W, W = ((w.alloc A).alloc B).alloc C ∧ W.heap[w.heap.size]? = some A ∧ W.heap[w.heap.size + 1]? = some B ∧ W.heap[w.heap.size + 1 + 1]? = some C ∧ Below w.heap.size w W ∧ W.heap.size = w.heap.size + 1 + 1 + 1 := by
  have h1 : ((w.alloc A)).heap.size = w.heap.size + 1 := by simp
  have h2 : ((w.alloc A).alloc B).heap.size = w.heap.size + 1 + 1 := by simp
  refine ⟨_, rfl, ?_, ?_, ?_, (((Below.refl _ _).alloc (Nat.le_refl _) _).alloc (by simp) _).alloc (by simp; omega) _, by simp⟩
  · rw [Below.heap_alloc _ _ _ (by omega), Below.heap_alloc _ _ _ (by omega)]; exact newAt _ _
  · rw [Below.heap_alloc _ _ _ (by omega), ← h1]; exact newAt _ _
  · rw [← h2]; exact newAt _ _
set_option maxRecDepth 20000 in
set_option maxHeartbeats 2000000 in
theorem Binary_raw {w : World} {n1 : Bool} {a1 : Option Addr} {l1 c1 : Nat} {n2 : Bool} {a2 : Option Addr} {l2 c2 : Nat} {m1 : Bool} {b1 : Option Addr} {k1 d1 : Nat} {m2 : Bool} {b2 : Option Addr} {k2 d2 : Nat} {n d n' d' y z : Int} {m : Nat} (s : ByteArray) (P : Int → Prop) (K : Nat) (hK : K ≤ 180) (hm : m ≤ 100)
    (hF : Frac w (.agg #[.bool n1, .slice a1 l1 c1, .bool n2, .slice a2 l2 c2]) n d m) (hG : Frac w (.agg #[.bool m1, .slice b1 k1 d1, .bool m2, .slice b2 k2 d2]) n' d' m) (hy : pN n d = y * pD d) (hz : pN n' d' = z * pD d')
    (hc : ∀ (X : World) (a b : Value), Num X a y (m + 3) → Num X b z (m + 3) → Calls Tryz.prog 89 #[.string s, a, b] X fun e w' => ∃ t Z, e = .returned (.tuple #[t, .bool true]) ∧ P Z ∧ OutE w' t Z K ∧ Below X.heap.size X w') :
    Calls Tryz.prog 16 #[.string s, .agg #[.int .i64 3, .bool false, .string ⟨#[]⟩, .bool n1, .slice a1 l1 c1, .bool n2, .slice a2 l2 c2], .agg #[.int .i64 3, .bool false, .string ⟨#[]⟩, .bool m1, .slice b1 k1 d1, .bool m2, .slice b2 k2 d2]] w fun e w' => ∃ t Z, e = .returned (.tuple #[t, .bool true]) ∧ P Z ∧ CI w' t Z (K + 4) ∧ Below w.heap.size w w' := by
  have hwA : (pN n d).tmod (pD d) = 0 := by rw [hy]; exact Int.mul_tmod_left _ _
  have hwB : (pN n' d').tmod (pD d') = 0 := by rw [hz]; exact Int.mul_tmod_left _ _
  have hyA : (pN n d).tdiv (pD d) = y := by rw [hy]; exact Int.mul_tdiv_cancel _ (by have := pD_pos d; omega)
  have hzB : (pN n' d').tdiv (pD d') = z := by rw [hz]; exact Int.mul_tdiv_cancel _ (by have := pD_pos d'; omega)
  obtain ⟨W, hW, hq4, hq5, hq6, hbW, hsz⟩ := three_new (w := w) (A := .cells #[.int .i64 3, .bool false, .string ⟨#[]⟩, .bool n1, .slice a1 l1 c1, .bool n2, .slice a2 l2 c2] 32) (B := .cells #[.int .i64 3, .bool false, .string ⟨#[]⟩, .bool m1, .slice b1 k1 d1, .bool m2, .slice b2 k2 d2] 32) (C := .cells #[.int .i64 0, .bool false, .string ⟨#[]⟩, .bool false, .slice none 0 0, .bool false, .slice none 0 0] 32)
  have hFW := hF.next hbW
  have hGW := hG.next hbW
  have kA : Hid (∀ X, Below W.heap.size W X → Calls Tryz.prog 41 #[.agg #[.int .i64 3, .bool false, .string ⟨#[]⟩, .bool n1, .slice a1 l1 c1, .bool n2, .slice a2 l2 c2]] X fun e w' => e = .returned (.agg #[.int .i64 3, .bool false, .string ⟨#[]⟩, .bool n1, .slice a1 l1 c1, .bool n2, .slice a2 l2 c2]) ∧ Below X.heap.size X w') := fun X hX => admit_int (hFW.next hX) (by omega) hwA
  have kB : Hid (∀ X, Below W.heap.size W X → Calls Tryz.prog 41 #[.agg #[.int .i64 3, .bool false, .string ⟨#[]⟩, .bool m1, .slice b1 k1 d1, .bool m2, .slice b2 k2 d2]] X fun e w' => e = .returned (.agg #[.int .i64 3, .bool false, .string ⟨#[]⟩, .bool m1, .slice b1 k1 d1, .bool m2, .slice b2 k2 d2]) ∧ Below X.heap.size X w') := fun X hX => admit_int (hGW.next hX) (by omega) hwB
  have hcuts : Hid (Frac W (.agg #[.bool n1, .slice a1 l1 c1, .bool n2, .slice a2 l2 c2]) n d m ∧ Frac W (.agg #[.bool m1, .slice b1 k1 d1, .bool m2, .slice b2 k2 d2]) n' d' m ∧ Below w.heap.size w W ∧ W.heap.size = w.heap.size + 1 + 1 + 1) := ⟨hFW, hGW, hbW, hsz⟩
  obtain ⟨⟨p0, p1, p2, p3, p4, p5, p6⟩, pf, _⟩ := cells7 hq4
  obtain ⟨⟨q0, q1, q2, q3, q4, q5, q6⟩, qf, _⟩ := cells7 hq5
  have hq4h : Hid (W.heap[w.heap.size]? = some (.cells #[.int .i64 3, .bool false, .string ⟨#[]⟩, .bool n1, .slice a1 l1 c1, .bool n2, .slice a2 l2 c2] 32 (0, 0))) := hq4
  have hq5h : Hid (W.heap[w.heap.size + 1]? = some (.cells #[.int .i64 3, .bool false, .string ⟨#[]⟩, .bool m1, .slice b1 k1 d1, .bool m2, .slice b2 k2 d2] 32 (0, 0))) := hq5
  have hq6h : Hid (W.heap[w.heap.size + 1 + 1]? = some (.cells #[.int .i64 0, .bool false, .string ⟨#[]⟩, .bool false, .slice none 0 0, .bool false, .slice none 0 0] 32 (0, 0))) := hq6
  have hch : Hid (∀ (X : World) (a b : Value), Num X a y (m + 3) → Num X b z (m + 3) → Calls Tryz.prog 89 #[.string s, a, b] X fun e w' => ∃ t Z, e = .returned (.tuple #[t, .bool true]) ∧ P Z ∧ OutE w' t Z K ∧ Below X.heap.size X w') := hc
  have hwh : Hid ((pN n d).tmod (pD d) = 0 ∧ (pN n' d').tmod (pD d') = 0 ∧ (pN n d).tdiv (pD d) = y ∧ (pN n' d').tdiv (pD d') = z) := ⟨hwA, hwB, hyA, hzB⟩
  have hdh : Hid (Below W.heap.size W W.drew) := (Below.refl _ _).drew
  clear hF hG hy hz hc hwA hwB hyA hzB hq4 hq5 hq6 hbW hsz hFW hGW pf qf
  go_enter Tryz.func16, Tryz.ntmps16
  go_upto_region 1 with fail
  rw [← hW]
  clear hW
  obtain ⟨r, hr⟩ : ∃ r, r = w.heap.size := ⟨_, rfl⟩
  have hrh : Hid (r = w.heap.size) := hr
  rw [← hr] at p0 q0 p1 q1 p2 q2 p3 q3 p4 q4 p5 q5 p6 q6 hq4h hq5h hq6h ⊢
  clear hr
  go_cut [13] from 10 to 13 (fun _ wx => Hid (Two w r #[.int .i64 3, .bool false, .string ⟨#[]⟩, .bool n1, .slice a1 l1 c1, .bool n2, .slice a2 l2 c2] #[.int .i64 3, .bool false, .string ⟨#[]⟩, .bool m1, .slice b1 k1 d1, .bool m2, .slice b2 k2 d2] (.agg #[.bool n1, .slice a1 l1 c1, .bool n2, .slice a2 l2 c2]) (.agg #[.bool m1, .slice b1 k1 d1, .bool m2, .slice b2 k2 d2]) n d n' d' m wx))
  case first =>
    go_region_with (first
      | (go_at_call 41; refine Calls.mono (kA.out _ hdh.out) ?_; rintro e w5 ⟨rfl, hb5⟩; clear kA
         replace hb5 : Below W.heap.size W w5 := hdh.out.trans hb5
         replace q0 := keep_cell hb5 q0; replace q1 := keep_cell hb5 q1; replace q2 := keep_cell hb5 q2; replace q3 := keep_cell hb5 q3; replace q4 := keep_cell hb5 q4; replace q5 := keep_cell hb5 q5; replace q6 := keep_cell hb5 q6
         have hb5h : Hid (Below W.heap.size W w5) := hb5
         clear hb5)
      | (go_at_call 41; refine Calls.mono (kB.out _ hb5h.out) ?_; rintro e w6 ⟨rfl, hb6⟩; clear kB
         have hb6h : Hid (Below W.heap.size W w6) := hb5h.out.trans (hb6.mono hb5h.out.size)
         have hqA : w6.heap[r]? = _ := (hb6h.out.block r (by have := hcuts.out.2.2.2; have := hrh.out; omega)).trans hq4h.out
         have hqB : w6.heap[r + 1]? = _ := (hb6h.out.block (r + 1) (by have := hcuts.out.2.2.2; have := hrh.out; omega)).trans hq5h.out
         obtain ⟨⟨u0, u1, u2, u3, u4, u5, u6⟩, uf, _⟩ := cells7 hqA
         obtain ⟨⟨v0, v1, v2, v3, v4, v5, v6⟩, vf, _⟩ := cells7 hqB
         have uf0 := uf 0; have uf1 := uf 1; have uf2 := uf 2; have uf3 := uf 3; have uf4 := uf 4; have uf5 := uf 5; have uf6 := uf 6
         have vf0 := vf 0; have vf1 := vf 1; have vf2 := vf 2; have vf3 := vf 3; have vf4 := vf 4; have vf5 := vf 5; have vf6 := vf 6
         clear hb6 hqA hqB uf vf))
    all_goals
      go_wp2_with fail
      go_meet
      case rel =>
        have hs := hcuts.out.2.2.2
        have hr' := hrh.out
        have h6 := hb6h.out
        have s6 := h6.size
        have hqA : w6.heap[r]? = some (.cells #[.int .i64 3, .bool false, .string ⟨#[]⟩, .bool n1, .slice a1 l1 c1, .bool n2, .slice a2 l2 c2] 32 (0, 0)) := (h6.block r (by omega)).trans hq4h.out
        have hqB : w6.heap[r + 1]? = some (.cells #[.int .i64 3, .bool false, .string ⟨#[]⟩, .bool m1, .slice b1 k1 d1, .bool m2, .slice b2 k2 d2] 32 (0, 0)) := (h6.block (r + 1) (by omega)).trans hq5h.out
        have hqC : w6.heap[r + 1 + 1]? = some (.cells #[.int .i64 0, .bool false, .string ⟨#[]⟩, .bool false, .slice none 0 0, .bool false, .slice none 0 0] 32 (0, 0)) := (h6.block (r + 1 + 1) (by omega)).trans hq6h.out
        have hT : Two w r #[.int .i64 3, .bool false, .string ⟨#[]⟩, .bool n1, .slice a1 l1 c1, .bool n2, .slice a2 l2 c2] #[.int .i64 3, .bool false, .string ⟨#[]⟩, .bool m1, .slice b1 k1 d1, .bool m2, .slice b2 k2 d2] (.agg #[.bool n1, .slice a1 l1 c1, .bool n2, .slice a2 l2 c2]) (.agg #[.bool m1, .slice b1 k1 d1, .bool m2, .slice b2 k2 d2]) n d n' d' m (put7 (put7 w6 r (.int .i64 3) (.bool false) (.string ⟨#[]⟩) (.bool n1) (.slice a1 l1 c1) (.bool n2) (.slice a2 l2 c2)) (r + 1) (.int .i64 3) (.bool false) (.string ⟨#[]⟩) (.bool m1) (.slice b1 k1 d1) (.bool m2) (.slice b2 k2 d2)) := by
          have cA : CBox w6 r := ⟨_, _, _, _, _, _, _, _, _, _, _, hqA⟩
          have cB : ∀ {x0 x1 x2 x3 x4 x5 x6 : Value}, CBox (put7 w6 r x0 x1 x2 x3 x4 x5 x6) (r + 1) := ⟨_, _, _, _, _, _, _, _, _, _, _, (put7_same (by omega)).trans hqB⟩
          refine ⟨(put7_same (by omega)).trans (put7_at hqA), put7_at ((put7_same (by omega)).trans hqB), (put7_same (by omega)).trans ((put7_same (by omega)).trans hqC), frac_put7 cB (frac_put7 cA (hcuts.out.1.next h6)), frac_put7 cB (frac_put7 cA (hcuts.out.2.1.next h6)), ?_⟩
          have hb := hcuts.out.2.2.1
          rw [← hr'] at hb
          exact put7_below (put7_below (hb.trans (h6.mono (by omega))) (Nat.le_refl _)) (by omega)
        unfold put7 at hT
        exact hT
  case rest =>
    obtain ⟨hq4, hq5, hq6, hF, hG, hb⟩ := hcut.out
    clear hcut
    obtain ⟨⟨x0, x1, x2, x3, x4, x5, x6⟩, xf, _⟩ := cells7 hq4
    obtain ⟨⟨y0, y1, y2, y3, y4, y5, y6⟩, yf, _⟩ := cells7 hq5
    have kK : Hid (Calls Tryz.prog 49 #[.agg #[.int .i64 3, .bool false, .string ⟨#[]⟩, .bool n1, .slice a1 l1 c1, .bool n2, .slice a2 l2 c2], .agg #[.int .i64 3, .bool false, .string ⟨#[]⟩, .bool m1, .slice b1 k1 d1, .bool m2, .slice b2 k2 d2]] wc _) := commonKind_int
    have hl6 : r + 1 + 1 < wc.heap.size := (Array.getElem?_eq_some_iff.1 hq6).1
    have hall : Hid (wc.heap[r]? = some (.cells #[.int .i64 3, .bool false, .string ⟨#[]⟩, .bool n1, .slice a1 l1 c1, .bool n2, .slice a2 l2 c2] 32 (0, 0)) ∧ wc.heap[r + 1]? = some (.cells #[.int .i64 3, .bool false, .string ⟨#[]⟩, .bool m1, .slice b1 k1 d1, .bool m2, .slice b2 k2 d2] 32 (0, 0)) ∧ wc.heap[r + 1 + 1]? = some (.cells #[.int .i64 0, .bool false, .string ⟨#[]⟩, .bool false, .slice none 0 0, .bool false, .slice none 0 0] 32 (0, 0)) ∧ Frac wc (.agg #[.bool n1, .slice a1 l1 c1, .bool n2, .slice a2 l2 c2]) n d m ∧ Frac wc (.agg #[.bool m1, .slice b1 k1 d1, .bool m2, .slice b2 k2 d2]) n' d' m ∧ Below r w wc ∧ r + 1 + 1 < wc.heap.size) := ⟨hq4, hq5, hq6, hF, hG, hb, hl6⟩
    clear hq4 hq5 hq6 hF hG hb hl6 xf yf hcuts hq4h hq5h hq6h hdh kA kB p0 q0 p1 q1 p2 q2 p3 q3 p4 q4 p5 q5 p6 q6
    go_wp2_with fail
    refine Calls.mono kK.out ?_
    clear kK
    rintro e w1 ⟨rfl, hb1⟩
    have hb1h : Hid (Below wc.heap.size wc w1) := hb1
    replace x0 := keep_cell hb1 x0
    replace x1 := keep_cell hb1 x1
    replace x2 := keep_cell hb1 x2
    replace x3 := keep_cell hb1 x3
    replace x4 := keep_cell hb1 x4
    replace x5 := keep_cell hb1 x5
    replace x6 := keep_cell hb1 x6
    replace y0 := keep_cell hb1 y0
    replace y1 := keep_cell hb1 y1
    replace y2 := keep_cell hb1 y2
    replace y3 := keep_cell hb1 y3
    replace y4 := keep_cell hb1 y4
    replace y5 := keep_cell hb1 y5
    replace y6 := keep_cell hb1 y6
    have hdh : Hid (Below w1.heap.size w1 w1.drew) := (Below.refl _ _).drew
    have kA : Hid (∀ X, Below w1.heap.size w1 X → Calls Tryz.prog 45 #[.agg #[.int .i64 3, .bool false, .string ⟨#[]⟩, .bool n1, .slice a1 l1 c1, .bool n2, .slice a2 l2 c2]] X fun e w' => ∃ t, e = .returned t ∧ OutE w' t y (m + 3) ∧ Below X.heap.size X w') := fun X hX => by
      have h := wholeOf_int ((hall.out.2.2.2.1.next hb1).next hX) (by omega) hwh.out.1
      rw [hwh.out.2.2.1] at h
      exact h
    have kB : Hid (∀ X, Below w1.heap.size w1 X → Calls Tryz.prog 45 #[.agg #[.int .i64 3, .bool false, .string ⟨#[]⟩, .bool m1, .slice b1 k1 d1, .bool m2, .slice b2 k2 d2]] X fun e w' => ∃ t, e = .returned t ∧ OutE w' t z (m + 3) ∧ Below X.heap.size X w') := fun X hX => by
      have h := wholeOf_int ((hall.out.2.2.2.2.1.next hb1).next hX) (by omega) hwh.out.2.1
      rw [hwh.out.2.2.2] at h
      exact h
    clear hb1
    go_upto_region 8 with fail
    go_region_with (first
      | (go_at_call 45; refine Calls.mono (kA.out _ hdh.out) ?_; rintro e w5 ⟨t1, rfl, hO1, hb5⟩; clear kA
         replace hb5 : Below w1.heap.size w1 w5 := hdh.out.trans hb5
         obtain ⟨g1, f1, e1, h1, rfl⟩ := hO1.num.form
         replace y0 := keep_cell hb5 y0; replace y1 := keep_cell hb5 y1; replace y2 := keep_cell hb5 y2; replace y3 := keep_cell hb5 y3; replace y4 := keep_cell hb5 y4; replace y5 := keep_cell hb5 y5; replace y6 := keep_cell hb5 y6
         have hO1h : Hid (OutE w5 (.agg #[.bool g1, .slice f1 e1 h1]) y (m + 3)) := hO1
         have hb5h : Hid (Below w1.heap.size w1 w5) := hb5
         clear hb5 hO1)
      | (go_at_call 45; refine Calls.mono (kB.out _ hb5h.out) ?_; rintro e w6 ⟨t2, rfl, hO2, hb6⟩; clear kB
         obtain ⟨g2, f2, e2, h2, rfl⟩ := hO2.num.form
         have hb6h : Hid (Below w1.heap.size w1 w6) := hb5h.out.trans (hb6.mono hb5h.out.size)
         have kC : Hid (Calls Tryz.prog 43 #[.string s, .agg #[.bool g1, .slice f1 e1 h1], .agg #[.bool g2, .slice f2 e2 h2]] w6 _) := binaryInt_any s P K hK (hO1h.out.next hb6).num hO2.num (fun X hX => hch.out X _ _ ((hO1h.out.next hb6).num.next hX) (hO2.num.next hX))
         clear hb6 hO2 hO1h)
      | (go_at_call 43; refine Calls.mono kC.out ?_; rintro e w7 ⟨t3, Z, rfl, hPZ, ⟨nn, dd, hCN, hwz⟩, hb7⟩; clear kC
         obtain ⟨i1, i2, i3, i4, o1, o2, o3, o4, rfl, hFr⟩ := hCN
         have hb7h : Hid (Below w1.heap.size w1 w7) := hb6h.out.trans (hb7.mono hb6h.out.size)
         have hbc : Hid (Below wc.heap.size wc w7) := hb1h.out.trans (hb7h.out.mono hb1h.out.size)
         have hqC : w7.heap[r + 1 + 1]? = _ := (hbc.out.block _ hall.out.2.2.2.2.2.2).trans hall.out.2.2.1
         obtain ⟨⟨u0, u1, u2, u3, u4, u5, u6⟩, uf, _⟩ := cells7 hqC
         have uf0 := uf 0; have uf1 := uf 1; have uf2 := uf 2; have uf3 := uf 3; have uf4 := uf 4; have uf5 := uf 5; have uf6 := uf 6
         have hPh : Hid (P Z) := hPZ
         have hwzh : Hid (pN nn dd = Z * pD dd) := hwz
         have hFrh : Hid (Frac w7 (.agg #[.bool i1, .slice i2 i3 i4, .bool o1, .slice o2 o3 o4]) nn dd (K + 4)) := hFr
         clear hb7 hqC uf hFr hPZ hwz))
    all_goals
      have hqC : w7.heap[r + 1 + 1]? = some (.cells #[.int .i64 0, .bool false, .string ⟨#[]⟩, .bool false, .slice none 0 0, .bool false, .slice none 0 0] 32 (0, 0)) := (hbc.out.block _ hall.out.2.2.2.2.2.2).trans hall.out.2.2.1
      obtain ⟨W8, hW8⟩ : ∃ W8, W8 = put7 w7 (r + 1 + 1) (.int .i64 3) (.bool false) (.string ⟨#[]⟩) (.bool i1) (.slice i2 i3 i4) (.bool o1) (.slice o2 o3 o4) := ⟨_, rfl⟩
      have hq8 : Hid (W8.heap[r + 1 + 1]? = some (.cells #[.int .i64 3, .bool false, .string ⟨#[]⟩, .bool i1, .slice i2 i3 i4, .bool o1, .slice o2 o3 o4] 32 (0, 0))) := by show _ = _; rw [hW8]; exact put7_at hqC
      have hB8 : Hid (Below w.heap.size w W8) := by
        show Below _ _ _
        rw [hW8, ← hrh.out]
        exact put7_below (hall.out.2.2.2.2.2.1.trans (hbc.out.mono (by have := hall.out.2.2.2.2.2.2; omega))) (by omega)
      have hC8 : Hid (CI W8 (.agg #[.int .i64 3, .bool false, .string ⟨#[]⟩, .bool i1, .slice i2 i3 i4, .bool o1, .slice o2 o3 o4]) Z (K + 4)) := by
        refine ⟨nn, dd, ⟨_, _, _, _, _, _, _, _, rfl, ?_⟩, hwzh.out⟩
        rw [hW8]
        exact frac_put7 ⟨_, _, _, _, _, _, _, _, _, _, _, hqC⟩ hFrh.out
      clear hqC hFrh hall
      go_wp2
      unfold put7 at hW8
      rw [← hW8]
      obtain ⟨⟨j0, j1, j2, j3, j4, j5, j6⟩, _, _⟩ := cells7 hq8.out
      exact bodyPost_ret (v := .tuple #[.agg #[.int .i64 3, .bool false, .string ⟨#[]⟩, .bool i1, .slice i2 i3 i4, .bool o1, .slice o2 o3 o4], .bool true]) (by simp [results, Tryz.results16, go_sem, j0, j1, j2, j3, j4, j5, j6]) rfl ⟨_, Z, rfl, hPh.out, hC8.out, hB8.out⟩
end Go.Proofs.YtclokcoimdjaeaaGreatDoor
