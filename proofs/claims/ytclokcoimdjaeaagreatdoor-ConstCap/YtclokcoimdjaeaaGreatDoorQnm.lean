/- constants: the ends of integer types. -/
import Derived.Test.YtclokcoimdjaeaaGreatDoorQlm
namespace Go.Proofs.YtclokcoimdjaeaaGreatDoor
open Go.RowKit
attribute [local go_sem ↓] Go.wp_at_zero Go.wp_at_succ
theorem num_nil (w : World) (n : Nat) : Num w (.agg #[.bool false, .slice none 0 0]) 0 n := ⟨false, none, 0, [], rfl, Row.empty _ _ _, rfl, Nat.zero_le _⟩
theorem two_new2 {w : World} {A B : Obj} : ∃ W, W = (w.alloc A).alloc B ∧ W.heap[w.heap.size]? = some A ∧ W.heap[w.heap.size + 1]? = some B ∧ Below w.heap.size w W ∧ W.heap.size = w.heap.size + 1 + 1 := two_new
set_option maxRecDepth 20000 in
set_option maxHeartbeats 2000000 in
theorem ends_uint8 (w : World) : Calls Tryz.prog 182 #[.string ⟨#[117, 105, 110, 116, 56]⟩] w fun e w' => ∃ u v, e = .returned (.tuple #[u, v, .bool true]) ∧ Num w' u (0) 2 ∧ Num w' v (255) 2 ∧ Below w.heap.size w w' := by
  obtain ⟨LO, hLO⟩ : ∃ LO : Int, LO = 0 := ⟨_, rfl⟩
  obtain ⟨HI, hHI⟩ : ∃ HI : Int, HI = 255 := ⟨_, rfl⟩
  rw [← hLO, ← hHI]
  have hLh : Hid (LO = 0 ∧ HI = 255) := ⟨hLO, hHI⟩
  clear hLO hHI
  obtain ⟨W, hW, hq2, hq3, hbW, hsz⟩ := two_new2 (w := w) (A := .cells #[.bool false, .slice none 0 0] 28) (B := .cells #[.bool false, .slice none 0 0] 28)
  have hall : Hid (Below w.heap.size w W ∧ W.heap.size = w.heap.size + 1 + 1 ∧ W.heap[w.heap.size]? = some (.cells #[.bool false, .slice none 0 0] 28 (0, 0)) ∧ W.heap[w.heap.size + 1]? = some (.cells #[.bool false, .slice none 0 0] 28 (0, 0))) := ⟨hbW, hsz, hq2, hq3⟩
  have kA : Hid (Calls Tryz.prog 44 #[.int .i64 255] W _) := Of_any 255 W (by decide) (by decide)
  clear hq2 hq3 hbW hsz
  go_enter Tryz.func182, Tryz.ntmps182
  go_upto_region 1 with fail
  rw [← hW]
  clear hW
  go_wp2_with fail
  refine Calls.mono kA.out ?_
  clear kA
  rintro e w1 ⟨t1, rfl, hO1, hX⟩
  obtain ⟨g2, f2, e2, h2, rfl⟩ := hO1.form
  have hN2 : Num w1 (.agg #[.bool g2, .slice f2 e2 h2]) HI 2 := by rw [hLh.out.2]; exact hO1.num
  have hN1 : Num w1 (.agg #[.bool false, .slice none 0 0]) LO 2 := by rw [hLh.out.1]; exact num_nil _ _
  clear hO1
  have hs := hall.out.2.1
  have hqa := (hX.block _ (by omega)).trans hall.out.2.2.1
  have hqb := (hX.block _ (by omega)).trans hall.out.2.2.2
  obtain ⟨⟨r0, r1⟩, rf, _⟩ := cells2 hqa
  obtain ⟨⟨s0, s1⟩, sf, _⟩ := cells2 hqb
  have rf0 := rf 0
  have rf1 := rf 1
  have sf0 := sf 0
  have sf1 := sf 1
  obtain ⟨W8, hW8⟩ : ∃ W8, W8 = (((w1.setCell ⟨w.heap.size, 0, none⟩ (.bool false)).setCell ⟨w.heap.size, 1, none⟩ (.slice none 0 0)).setCell ⟨w.heap.size + 1, 0, none⟩ (.bool g2)).setCell ⟨w.heap.size + 1, 1, none⟩ (.slice f2 e2 h2) := ⟨_, rfl⟩
  have hga : NoInt w1 w.heap.size := ⟨_, _, _, hqa, by decide, two_notInt (notInt_bool _) (notInt_slice _ _ _)⟩
  have hgb : NoInt w1 (w.heap.size + 1) := ⟨_, _, _, hqb, by decide, two_notInt (notInt_bool _) (notInt_slice _ _ _)⟩
  have hbx : Boxed w.heap.size w1 W8 := by rw [hW8]; exact put22 hga hgb (Nat.le_refl _) (by omega) _ _ _ _ _ _ _ _
  have hf : Hid (Num W8 (.agg #[.bool false, .slice none 0 0]) LO 2 ∧ Num W8 (.agg #[.bool g2, .slice f2 e2 h2]) HI 2 ∧ Below w.heap.size w W8) := ⟨hbx.num hN1, hbx.num hN2, hbx.keep (hall.out.1.trans (hX.mono (by omega))) (Nat.le_refl _) (by have := hX.size; omega)⟩
  have hj : Hid (W8.cell? ⟨w.heap.size, 0, none⟩ = some (.bool false) ∧ W8.cell? ⟨w.heap.size, 1, none⟩ = some (.slice none 0 0) ∧ W8.cell? ⟨w.heap.size + 1, 0, none⟩ = some (.bool g2) ∧ W8.cell? ⟨w.heap.size + 1, 1, none⟩ = some (.slice f2 e2 h2)) := by
    show _ ∧ _ ∧ _ ∧ _
    rw [hW8]
    refine ⟨?_, ?_, ?_, ?_⟩ <;> simp [go_sem, r0, r1, s0, s1]
  clear hN1 hN2 hX hqa hqb rf sf hga hgb hbx hs hall
  go_wp2
  rw [← hW8]
  obtain ⟨j0, j1, j2, j3⟩ := hj.out
  exact bodyPost_ret (v := .tuple #[.agg #[.bool false, .slice none 0 0], .agg #[.bool g2, .slice f2 e2 h2], .bool true]) (by simp [results, Tryz.results182, go_sem, j0, j1, j2, j3]) rfl ⟨_, _, rfl, hf.out.1, hf.out.2.1, hf.out.2.2⟩
end Go.Proofs.YtclokcoimdjaeaaGreatDoor
namespace Go.Proofs.YtclokcoimdjaeaaGreatDoor
open Go.RowKit
attribute [local go_sem ↓] Go.wp_at_zero Go.wp_at_succ
set_option maxRecDepth 20000 in
set_option maxHeartbeats 2000000 in
theorem fitInt_yes {w : World} {n1 : Bool} {a1 : Option Addr} {l1 c1 : Nat} {n2 : Bool} {a2 : Option Addr} {l2 c2 : Nat} {n d z LO HI : Int} {m : Nat} (s : ByteArray) (hm : m ≤ 150) (hF : Frac w (.agg #[.bool n1, .slice a1 l1 c1, .bool n2, .slice a2 l2 c2]) n d m) (hz : pN n d = z * pD d)
    (hE : ∀ X : World, Calls Tryz.prog 182 #[.string s] X fun e w' => ∃ u v, e = .returned (.tuple #[u, v, .bool true]) ∧ Num w' u LO 2 ∧ Num w' v HI 2 ∧ Below X.heap.size X w') (hlo : LO ≤ z) (hhi : z ≤ HI) :
    Calls Tryz.prog 112 #[.agg #[.bool n1, .slice a1 l1 c1, .bool n2, .slice a2 l2 c2], .string s] w fun e w' => ∃ t, e = .returned (.tuple #[t, .bool true]) ∧ CI w' t z (m + 7) ∧ Below w.heap.size w w' := by
  have hw : (pN n d).tmod (pD d) = 0 := by rw [hz]; exact Int.mul_tmod_left _ _
  have hzz : (pN n d).tdiv (pD d) = z := by rw [hz]; exact Int.mul_tdiv_cancel _ (by have := pD_pos d; omega)
  obtain ⟨W, hW, hq2, hq4, hbW, hsz⟩ := two_new (w := w) (A := .cells #[.bool n1, .slice a1 l1 c1, .bool n2, .slice a2 l2 c2] 30) (B := .cells #[.int .i64 0, .bool false, .string ⟨#[]⟩, .bool false, .slice none 0 0, .bool false, .slice none 0 0] 32)
  obtain ⟨⟨p0, p1, p2, p3⟩, _, _⟩ := cells4 hq2
  have kE : Hid (Calls Tryz.prog 182 #[.string s] W _) := hE W
  have kI : Hid (∀ X, Below W.heap.size W X → Calls Tryz.prog 91 #[.agg #[.bool n1, .slice a1 l1 c1, .bool n2, .slice a2 l2 c2]] X fun e w' => ∃ t, e = .returned (.tuple #[t, .bool true]) ∧ OutE w' t z (m + 3) ∧ Below X.heap.size X w') := fun X hX => (Int_num ((hF.next hbW).next hX) (by omega)).mono fun e w' h => by
    obtain ⟨t, rfl, ⟨t', rfl, hI, _⟩, hb⟩ := h
    exact ⟨t', by rw [decide_eq_true hw], by rw [← hzz]; exact hI hw, hb⟩
  have hall : Hid (Below w.heap.size w W ∧ W.heap.size = w.heap.size + 1 + 1 ∧ W.heap[w.heap.size + 1]? = some (.cells #[.int .i64 0, .bool false, .string ⟨#[]⟩, .bool false, .slice none 0 0, .bool false, .slice none 0 0] 32 (0, 0))) := ⟨hbW, hsz, hq4⟩
  clear hq2 hq4 hbW hsz hF hz hw hzz hE
  go_enter Tryz.func112, Tryz.ntmps112
  go_upto_region 1 with fail
  rw [← hW]
  clear hW
  go_wp2_with fail
  refine Calls.mono kE.out ?_
  clear kE
  rintro e w1 ⟨u, v, rfl, hN1, hN2, hb1⟩
  obtain ⟨g1, f1, e1, h1, rfl⟩ := hN1.form
  obtain ⟨g2, f2, e2, h2, rfl⟩ := hN2.form
  obtain ⟨X, hX, hxa, hxb, hbX, hsX⟩ := two_new (w := w1) (A := .cells #[.bool g1, .slice f1 e1 h1] 28) (B := .cells #[.bool g2, .slice f2 e2 h2] 28)
  have hbWX : Hid (Below W.heap.size W X) := hb1.trans (hbX.mono hb1.size)
  have hN : Hid (Num X (.agg #[.bool g1, .slice f1 e1 h1]) LO 2 ∧ Num X (.agg #[.bool g2, .slice f2 e2 h2]) HI 2) := ⟨hN1.next hbX, hN2.next hbX⟩
  obtain ⟨⟨a0, a1'⟩, _, al⟩ := cells2 hxa
  obtain ⟨⟨b0, b1'⟩, _, bl⟩ := cells2 hxb
  replace p0 := keep_cell hbWX.out p0
  replace p1 := keep_cell hbWX.out p1
  replace p2 := keep_cell hbWX.out p2
  replace p3 := keep_cell hbWX.out p3
  have kI' : Hid (Calls Tryz.prog 91 #[.agg #[.bool n1, .slice a1 l1 c1, .bool n2, .slice a2 l2 c2]] X fun e w' => ∃ t, e = .returned (.tuple #[t, .bool true]) ∧ OutE w' t z (m + 3) ∧ Below X.heap.size X w') := kI.out X hbWX.out
  clear kI hN1 hN2 hb1 hxa hxb hbX hsX
  go_upto_region 2 with fail
  rw [← hX]
  clear hX
  obtain ⟨bx, hbx⟩ : ∃ bx, bx = w1.heap.size := ⟨_, rfl⟩
  rw [← hbx] at a0 a1' al b0 b1' bl ⊢
  clear hbx
  go_wp2_with fail
  refine Calls.mono kI'.out ?_
  clear kI'
  rintro e w2 ⟨t, rfl, hO, hb2⟩
  obtain ⟨g3, f3, e3, h3, rfl⟩ := hO.num.form
  obtain ⟨Y, hY⟩ : ∃ Y, Y = w2.alloc (.cells #[.bool g3, .slice f3 e3 h3] 28) := ⟨_, rfl⟩
  have hbY : Below w2.heap.size w2 Y := by rw [hY]; exact (Below.refl _ _).alloc (Nat.le_refl _) _
  have hqY : Y.heap[w2.heap.size]? = some (.cells #[.bool g3, .slice f3 e3 h3] 28 (0, 0)) := by rw [hY]; exact newAt _ _
  obtain ⟨⟨c0, c1'⟩, _, cl⟩ := cells2 hqY
  have hbXY : Below X.heap.size X Y := hb2.trans (hbY.mono hb2.size)
  replace a0 := keep_cell hbXY a0
  replace a1' := keep_cell hbXY a1'
  replace b0 := keep_cell hbXY b0
  replace b1' := keep_cell hbXY b1'
  have hNY : Hid (Num Y (.agg #[.bool g1, .slice f1 e1 h1]) LO 2 ∧ Num Y (.agg #[.bool g2, .slice f2 e2 h2]) HI 2 ∧ Num Y (.agg #[.bool g3, .slice f3 e3 h3]) z (m + 3)) := ⟨hN.out.1.next hbXY, hN.out.2.next hbXY, hO.num.next hbY⟩
  have hbWY : Hid (Below W.heap.size W Y) := hbWX.out.trans (hbXY.mono hbWX.out.size)
  have k1 : Hid (Calls Tryz.prog 99 #[.agg #[.bool g3, .slice f3 e3 h3], .agg #[.bool g1, .slice f1 e1 h1]] Y _) := Cmp_num hNY.out.2.2 hNY.out.1 (by omega) (by omega)
  have k2 : Hid (∀ Q, Below Y.heap.size Y Q → Calls Tryz.prog 99 #[.agg #[.bool g3, .slice f3 e3 h3], .agg #[.bool g2, .slice f2 e2 h2]] Q fun e w' => e = .returned (.int .i64 (cmpI z HI)) ∧ Below Q.heap.size Q w') := fun Q hQ => Cmp_num (hNY.out.2.2.next hQ) (hNY.out.2.1.next hQ) (by omega) (by omega)
  clear hO hb2 hbY hqY hbXY hN p0 p1 p2 p3 hbWX
  go_upto_region 3 with fail
  rw [← hY]
  clear hY
  obtain ⟨by', hby⟩ : ∃ by', by' = w2.heap.size := ⟨_, rfl⟩
  rw [← hby] at c0 c1' cl ⊢
  clear hby
  have hc1 : ¬ cmpI z LO < 0 := by rcases Int.lt_or_eq_of_le hlo with h | h; rw [cmpI_gt h]; decide; rw [cmpI_eq h.symm]; decide
  have hc2 : ¬ cmpI z HI > 0 := by rcases Int.lt_or_eq_of_le hhi with h | h; rw [cmpI_lt h]; decide; rw [cmpI_eq h]; decide
  have d1 : decide (cmpI z LO < 0) = false := decide_eq_false hc1
  have d2 : decide (cmpI z HI > 0) = false := decide_eq_false hc2
  obtain ⟨C1, hC1⟩ : ∃ C1, C1 = cmpI z LO := ⟨_, rfl⟩
  obtain ⟨C2, hC2⟩ : ∃ C2, C2 = cmpI z HI := ⟨_, rfl⟩
  rw [← hC1] at k1 d1 hc1
  rw [← hC2] at k2 d2 hc2
  clear hC1 hC2
  go_wp2_with fail
  refine Calls.mono k1.out ?_
  clear k1
  rintro e w3 ⟨rfl, hb3⟩
  have hb3h : Hid (Below Y.heap.size Y w3) := hb3
  replace b0 := keep_cell hb3 b0
  replace b1' := keep_cell hb3 b1'
  replace c0 := keep_cell hb3 c0
  replace c1' := keep_cell hb3 c1'
  have k2' : Hid (Calls Tryz.prog 99 #[.agg #[.bool g3, .slice f3 e3 h3], .agg #[.bool g2, .slice f2 e2 h2]] w3 _) := k2.out w3 hb3
  clear k2 hb3 a0 a1'
  go_wp2_with fail
  refine Calls.mono k2'.out ?_
  clear k2'
  rintro e w4 ⟨rfl, hb4⟩
  replace c0 := keep_cell hb4 c0
  replace c1' := keep_cell hb4 c1'
  have hbY4 : Hid (Below Y.heap.size Y w4) := hb3h.out.trans (hb4.mono hb3h.out.size)
  have k3 : Hid (Calls Tryz.prog 70 #[.agg #[.bool g3, .slice f3 e3 h3]] w4 _) := Whole_num (hNY.out.2.2.next hbY4.out) (by omega)
  clear hb4 b0 b1' hb3h
  go_wp2_with fail
  refine Calls.mono k3.out ?_
  clear k3
  rintro e w5 ⟨t, rfl, ⟨pp, qq, hFE, hlow⟩, hb5⟩
  have hF5 := hFE.frac
  obtain ⟨x1, x2, x3, x4, y1, y2, y3, y4, rfl, _, _⟩ := hFE
  have k4 : Hid (Calls Tryz.prog 48 #[.int .i64 3, .agg #[.bool x1, .slice x2 x3 x4, .bool y1, .slice y2 y3 y4], .bool true] w5 _) := ofNumber_ok (k := 3) hF5 (by omega)
  have hbY5 : Hid (Below Y.heap.size Y w5) := hbY4.out.trans (hb5.mono hbY4.out.size)
  have hlh : Hid (pN pp qq = z * pD qq) := low_one hlow
  clear hF5 hlow hb5 hbY4 c0 c1'
  go_wp2_with fail
  refine Calls.mono k4.out ?_
  clear k4
  rintro e w6 ⟨t, rfl, hCN, hb6⟩
  obtain ⟨i1, i2, i3, i4, o1, o2, o3, o4, rfl, hFr⟩ := hCN
  have hbW6 : Below W.heap.size W w6 := hbWY.out.trans ((hbY5.out.mono hbWY.out.size).trans (hb6.mono (by have := hbWY.out.size; have := hbY5.out.size; omega)))
  have hq1 := (hbW6.block _ (by have := hall.out.2.1; omega)).trans hall.out.2.2
  have hB1 : Hid (Below w.heap.size w w6) := hall.out.1.trans (hbW6.mono (by have := hall.out.2.1; omega))
  obtain ⟨⟨r0, r1, r2, r3, r4, r5, r6⟩, rf, rl⟩ := cells7 hq1
  have rf0 := rf 0
  have rf1 := rf 1
  have rf2 := rf 2
  have rf3 := rf 3
  have rf4 := rf 4
  have rf5 := rf 5
  have rf6 := rf 6
  obtain ⟨W8, hW8⟩ : ∃ W8, W8 = put7 w6 (w.heap.size + 1) (.int .i64 3) (.bool false) (.string ⟨#[]⟩) (.bool i1) (.slice i2 i3 i4) (.bool o1) (.slice o2 o3 o4) := ⟨_, rfl⟩
  have hqW8 : Hid (W8.heap[w.heap.size + 1]? = some (.cells #[.int .i64 3, .bool false, .string ⟨#[]⟩, .bool i1, .slice i2 i3 i4, .bool o1, .slice o2 o3 o4] 32 (0, 0))) := by show _ = _; rw [hW8]; exact put7_at hq1
  have hBW8 : Hid (Below w.heap.size w W8) := by
    show Below _ _ _
    rw [hW8]
    exact put7_below hB1.out (by omega)
  have hC8 : Hid (CI W8 (.agg #[.int .i64 3, .bool false, .string ⟨#[]⟩, .bool i1, .slice i2 i3 i4, .bool o1, .slice o2 o3 o4]) z (m + 7)) := by
    refine ⟨pp, qq, ⟨_, _, _, _, _, _, _, _, rfl, ?_⟩, hlh.out⟩
    rw [hW8]
    exact frac_put7 ⟨_, _, _, _, _, _, _, _, _, _, _, hq1⟩ hFr
  clear hq1 rf hb6 hbW6 hFr hB1 hall hbWY hbY5 hNY
  go_wp2
  unfold put7 at hW8
  rw [← hW8]
  obtain ⟨⟨j0, j1, j2, j3, j4, j5, j6⟩, _, _⟩ := cells7 hqW8.out
  exact bodyPost_ret (v := .tuple #[.agg #[.int .i64 3, .bool false, .string ⟨#[]⟩, .bool i1, .slice i2 i3 i4, .bool o1, .slice o2 o3 o4], .bool true]) (by simp [results, Tryz.results112, go_sem, j0, j1, j2, j3, j4, j5, j6]) rfl ⟨_, rfl, hC8.out, hBW8.out⟩
set_option maxRecDepth 20000 in
set_option maxHeartbeats 2000000 in
theorem fitInt_above {w : World} {n1 : Bool} {a1 : Option Addr} {l1 c1 : Nat} {n2 : Bool} {a2 : Option Addr} {l2 c2 : Nat} {n d z LO HI : Int} {m : Nat} (s : ByteArray) (hm : m ≤ 150) (hF : Frac w (.agg #[.bool n1, .slice a1 l1 c1, .bool n2, .slice a2 l2 c2]) n d m) (hz : pN n d = z * pD d)
    (hE : ∀ X : World, Calls Tryz.prog 182 #[.string s] X fun e w' => ∃ u v, e = .returned (.tuple #[u, v, .bool true]) ∧ Num w' u LO 2 ∧ Num w' v HI 2 ∧ Below X.heap.size X w') (hlo : LO ≤ z) (hhi : HI < z) :
    Calls Tryz.prog 112 #[.agg #[.bool n1, .slice a1 l1 c1, .bool n2, .slice a2 l2 c2], .string s] w fun e w' => e = .returned (.tuple #[cNone, .bool false]) ∧ Below w.heap.size w w' := by
  have hw : (pN n d).tmod (pD d) = 0 := by rw [hz]; exact Int.mul_tmod_left _ _
  have hzz : (pN n d).tdiv (pD d) = z := by rw [hz]; exact Int.mul_tdiv_cancel _ (by have := pD_pos d; omega)
  obtain ⟨W, hW, hq2, hq4, hbW, hsz⟩ := two_new (w := w) (A := .cells #[.bool n1, .slice a1 l1 c1, .bool n2, .slice a2 l2 c2] 30) (B := .cells #[.int .i64 0, .bool false, .string ⟨#[]⟩, .bool false, .slice none 0 0, .bool false, .slice none 0 0] 32)
  obtain ⟨⟨p0, p1, p2, p3⟩, _, _⟩ := cells4 hq2
  have kE : Hid (Calls Tryz.prog 182 #[.string s] W _) := hE W
  have kI : Hid (∀ X, Below W.heap.size W X → Calls Tryz.prog 91 #[.agg #[.bool n1, .slice a1 l1 c1, .bool n2, .slice a2 l2 c2]] X fun e w' => ∃ t, e = .returned (.tuple #[t, .bool true]) ∧ OutE w' t z (m + 3) ∧ Below X.heap.size X w') := fun X hX => (Int_num ((hF.next hbW).next hX) (by omega)).mono fun e w' h => by
    obtain ⟨t, rfl, ⟨t', rfl, hI, _⟩, hb⟩ := h
    exact ⟨t', by rw [decide_eq_true hw], by rw [← hzz]; exact hI hw, hb⟩
  have hall : Hid (Below w.heap.size w W ∧ W.heap.size = w.heap.size + 1 + 1 ∧ W.heap[w.heap.size + 1]? = some (.cells #[.int .i64 0, .bool false, .string ⟨#[]⟩, .bool false, .slice none 0 0, .bool false, .slice none 0 0] 32 (0, 0))) := ⟨hbW, hsz, hq4⟩
  clear hq2 hq4 hbW hsz hF hz hw hzz hE
  go_enter Tryz.func112, Tryz.ntmps112
  go_upto_region 1 with fail
  rw [← hW]
  clear hW
  go_wp2_with fail
  refine Calls.mono kE.out ?_
  clear kE
  rintro e w1 ⟨u, v, rfl, hN1, hN2, hb1⟩
  obtain ⟨g1, f1, e1, h1, rfl⟩ := hN1.form
  obtain ⟨g2, f2, e2, h2, rfl⟩ := hN2.form
  obtain ⟨X, hX, hxa, hxb, hbX, hsX⟩ := two_new (w := w1) (A := .cells #[.bool g1, .slice f1 e1 h1] 28) (B := .cells #[.bool g2, .slice f2 e2 h2] 28)
  have hbWX : Hid (Below W.heap.size W X) := hb1.trans (hbX.mono hb1.size)
  have hN : Hid (Num X (.agg #[.bool g1, .slice f1 e1 h1]) LO 2 ∧ Num X (.agg #[.bool g2, .slice f2 e2 h2]) HI 2) := ⟨hN1.next hbX, hN2.next hbX⟩
  obtain ⟨⟨a0, a1'⟩, _, al⟩ := cells2 hxa
  obtain ⟨⟨b0, b1'⟩, _, bl⟩ := cells2 hxb
  replace p0 := keep_cell hbWX.out p0
  replace p1 := keep_cell hbWX.out p1
  replace p2 := keep_cell hbWX.out p2
  replace p3 := keep_cell hbWX.out p3
  have kI' : Hid (Calls Tryz.prog 91 #[.agg #[.bool n1, .slice a1 l1 c1, .bool n2, .slice a2 l2 c2]] X fun e w' => ∃ t, e = .returned (.tuple #[t, .bool true]) ∧ OutE w' t z (m + 3) ∧ Below X.heap.size X w') := kI.out X hbWX.out
  clear kI hN1 hN2 hb1 hxa hxb hbX hsX
  go_upto_region 2 with fail
  rw [← hX]
  clear hX
  obtain ⟨bx, hbx⟩ : ∃ bx, bx = w1.heap.size := ⟨_, rfl⟩
  rw [← hbx] at a0 a1' al b0 b1' bl ⊢
  clear hbx
  go_wp2_with fail
  refine Calls.mono kI'.out ?_
  clear kI'
  rintro e w2 ⟨t, rfl, hO, hb2⟩
  obtain ⟨g3, f3, e3, h3, rfl⟩ := hO.num.form
  obtain ⟨Y, hY⟩ : ∃ Y, Y = w2.alloc (.cells #[.bool g3, .slice f3 e3 h3] 28) := ⟨_, rfl⟩
  have hbY : Below w2.heap.size w2 Y := by rw [hY]; exact (Below.refl _ _).alloc (Nat.le_refl _) _
  have hqY : Y.heap[w2.heap.size]? = some (.cells #[.bool g3, .slice f3 e3 h3] 28 (0, 0)) := by rw [hY]; exact newAt _ _
  obtain ⟨⟨c0, c1'⟩, _, cl⟩ := cells2 hqY
  have hbXY : Below X.heap.size X Y := hb2.trans (hbY.mono hb2.size)
  replace a0 := keep_cell hbXY a0
  replace a1' := keep_cell hbXY a1'
  replace b0 := keep_cell hbXY b0
  replace b1' := keep_cell hbXY b1'
  have hNY : Hid (Num Y (.agg #[.bool g1, .slice f1 e1 h1]) LO 2 ∧ Num Y (.agg #[.bool g2, .slice f2 e2 h2]) HI 2 ∧ Num Y (.agg #[.bool g3, .slice f3 e3 h3]) z (m + 3)) := ⟨hN.out.1.next hbXY, hN.out.2.next hbXY, hO.num.next hbY⟩
  have hbWY : Hid (Below W.heap.size W Y) := hbWX.out.trans (hbXY.mono hbWX.out.size)
  have k1 : Hid (Calls Tryz.prog 99 #[.agg #[.bool g3, .slice f3 e3 h3], .agg #[.bool g1, .slice f1 e1 h1]] Y _) := Cmp_num hNY.out.2.2 hNY.out.1 (by omega) (by omega)
  have k2 : Hid (∀ Q, Below Y.heap.size Y Q → Calls Tryz.prog 99 #[.agg #[.bool g3, .slice f3 e3 h3], .agg #[.bool g2, .slice f2 e2 h2]] Q fun e w' => e = .returned (.int .i64 (cmpI z HI)) ∧ Below Q.heap.size Q w') := fun Q hQ => Cmp_num (hNY.out.2.2.next hQ) (hNY.out.2.1.next hQ) (by omega) (by omega)
  clear hO hb2 hbY hqY hbXY hN p0 p1 p2 p3 hbWX
  go_upto_region 3 with fail
  rw [← hY]
  clear hY
  obtain ⟨by', hby⟩ : ∃ by', by' = w2.heap.size := ⟨_, rfl⟩
  rw [← hby] at c0 c1' cl ⊢
  clear hby
  have hc1 : ¬ cmpI z LO < 0 := by rcases Int.lt_or_eq_of_le hlo with h | h; rw [cmpI_gt h]; decide; rw [cmpI_eq h.symm]; decide
  have hc2 : cmpI z HI > 0 := by rw [cmpI_gt hhi]; decide
  have d1 : decide (cmpI z LO < 0) = false := decide_eq_false hc1
  have d2 : decide (cmpI z HI > 0) = true := decide_eq_true hc2
  obtain ⟨C1, hC1⟩ : ∃ C1, C1 = cmpI z LO := ⟨_, rfl⟩
  obtain ⟨C2, hC2⟩ : ∃ C2, C2 = cmpI z HI := ⟨_, rfl⟩
  rw [← hC1] at k1 d1 hc1
  rw [← hC2] at k2 d2 hc2
  clear hC1 hC2
  go_wp2_with fail
  refine Calls.mono k1.out ?_
  clear k1
  rintro e w3 ⟨rfl, hb3⟩
  have hb3h : Hid (Below Y.heap.size Y w3) := hb3
  replace b0 := keep_cell hb3 b0
  replace b1' := keep_cell hb3 b1'
  replace c0 := keep_cell hb3 c0
  replace c1' := keep_cell hb3 c1'
  have k2' : Hid (Calls Tryz.prog 99 #[.agg #[.bool g3, .slice f3 e3 h3], .agg #[.bool g2, .slice f2 e2 h2]] w3 _) := k2.out w3 hb3
  clear k2 hb3 a0 a1'
  go_wp2_with fail
  refine Calls.mono k2'.out ?_
  clear k2'
  rintro e w4 ⟨rfl, hb4⟩
  have hbW4 : Below W.heap.size W w4 := hbWY.out.trans ((hb3h.out.mono hbWY.out.size).trans (hb4.mono (by have := hbWY.out.size; have := hb3h.out.size; omega)))
  have hq1 := (hbW4.block _ (by have := hall.out.2.1; omega)).trans hall.out.2.2
  have hB1 : Hid (Below w.heap.size w w4) := hall.out.1.trans (hbW4.mono (by have := hall.out.2.1; omega))
  obtain ⟨⟨r0, r1, r2, r3, r4, r5, r6⟩, rf, rl⟩ := cells7 hq1
  have rf0 := rf 0
  have rf1 := rf 1
  have rf2 := rf 2
  have rf3 := rf 3
  have rf4 := rf 4
  have rf5 := rf 5
  have rf6 := rf 6
  obtain ⟨W8, hW8⟩ : ∃ W8, W8 = put7 w4 (w.heap.size + 1) (.int .i64 0) (.bool false) (.string ⟨#[]⟩) (.bool false) (.slice none 0 0) (.bool false) (.slice none 0 0) := ⟨_, rfl⟩
  have hqW8 : Hid (W8.heap[w.heap.size + 1]? = some (.cells #[.int .i64 0, .bool false, .string ⟨#[]⟩, .bool false, .slice none 0 0, .bool false, .slice none 0 0] 32 (0, 0))) := by show _ = _; rw [hW8]; exact put7_at hq1
  have hBW8 : Hid (Below w.heap.size w W8) := by
    show Below _ _ _
    rw [hW8]
    exact put7_below hB1.out (by omega)
  clear hq1 rf hb4 hbW4 hB1 hall hbWY hb3h hNY b0 b1' c0 c1'
  go_wp2
  unfold put7 at hW8
  rw [← hW8]
  obtain ⟨⟨j0, j1, j2, j3, j4, j5, j6⟩, _, _⟩ := cells7 hqW8.out
  exact bodyPost_ret (v := .tuple #[.agg #[.int .i64 0, .bool false, .string ⟨#[]⟩, .bool false, .slice none 0 0, .bool false, .slice none 0 0], .bool false]) (by simp [results, Tryz.results112, go_sem, j0, j1, j2, j3, j4, j5, j6]) rfl ⟨rfl, hBW8.out⟩
end Go.Proofs.YtclokcoimdjaeaaGreatDoor
