/- constants: Fits, Convert at uint8. -/
import Derived.Test.YtclokcoimdjaeaaGreatDoorQnm
namespace Go.Proofs.YtclokcoimdjaeaaGreatDoor
open Go.RowKit
attribute [local go_sem ↓] Go.wp_at_zero Go.wp_at_succ
set_option maxRecDepth 20000 in
set_option maxHeartbeats 2000000 in
theorem isNumber_int {w : World} {n1 : Bool} {a1 : Option Addr} {l1 c1 : Nat} {n2 : Bool} {a2 : Option Addr} {l2 c2 : Nat} : Calls Tryz.prog 46 #[.agg #[.int .i64 3, .bool false, .string ⟨#[]⟩, .bool n1, .slice a1 l1 c1, .bool n2, .slice a2 l2 c2]] w fun e w' => e = .returned (.bool true) ∧ Below w.heap.size w w' := by
  obtain ⟨W, hW⟩ : ∃ W, W = w.alloc (.cells #[.int .i64 3, .bool false, .string ⟨#[]⟩, .bool n1, .slice a1 l1 c1, .bool n2, .slice a2 l2 c2] 32) := ⟨_, rfl⟩
  have hbW : Hid (Below w.heap.size w W) := by show Below _ _ _; rw [hW]; exact (Below.refl _ _).alloc (Nat.le_refl _) _
  have hq : W.heap[w.heap.size]? = some (.cells #[.int .i64 3, .bool false, .string ⟨#[]⟩, .bool n1, .slice a1 l1 c1, .bool n2, .slice a2 l2 c2] 32 (0, 0)) := by rw [hW]; exact newAt _ _
  obtain ⟨⟨p0, p1, p2, p3, p4, p5, p6⟩, _, _⟩ := cells7 hq
  clear hq
  go_enter Tryz.func46, Tryz.ntmps46
  go_upto_region 1 with fail
  rw [← hW]
  clear hW
  go_wp2
  go_ret
  exact ⟨rfl, hbW.out⟩
set_option maxRecDepth 20000 in
set_option maxHeartbeats 2000000 in
theorem fitNumber_yes {w : World} {n1 : Bool} {a1 : Option Addr} {l1 c1 : Nat} {n2 : Bool} {a2 : Option Addr} {l2 c2 : Nat} {n d z : Int} {m : Nat} (hm : m ≤ 150) (hF : Frac w (.agg #[.bool n1, .slice a1 l1 c1, .bool n2, .slice a2 l2 c2]) n d m) (hz : pN n d = z * pD d) (hlo : 0 ≤ z) (hhi : z ≤ 255) :
    Calls Tryz.prog 60 #[.agg #[.bool n1, .slice a1 l1 c1, .bool n2, .slice a2 l2 c2], .string ⟨#[117, 105, 110, 116, 56]⟩] w fun e w' => ∃ t, e = .returned (.tuple #[t, .bool true]) ∧ CI w' t z (m + 7) ∧ Below w.heap.size w w' := by
  obtain ⟨W, hW, hq2, hq4, hbW, hsz⟩ := two_new (w := w) (A := .cells #[.bool n1, .slice a1 l1 c1, .bool n2, .slice a2 l2 c2] 30) (B := .cells #[.int .i64 0, .bool false, .string ⟨#[]⟩, .bool false, .slice none 0 0, .bool false, .slice none 0 0] 32)
  obtain ⟨⟨p0, p1, p2, p3⟩, _, _⟩ := cells4 hq2
  have kF : Hid (Calls Tryz.prog 112 #[.agg #[.bool n1, .slice a1 l1 c1, .bool n2, .slice a2 l2 c2], .string ⟨#[117, 105, 110, 116, 56]⟩] W _) := fitInt_yes ⟨#[117, 105, 110, 116, 56]⟩ hm (hF.next hbW) hz ends_uint8 hlo hhi
  have hall : Hid (Below w.heap.size w W ∧ W.heap.size = w.heap.size + 1 + 1 ∧ W.heap[w.heap.size + 1]? = some (.cells #[.int .i64 0, .bool false, .string ⟨#[]⟩, .bool false, .slice none 0 0, .bool false, .slice none 0 0] 32 (0, 0))) := ⟨hbW, hsz, hq4⟩
  clear hq2 hq4 hbW hsz hF hz hlo hhi
  go_enter Tryz.func60, Tryz.ntmps60
  go_upto_region 1 with fail
  rw [← hW]
  clear hW
  go_wp2_with fail
  refine Calls.mono kF.out ?_
  clear kF
  rintro e w1 ⟨t, rfl, ⟨nn, dd, hCN, hwz⟩, hb1⟩
  obtain ⟨i1, i2, i3, i4, o1, o2, o3, o4, rfl, hFr⟩ := hCN
  have hq1 := (hb1.block _ (by have := hall.out.2.1; omega)).trans hall.out.2.2
  have hB1 : Hid (Below w.heap.size w w1) := hall.out.1.trans (hb1.mono (by have := hall.out.2.1; omega))
  obtain ⟨⟨r0, r1, r2, r3, r4, r5, r6⟩, rf, rl⟩ := cells7 hq1
  have rf0 := rf 0
  have rf1 := rf 1
  have rf2 := rf 2
  have rf3 := rf 3
  have rf4 := rf 4
  have rf5 := rf 5
  have rf6 := rf 6
  obtain ⟨W8, hW8⟩ : ∃ W8, W8 = put7 w1 (w.heap.size + 1) (.int .i64 3) (.bool false) (.string ⟨#[]⟩) (.bool i1) (.slice i2 i3 i4) (.bool o1) (.slice o2 o3 o4) := ⟨_, rfl⟩
  have hqW8 : Hid (W8.heap[w.heap.size + 1]? = some (.cells #[.int .i64 3, .bool false, .string ⟨#[]⟩, .bool i1, .slice i2 i3 i4, .bool o1, .slice o2 o3 o4] 32 (0, 0))) := by show _ = _; rw [hW8]; exact put7_at hq1
  have hBW8 : Hid (Below w.heap.size w W8) := by
    show Below _ _ _
    rw [hW8]
    exact put7_below hB1.out (by omega)
  have hC8 : Hid (CI W8 (.agg #[.int .i64 3, .bool false, .string ⟨#[]⟩, .bool i1, .slice i2 i3 i4, .bool o1, .slice o2 o3 o4]) z (m + 7)) := by
    refine ⟨nn, dd, ⟨_, _, _, _, _, _, _, _, rfl, ?_⟩, hwz⟩
    rw [hW8]
    exact frac_put7 ⟨_, _, _, _, _, _, _, _, _, _, _, hq1⟩ hFr
  clear hq1 rf hB1 hall hb1 p0 p1 p2 p3 hFr hwz
  go_wp2
  unfold put7 at hW8
  rw [← hW8]
  obtain ⟨⟨j0, j1, j2, j3, j4, j5, j6⟩, _, _⟩ := cells7 hqW8.out
  exact bodyPost_ret (v := .tuple #[.agg #[.int .i64 3, .bool false, .string ⟨#[]⟩, .bool i1, .slice i2 i3 i4, .bool o1, .slice o2 o3 o4], .bool true]) (by simp [results, Tryz.results60, go_sem, j0, j1, j2, j3, j4, j5, j6]) rfl ⟨_, rfl, hC8.out, hBW8.out⟩
set_option maxRecDepth 20000 in
set_option maxHeartbeats 2000000 in
theorem Fits_yes {w : World} {u : Value} {z : Int} {m : Nat} (hu : CI w u z m) (hm : m ≤ 150) (hlo : 0 ≤ z) (hhi : z ≤ 255) :
    Calls Tryz.prog 23 #[u, .string ⟨#[117, 105, 110, 116, 56]⟩] w fun e w' => ∃ t, e = .returned (.tuple #[t, .bool true]) ∧ CI w' t z (m + 7) ∧ Below w.heap.size w w' := by
  obtain ⟨n, d, ⟨n1, a1, l1, c1, n2, a2, l2, c2, rfl, hF⟩, hz⟩ := hu
  have hw : (pN n d).tmod (pD d) = 0 := by rw [hz]; exact Int.mul_tmod_left _ _
  obtain ⟨W, hW, hq2, hq4, hbW, hsz⟩ := two_new (w := w) (A := .cells #[.int .i64 3, .bool false, .string ⟨#[]⟩, .bool n1, .slice a1 l1 c1, .bool n2, .slice a2 l2 c2] 32) (B := .cells #[.int .i64 0, .bool false, .string ⟨#[]⟩, .bool false, .slice none 0 0, .bool false, .slice none 0 0] 32)
  obtain ⟨⟨p0, p1, p2, p3, p4, p5, p6⟩, _, _⟩ := cells7 hq2
  have kA : Hid (Calls Tryz.prog 41 #[.agg #[.int .i64 3, .bool false, .string ⟨#[]⟩, .bool n1, .slice a1 l1 c1, .bool n2, .slice a2 l2 c2]] W _) := admit_int (hF.next hbW) (by omega) hw
  have hall : Hid (Below w.heap.size w W ∧ W.heap.size = w.heap.size + 1 + 1 ∧ W.heap[w.heap.size + 1]? = some (.cells #[.int .i64 0, .bool false, .string ⟨#[]⟩, .bool false, .slice none 0 0, .bool false, .slice none 0 0] 32 (0, 0))) := ⟨hbW, hsz, hq4⟩
  have hFW : Hid (Frac W (.agg #[.bool n1, .slice a1 l1 c1, .bool n2, .slice a2 l2 c2]) n d m ∧ W.heap[w.heap.size]? = some (.cells #[.int .i64 3, .bool false, .string ⟨#[]⟩, .bool n1, .slice a1 l1 c1, .bool n2, .slice a2 l2 c2] 32 (0, 0)) ∧ pN n d = z * pD d) := ⟨hF.next hbW, hq2, hz⟩
  clear hq2 hq4 hbW hsz hF hz hw
  go_enter Tryz.func23, Tryz.ntmps23
  go_upto_region 1 with fail
  rw [← hW]
  clear hW
  go_wp2_with fail
  refine Calls.mono kA.out ?_
  clear kA
  rintro e w1 ⟨rfl, hb1⟩
  have hqa := (hb1.block _ (by have := hall.out.2.1; omega)).trans hFW.out.2.1
  obtain ⟨⟨s0, s1, s2, s3, s4, s5, s6⟩, sf, _⟩ := cells7 hqa
  have sf0 := sf 0
  have sf1 := sf 1
  have sf2 := sf 2
  have sf3 := sf 3
  have sf4 := sf 4
  have sf5 := sf 5
  have sf6 := sf 6
  obtain ⟨X, hX⟩ : ∃ X, X = put7 w1 w.heap.size (.int .i64 3) (.bool false) (.string ⟨#[]⟩) (.bool n1) (.slice a1 l1 c1) (.bool n2) (.slice a2 l2 c2) := ⟨_, rfl⟩
  have hqX : X.heap[w.heap.size]? = some (.cells #[.int .i64 3, .bool false, .string ⟨#[]⟩, .bool n1, .slice a1 l1 c1, .bool n2, .slice a2 l2 c2] 32 (0, 0)) := by rw [hX]; exact put7_at hqa
  obtain ⟨⟨x0, x1, x2, x3, x4, x5, x6⟩, _, _⟩ := cells7 hqX
  have hFX : Frac X (.agg #[.bool n1, .slice a1 l1 c1, .bool n2, .slice a2 l2 c2]) n d m := by rw [hX]; exact frac_put7 ⟨_, _, _, _, _, _, _, _, _, _, _, hqa⟩ (hFW.out.1.next hb1)
  have hsX : X.heap.size = w1.heap.size := by rw [hX]; exact put7_size
  have hBX : Hid (Below w.heap.size w X ∧ X.heap[w.heap.size + 1]? = some (.cells #[.int .i64 0, .bool false, .string ⟨#[]⟩, .bool false, .slice none 0 0, .bool false, .slice none 0 0] 32 (0, 0)) ∧ w.heap.size + 1 + 1 ≤ X.heap.size) := by
    have h1 := hall.out.2.1
    have h2 := hb1.size
    refine ⟨?_, ?_, by omega⟩
    · rw [hX]; exact put7_below (hall.out.1.trans (hb1.mono (by omega))) (Nat.le_refl _)
    · rw [hX, put7_same (by omega), hb1.block _ (by omega)]; exact hall.out.2.2
  have kN : Hid (Calls Tryz.prog 46 #[.agg #[.int .i64 3, .bool false, .string ⟨#[]⟩, .bool n1, .slice a1 l1 c1, .bool n2, .slice a2 l2 c2]] X _) := isNumber_int
  have kG : Hid (∀ Q, Below X.heap.size X Q → Calls Tryz.prog 60 #[.agg #[.bool n1, .slice a1 l1 c1, .bool n2, .slice a2 l2 c2], .string ⟨#[117, 105, 110, 116, 56]⟩] Q fun e w' => ∃ t, e = .returned (.tuple #[t, .bool true]) ∧ CI w' t z (m + 7) ∧ Below Q.heap.size Q w') := fun Q hQ => fitNumber_yes hm (hFX.next hQ) hFW.out.2.2 hlo hhi
  clear hb1 hqa sf hqX hFX hFW hall p0 p1 p2 p3 p4 p5 p6 hsX
  go_upto_region 2 with fail
  unfold put7 at hX
  rw [← hX]
  clear hX
  go_wp2_with fail
  refine Calls.mono kN.out ?_
  clear kN
  rintro e w2 ⟨rfl, hb2⟩
  replace x3 := keep_cell hb2 x3
  replace x4 := keep_cell hb2 x4
  replace x5 := keep_cell hb2 x5
  replace x6 := keep_cell hb2 x6
  have kG' : Hid (Calls Tryz.prog 60 #[.agg #[.bool n1, .slice a1 l1 c1, .bool n2, .slice a2 l2 c2], .string ⟨#[117, 105, 110, 116, 56]⟩] w2 fun e w' => ∃ t, e = .returned (.tuple #[t, .bool true]) ∧ CI w' t z (m + 7) ∧ Below w2.heap.size w2 w') := kG.out w2 hb2
  have hb2h : Hid (Below X.heap.size X w2) := hb2
  clear kG hb2 x0 x1 x2 s0 s1 s2 s3 s4 s5 s6 sf0 sf1 sf2 sf3 sf4 sf5 sf6
  go_wp2_with fail
  refine Calls.mono kG'.out ?_
  clear kG'
  rintro e w3 ⟨t, rfl, ⟨nn, dd, hCN, hwz⟩, hb3⟩
  obtain ⟨i1, i2, i3, i4, o1, o2, o3, o4, rfl, hFr⟩ := hCN
  have hall : Hid (Below w.heap.size w X ∧ w.heap.size + 1 + 1 ≤ X.heap.size ∧ X.heap[w.heap.size + 1]? = some (.cells #[.int .i64 0, .bool false, .string ⟨#[]⟩, .bool false, .slice none 0 0, .bool false, .slice none 0 0] 32 (0, 0))) := ⟨hBX.out.1, hBX.out.2.2, hBX.out.2.1⟩
  have hb4 : Below X.heap.size X w3 := hb2h.out.trans (hb3.mono hb2h.out.size)
  have hq1 := (hb4.block _ (by have := hall.out.2.1; omega)).trans hall.out.2.2
  have hB1 : Hid (Below w.heap.size w w3) := hall.out.1.trans (hb4.mono (by have := hall.out.2.1; omega))
  obtain ⟨⟨r0, r1, r2, r3, r4, r5, r6⟩, rf, rl⟩ := cells7 hq1
  have rf0 := rf 0
  have rf1 := rf 1
  have rf2 := rf 2
  have rf3 := rf 3
  have rf4 := rf 4
  have rf5 := rf 5
  have rf6 := rf 6
  obtain ⟨W8, hW8⟩ : ∃ W8, W8 = put7 w3 (w.heap.size + 1) (.int .i64 3) (.bool false) (.string ⟨#[]⟩) (.bool i1) (.slice i2 i3 i4) (.bool o1) (.slice o2 o3 o4) := ⟨_, rfl⟩
  have hqW8 : Hid (W8.heap[w.heap.size + 1]? = some (.cells #[.int .i64 3, .bool false, .string ⟨#[]⟩, .bool i1, .slice i2 i3 i4, .bool o1, .slice o2 o3 o4] 32 (0, 0))) := by show _ = _; rw [hW8]; exact put7_at hq1
  have hBW8 : Hid (Below w.heap.size w W8) := by
    show Below _ _ _
    rw [hW8]
    exact put7_below hB1.out (by omega)
  have hC8 : Hid (CI W8 (.agg #[.int .i64 3, .bool false, .string ⟨#[]⟩, .bool i1, .slice i2 i3 i4, .bool o1, .slice o2 o3 o4]) z (m + 7)) := by
    refine ⟨nn, dd, ⟨_, _, _, _, _, _, _, _, rfl, ?_⟩, hwz⟩
    rw [hW8]
    exact frac_put7 ⟨_, _, _, _, _, _, _, _, _, _, _, hq1⟩ hFr
  clear hq1 rf hB1 hall hb3 hb4 hb2h hBX x3 x4 x5 x6 hFr hwz
  go_wp2
  unfold put7 at hW8
  rw [← hW8]
  obtain ⟨⟨j0, j1, j2, j3, j4, j5, j6⟩, _, _⟩ := cells7 hqW8.out
  exact bodyPost_ret (v := .tuple #[.agg #[.int .i64 3, .bool false, .string ⟨#[]⟩, .bool i1, .slice i2 i3 i4, .bool o1, .slice o2 o3 o4], .bool true]) (by simp [results, Tryz.results23, go_sem, j0, j1, j2, j3, j4, j5, j6]) rfl ⟨_, rfl, hC8.out, hBW8.out⟩
set_option maxRecDepth 20000 in
set_option maxHeartbeats 2000000 in
theorem Convert_yes {w : World} {u : Value} {z : Int} {m : Nat} (hu : CI w u z m) (hm : m ≤ 150) (hlo : 0 ≤ z) (hhi : z ≤ 255) :
    Calls Tryz.prog 24 #[u, .string ⟨#[117, 105, 110, 116, 56]⟩] w fun e w' => ∃ t, e = .returned (.tuple #[t, .bool true]) ∧ CI w' t z (m + 7) ∧ Below w.heap.size w w' := by
  have hu' := hu
  obtain ⟨n, d, ⟨n1, a1, l1, c1, n2, a2, l2, c2, rfl, _⟩, _⟩ := hu'
  obtain ⟨W, hW, hq2, hq4, hbW, hsz⟩ := two_new (w := w) (A := .cells #[.int .i64 3, .bool false, .string ⟨#[]⟩, .bool n1, .slice a1 l1 c1, .bool n2, .slice a2 l2 c2] 32) (B := .cells #[.int .i64 0, .bool false, .string ⟨#[]⟩, .bool false, .slice none 0 0, .bool false, .slice none 0 0] 32)
  obtain ⟨⟨p0, p1, p2, p3, p4, p5, p6⟩, _, _⟩ := cells7 hq2
  have kF : Hid (Calls Tryz.prog 23 #[.agg #[.int .i64 3, .bool false, .string ⟨#[]⟩, .bool n1, .slice a1 l1 c1, .bool n2, .slice a2 l2 c2], .string ⟨#[117, 105, 110, 116, 56]⟩] W _) := Fits_yes (hu.next hbW) hm hlo hhi
  have hall : Hid (Below w.heap.size w W ∧ W.heap.size = w.heap.size + 1 + 1 ∧ W.heap[w.heap.size + 1]? = some (.cells #[.int .i64 0, .bool false, .string ⟨#[]⟩, .bool false, .slice none 0 0, .bool false, .slice none 0 0] 32 (0, 0))) := ⟨hbW, hsz, hq4⟩
  clear hq2 hq4 hbW hsz hu hlo hhi
  go_enter Tryz.func24, Tryz.ntmps24
  go_upto_region 1 with fail
  rw [← hW]
  clear hW
  go_wp2_with fail
  refine Calls.mono kF.out ?_
  clear kF
  rintro e w1 ⟨t, rfl, ⟨nn, dd, hCN, hwz⟩, hb1⟩
  obtain ⟨i1, i2, i3, i4, o1, o2, o3, o4, rfl, hFr⟩ := hCN
  have hq1 := (hb1.block _ (by have := hall.out.2.1; omega)).trans hall.out.2.2
  have hB1 : Hid (Below w.heap.size w w1) := hall.out.1.trans (hb1.mono (by have := hall.out.2.1; omega))
  obtain ⟨⟨r0, r1, r2, r3, r4, r5, r6⟩, rf, rl⟩ := cells7 hq1
  have rf0 := rf 0
  have rf1 := rf 1
  have rf2 := rf 2
  have rf3 := rf 3
  have rf4 := rf 4
  have rf5 := rf 5
  have rf6 := rf 6
  obtain ⟨W8, hW8⟩ : ∃ W8, W8 = put7 w1 (w.heap.size + 1) (.int .i64 3) (.bool false) (.string ⟨#[]⟩) (.bool i1) (.slice i2 i3 i4) (.bool o1) (.slice o2 o3 o4) := ⟨_, rfl⟩
  have hqW8 : Hid (W8.heap[w.heap.size + 1]? = some (.cells #[.int .i64 3, .bool false, .string ⟨#[]⟩, .bool i1, .slice i2 i3 i4, .bool o1, .slice o2 o3 o4] 32 (0, 0))) := by show _ = _; rw [hW8]; exact put7_at hq1
  have hBW8 : Hid (Below w.heap.size w W8) := by
    show Below _ _ _
    rw [hW8]
    exact put7_below hB1.out (by omega)
  have hC8 : Hid (CI W8 (.agg #[.int .i64 3, .bool false, .string ⟨#[]⟩, .bool i1, .slice i2 i3 i4, .bool o1, .slice o2 o3 o4]) z (m + 7)) := by
    refine ⟨nn, dd, ⟨_, _, _, _, _, _, _, _, rfl, ?_⟩, hwz⟩
    rw [hW8]
    exact frac_put7 ⟨_, _, _, _, _, _, _, _, _, _, _, hq1⟩ hFr
  clear hq1 rf hB1 hall hb1 p0 p1 p2 p3 p4 p5 p6 hFr hwz
  go_wp2
  unfold put7 at hW8
  rw [← hW8]
  obtain ⟨⟨j0, j1, j2, j3, j4, j5, j6⟩, _, _⟩ := cells7 hqW8.out
  exact bodyPost_ret (v := .tuple #[.agg #[.int .i64 3, .bool false, .string ⟨#[]⟩, .bool i1, .slice i2 i3 i4, .bool o1, .slice o2 o3 o4], .bool true]) (by simp [results, Tryz.results24, go_sem, j0, j1, j2, j3, j4, j5, j6]) rfl ⟨_, rfl, hC8.out, hBW8.out⟩
set_option maxRecDepth 20000 in
set_option maxHeartbeats 2000000 in
theorem fitNumber_above {w : World} {n1 : Bool} {a1 : Option Addr} {l1 c1 : Nat} {n2 : Bool} {a2 : Option Addr} {l2 c2 : Nat} {n d z : Int} {m : Nat} (hm : m ≤ 150) (hF : Frac w (.agg #[.bool n1, .slice a1 l1 c1, .bool n2, .slice a2 l2 c2]) n d m) (hz : pN n d = z * pD d) (hlo : 0 ≤ z) (hhi : 255 < z) :
    Calls Tryz.prog 60 #[.agg #[.bool n1, .slice a1 l1 c1, .bool n2, .slice a2 l2 c2], .string ⟨#[117, 105, 110, 116, 56]⟩] w fun e w' => e = .returned (.tuple #[cNone, .bool false]) ∧ Below w.heap.size w w' := by
  obtain ⟨W, hW, hq2, hq4, hbW, hsz⟩ := two_new (w := w) (A := .cells #[.bool n1, .slice a1 l1 c1, .bool n2, .slice a2 l2 c2] 30) (B := .cells #[.int .i64 0, .bool false, .string ⟨#[]⟩, .bool false, .slice none 0 0, .bool false, .slice none 0 0] 32)
  obtain ⟨⟨p0, p1, p2, p3⟩, _, _⟩ := cells4 hq2
  have kF : Hid (Calls Tryz.prog 112 #[.agg #[.bool n1, .slice a1 l1 c1, .bool n2, .slice a2 l2 c2], .string ⟨#[117, 105, 110, 116, 56]⟩] W _) := fitInt_above ⟨#[117, 105, 110, 116, 56]⟩ hm (hF.next hbW) hz ends_uint8 hlo hhi
  have hall : Hid (Below w.heap.size w W ∧ W.heap.size = w.heap.size + 1 + 1 ∧ W.heap[w.heap.size + 1]? = some (.cells #[.int .i64 0, .bool false, .string ⟨#[]⟩, .bool false, .slice none 0 0, .bool false, .slice none 0 0] 32 (0, 0))) := ⟨hbW, hsz, hq4⟩
  clear hq2 hq4 hbW hsz hF hz hlo hhi
  go_enter Tryz.func60, Tryz.ntmps60
  go_upto_region 1 with fail
  rw [← hW]
  clear hW
  go_wp2_with fail
  refine Calls.mono kF.out ?_
  clear kF
  rintro e w1 ⟨rfl, hb1⟩
  unfold cNone
  have hq1 := (hb1.block _ (by have := hall.out.2.1; omega)).trans hall.out.2.2
  have hB1 : Hid (Below w.heap.size w w1) := hall.out.1.trans (hb1.mono (by have := hall.out.2.1; omega))
  obtain ⟨⟨r0, r1, r2, r3, r4, r5, r6⟩, rf, rl⟩ := cells7 hq1
  have rf0 := rf 0
  have rf1 := rf 1
  have rf2 := rf 2
  have rf3 := rf 3
  have rf4 := rf 4
  have rf5 := rf 5
  have rf6 := rf 6
  obtain ⟨W8, hW8⟩ : ∃ W8, W8 = put7 w1 (w.heap.size + 1) (.int .i64 0) (.bool false) (.string ⟨#[]⟩) (.bool false) (.slice none 0 0) (.bool false) (.slice none 0 0) := ⟨_, rfl⟩
  have hqW8 : Hid (W8.heap[w.heap.size + 1]? = some (.cells #[.int .i64 0, .bool false, .string ⟨#[]⟩, .bool false, .slice none 0 0, .bool false, .slice none 0 0] 32 (0, 0))) := by show _ = _; rw [hW8]; exact put7_at hq1
  have hBW8 : Hid (Below w.heap.size w W8) := by
    show Below _ _ _
    rw [hW8]
    exact put7_below hB1.out (by omega)
  clear hq1 rf hB1 hall hb1 p0 p1 p2 p3
  go_wp2
  unfold put7 at hW8
  rw [← hW8]
  obtain ⟨⟨j0, j1, j2, j3, j4, j5, j6⟩, _, _⟩ := cells7 hqW8.out
  exact bodyPost_ret (v := .tuple #[.agg #[.int .i64 0, .bool false, .string ⟨#[]⟩, .bool false, .slice none 0 0, .bool false, .slice none 0 0], .bool false]) (by simp [results, Tryz.results60, go_sem, j0, j1, j2, j3, j4, j5, j6]) rfl ⟨rfl, hBW8.out⟩
set_option maxRecDepth 20000 in
set_option maxHeartbeats 2000000 in
theorem Fits_above {w : World} {u : Value} {z : Int} {m : Nat} (hu : CI w u z m) (hm : m ≤ 150) (hlo : 0 ≤ z) (hhi : 255 < z) :
    Calls Tryz.prog 23 #[u, .string ⟨#[117, 105, 110, 116, 56]⟩] w fun e w' => e = .returned (.tuple #[cNone, .bool false]) ∧ Below w.heap.size w w' := by
  obtain ⟨n, d, ⟨n1, a1, l1, c1, n2, a2, l2, c2, rfl, hF⟩, hz⟩ := hu
  have hw : (pN n d).tmod (pD d) = 0 := by rw [hz]; exact Int.mul_tmod_left _ _
  obtain ⟨W, hW, hq2, hq4, hbW, hsz⟩ := two_new (w := w) (A := .cells #[.int .i64 3, .bool false, .string ⟨#[]⟩, .bool n1, .slice a1 l1 c1, .bool n2, .slice a2 l2 c2] 32) (B := .cells #[.int .i64 0, .bool false, .string ⟨#[]⟩, .bool false, .slice none 0 0, .bool false, .slice none 0 0] 32)
  obtain ⟨⟨p0, p1, p2, p3, p4, p5, p6⟩, _, _⟩ := cells7 hq2
  have kA : Hid (Calls Tryz.prog 41 #[.agg #[.int .i64 3, .bool false, .string ⟨#[]⟩, .bool n1, .slice a1 l1 c1, .bool n2, .slice a2 l2 c2]] W _) := admit_int (hF.next hbW) (by omega) hw
  have hall : Hid (Below w.heap.size w W ∧ W.heap.size = w.heap.size + 1 + 1 ∧ W.heap[w.heap.size + 1]? = some (.cells #[.int .i64 0, .bool false, .string ⟨#[]⟩, .bool false, .slice none 0 0, .bool false, .slice none 0 0] 32 (0, 0))) := ⟨hbW, hsz, hq4⟩
  have hFW : Hid (Frac W (.agg #[.bool n1, .slice a1 l1 c1, .bool n2, .slice a2 l2 c2]) n d m ∧ W.heap[w.heap.size]? = some (.cells #[.int .i64 3, .bool false, .string ⟨#[]⟩, .bool n1, .slice a1 l1 c1, .bool n2, .slice a2 l2 c2] 32 (0, 0)) ∧ pN n d = z * pD d) := ⟨hF.next hbW, hq2, hz⟩
  clear hq2 hq4 hbW hsz hF hz hw
  go_enter Tryz.func23, Tryz.ntmps23
  go_upto_region 1 with fail
  rw [← hW]
  clear hW
  go_wp2_with fail
  refine Calls.mono kA.out ?_
  clear kA
  rintro e w1 ⟨rfl, hb1⟩
  have hqa := (hb1.block _ (by have := hall.out.2.1; omega)).trans hFW.out.2.1
  obtain ⟨⟨s0, s1, s2, s3, s4, s5, s6⟩, sf, _⟩ := cells7 hqa
  have sf0 := sf 0
  have sf1 := sf 1
  have sf2 := sf 2
  have sf3 := sf 3
  have sf4 := sf 4
  have sf5 := sf 5
  have sf6 := sf 6
  obtain ⟨X, hX⟩ : ∃ X, X = put7 w1 w.heap.size (.int .i64 3) (.bool false) (.string ⟨#[]⟩) (.bool n1) (.slice a1 l1 c1) (.bool n2) (.slice a2 l2 c2) := ⟨_, rfl⟩
  have hqX : X.heap[w.heap.size]? = some (.cells #[.int .i64 3, .bool false, .string ⟨#[]⟩, .bool n1, .slice a1 l1 c1, .bool n2, .slice a2 l2 c2] 32 (0, 0)) := by rw [hX]; exact put7_at hqa
  obtain ⟨⟨x0, x1, x2, x3, x4, x5, x6⟩, _, _⟩ := cells7 hqX
  have hFX : Frac X (.agg #[.bool n1, .slice a1 l1 c1, .bool n2, .slice a2 l2 c2]) n d m := by rw [hX]; exact frac_put7 ⟨_, _, _, _, _, _, _, _, _, _, _, hqa⟩ (hFW.out.1.next hb1)
  have hsX : X.heap.size = w1.heap.size := by rw [hX]; exact put7_size
  have hBX : Hid (Below w.heap.size w X ∧ X.heap[w.heap.size + 1]? = some (.cells #[.int .i64 0, .bool false, .string ⟨#[]⟩, .bool false, .slice none 0 0, .bool false, .slice none 0 0] 32 (0, 0)) ∧ w.heap.size + 1 + 1 ≤ X.heap.size) := by
    have h1 := hall.out.2.1
    have h2 := hb1.size
    refine ⟨?_, ?_, by omega⟩
    · rw [hX]; exact put7_below (hall.out.1.trans (hb1.mono (by omega))) (Nat.le_refl _)
    · rw [hX, put7_same (by omega), hb1.block _ (by omega)]; exact hall.out.2.2
  have kN : Hid (Calls Tryz.prog 46 #[.agg #[.int .i64 3, .bool false, .string ⟨#[]⟩, .bool n1, .slice a1 l1 c1, .bool n2, .slice a2 l2 c2]] X _) := isNumber_int
  have kG : Hid (∀ Q, Below X.heap.size X Q → Calls Tryz.prog 60 #[.agg #[.bool n1, .slice a1 l1 c1, .bool n2, .slice a2 l2 c2], .string ⟨#[117, 105, 110, 116, 56]⟩] Q fun e w' => e = .returned (.tuple #[cNone, .bool false]) ∧ Below Q.heap.size Q w') := fun Q hQ => fitNumber_above hm (hFX.next hQ) hFW.out.2.2 hlo hhi
  clear hb1 hqa sf hqX hFX hFW hall p0 p1 p2 p3 p4 p5 p6 hsX
  go_upto_region 2 with fail
  unfold put7 at hX
  rw [← hX]
  clear hX
  go_wp2_with fail
  refine Calls.mono kN.out ?_
  clear kN
  rintro e w2 ⟨rfl, hb2⟩
  replace x3 := keep_cell hb2 x3
  replace x4 := keep_cell hb2 x4
  replace x5 := keep_cell hb2 x5
  replace x6 := keep_cell hb2 x6
  have kG' : Hid (Calls Tryz.prog 60 #[.agg #[.bool n1, .slice a1 l1 c1, .bool n2, .slice a2 l2 c2], .string ⟨#[117, 105, 110, 116, 56]⟩] w2 fun e w' => e = .returned (.tuple #[cNone, .bool false]) ∧ Below w2.heap.size w2 w') := kG.out w2 hb2
  have hb2h : Hid (Below X.heap.size X w2) := hb2
  clear kG hb2 x0 x1 x2 s0 s1 s2 s3 s4 s5 s6 sf0 sf1 sf2 sf3 sf4 sf5 sf6
  go_wp2_with fail
  refine Calls.mono kG'.out ?_
  clear kG'
  rintro e w3 ⟨rfl, hb3⟩
  unfold cNone
  have hall : Hid (Below w.heap.size w X ∧ w.heap.size + 1 + 1 ≤ X.heap.size ∧ X.heap[w.heap.size + 1]? = some (.cells #[.int .i64 0, .bool false, .string ⟨#[]⟩, .bool false, .slice none 0 0, .bool false, .slice none 0 0] 32 (0, 0))) := ⟨hBX.out.1, hBX.out.2.2, hBX.out.2.1⟩
  have hb4 : Below X.heap.size X w3 := hb2h.out.trans (hb3.mono hb2h.out.size)
  have hq1 := (hb4.block _ (by have := hall.out.2.1; omega)).trans hall.out.2.2
  have hB1 : Hid (Below w.heap.size w w3) := hall.out.1.trans (hb4.mono (by have := hall.out.2.1; omega))
  obtain ⟨⟨r0, r1, r2, r3, r4, r5, r6⟩, rf, rl⟩ := cells7 hq1
  have rf0 := rf 0
  have rf1 := rf 1
  have rf2 := rf 2
  have rf3 := rf 3
  have rf4 := rf 4
  have rf5 := rf 5
  have rf6 := rf 6
  obtain ⟨W8, hW8⟩ : ∃ W8, W8 = put7 w3 (w.heap.size + 1) (.int .i64 0) (.bool false) (.string ⟨#[]⟩) (.bool false) (.slice none 0 0) (.bool false) (.slice none 0 0) := ⟨_, rfl⟩
  have hqW8 : Hid (W8.heap[w.heap.size + 1]? = some (.cells #[.int .i64 0, .bool false, .string ⟨#[]⟩, .bool false, .slice none 0 0, .bool false, .slice none 0 0] 32 (0, 0))) := by show _ = _; rw [hW8]; exact put7_at hq1
  have hBW8 : Hid (Below w.heap.size w W8) := by
    show Below _ _ _
    rw [hW8]
    exact put7_below hB1.out (by omega)
  clear hq1 rf hB1 hall hb3 hb4 hb2h hBX x3 x4 x5 x6
  go_wp2
  unfold put7 at hW8
  rw [← hW8]
  obtain ⟨⟨j0, j1, j2, j3, j4, j5, j6⟩, _, _⟩ := cells7 hqW8.out
  exact bodyPost_ret (v := .tuple #[.agg #[.int .i64 0, .bool false, .string ⟨#[]⟩, .bool false, .slice none 0 0, .bool false, .slice none 0 0], .bool false]) (by simp [results, Tryz.results23, go_sem, j0, j1, j2, j3, j4, j5, j6]) rfl ⟨rfl, hBW8.out⟩
end Go.Proofs.YtclokcoimdjaeaaGreatDoor
namespace Go.Proofs.YtclokcoimdjaeaaGreatDoor
open Go.RowKit
attribute [local go_sem ↓] Go.wp_at_zero Go.wp_at_succ
theorem frac_nil (w : World) (n : Nat) : Frac w (.agg #[.bool false, .slice none 0 0, .bool false, .slice none 0 0]) 0 0 n := ⟨_, _, _, _, _, _, _, _, rfl, num_nil w n, num_nil w n⟩
theorem low_minus {n d z p q : Int} (hz : pN n d = z * pD d) (h : Low (pN 0 0 * pD d - pN n d * pD 0) (pD 0 * pD d) p q) : pN p q = -z * pD q := by
  obtain ⟨h0, _, h2⟩ := h
  have e0 : pN 0 0 = 0 := by decide
  have e1 : pD 0 = 1 := by decide
  rw [e0, e1, hz] at h2
  rw [pN_pos h0, pD_of h0]
  have hp := pD_pos d
  have h3 : p * pD d = -z * q * pD d := by
    rw [Int.one_mul] at h2
    rw [h2]
    rw [Int.zero_mul, Int.mul_one, Int.zero_sub, ← Int.neg_mul, Int.mul_right_comm]
  exact Int.eq_of_mul_eq_mul_right (by omega) h3
set_option maxRecDepth 20000 in
set_option maxHeartbeats 2000000 in
theorem calcF_sub {w : World} {n1 : Bool} {a1 : Option Addr} {l1 c1 : Nat} {n2 : Bool} {a2 : Option Addr} {l2 c2 : Nat} {n d : Int} {m : Nat} (hF : Frac w (.agg #[.bool n1, .slice a1 l1 c1, .bool n2, .slice a2 l2 c2]) n d m) (hm : m ≤ 80) :
    Calls Tryz.prog 47 #[.string ⟨#[45]⟩, .agg #[.bool false, .slice none 0 0, .bool false, .slice none 0 0], .agg #[.bool n1, .slice a1 l1 c1, .bool n2, .slice a2 l2 c2]] w fun e w' => ∃ t, e = .returned (.tuple #[t, .bool true]) ∧ (∃ p q, Frac w' t p q (2 * m + 7) ∧ Low (pN 0 0 * pD d - pN n d * pD 0) (pD 0 * pD d) p q) ∧ Below w.heap.size w w' := by
  obtain ⟨W, hW, hq4, hq5, hq6, hbW, hsz⟩ := three_new (w := w) (A := .cells #[.bool false, .slice none 0 0, .bool false, .slice none 0 0] 30) (B := .cells #[.bool n1, .slice a1 l1 c1, .bool n2, .slice a2 l2 c2] 30) (C := .cells #[.bool false, .slice none 0 0, .bool false, .slice none 0 0] 30)
  obtain ⟨⟨p0, p1, p2, p3⟩, _, _⟩ := cells4 hq4
  obtain ⟨⟨q0, q1, q2, q3⟩, _, _⟩ := cells4 hq5
  have kS : Hid (Calls Tryz.prog 93 #[.agg #[.bool false, .slice none 0 0, .bool false, .slice none 0 0], .agg #[.bool n1, .slice a1 l1 c1, .bool n2, .slice a2 l2 c2]] W _) := Sub26_num (frac_nil W m) (hF.next hbW) hm
  have hall : Hid (Below w.heap.size w W ∧ W.heap.size = w.heap.size + 1 + 1 + 1 ∧ W.heap[w.heap.size + 1 + 1]? = some (.cells #[.bool false, .slice none 0 0, .bool false, .slice none 0 0] 30 (0, 0))) := ⟨hbW, hsz, hq6⟩
  clear hq4 hq5 hq6 hbW hsz hF
  go_enter Tryz.func47, Tryz.ntmps47
  go_upto_region 1 with fail
  rw [← hW]
  clear hW
  go_wp2_with fail
  refine Calls.mono kS.out ?_
  clear kS
  rintro e w1 ⟨t, rfl, ⟨pp, qq, hFE, hlow⟩, hb1⟩
  have hFr := hFE.frac
  obtain ⟨i1, i2, i3, i4, o1, o2, o3, o4, rfl, _, _⟩ := hFE
  have hq1 := (hb1.block _ (by have := hall.out.2.1; omega)).trans hall.out.2.2
  obtain ⟨⟨r0, r1, r2, r3⟩, rf, _⟩ := cells4 hq1
  have rf0 := rf 0
  have rf1 := rf 1
  have rf2 := rf 2
  have rf3 := rf 3
  have hnb : NoInt w1 (w.heap.size + 1 + 1) := ⟨_, _, _, hq1, by decide, four_notInt (notInt_bool _) (notInt_slice _ _ _) (notInt_bool _) (notInt_slice _ _ _)⟩
  obtain ⟨W8, hW8⟩ : ∃ W8, W8 = put4c w1 (w.heap.size + 1 + 1) (.bool i1) (.slice i2 i3 i4) (.bool o1) (.slice o2 o3 o4) := ⟨_, rfl⟩
  have hq8 : Hid (W8.heap[w.heap.size + 1 + 1]? = some (.cells #[.bool i1, .slice i2 i3 i4, .bool o1, .slice o2 o3 o4] 30 (0, 0))) := by show _ = _; rw [hW8]; exact put4c_at hq1
  have hbx : Boxed w.heap.size w1 W8 := by rw [hW8]; unfold put4c; exact put4_boxed hnb (by omega) _ _ _ _ _ _ _ _
  have hB8 : Hid (Below w.heap.size w W8) := hbx.keep (hall.out.1.trans (hb1.mono (by have := hall.out.2.1; omega))) (Nat.le_refl _) (by have := hall.out.2.1; have := hb1.size; omega)
  have hF8 : Hid (∃ p q, Frac W8 (.agg #[.bool i1, .slice i2 i3 i4, .bool o1, .slice o2 o3 o4]) p q (2 * m + 7) ∧ Low (pN 0 0 * pD d - pN n d * pD 0) (pD 0 * pD d) p q) := by
    obtain ⟨_, _, _, _, _, _, _, _, ev, hn1, hn2⟩ := hFr
    exact ⟨pp, qq, ⟨_, _, _, _, _, _, _, _, ev, hbx.num hn1, hbx.num hn2⟩, hlow⟩
  clear hq1 rf hnb hbx hFr hlow hb1 hall p0 p1 p2 p3 q0 q1 q2 q3
  go_wp2
  unfold put4c at hW8
  rw [← hW8]
  obtain ⟨⟨j0, j1, j2, j3⟩, _, _⟩ := cells4 hq8.out
  exact bodyPost_ret (v := .tuple #[.agg #[.bool i1, .slice i2 i3 i4, .bool o1, .slice o2 o3 o4], .bool true]) (by simp [results, Tryz.results47, go_sem, j0, j1, j2, j3]) rfl ⟨_, rfl, hF8.out, hB8.out⟩
set_option maxRecDepth 20000 in
set_option maxHeartbeats 2000000 in
theorem Unary_neg {w : World} {u : Value} {z : Int} {m : Nat} (hu : CI w u z m) (hm : m ≤ 80) :
    Calls Tryz.prog 15 #[.string ⟨#[45]⟩, u] w fun e w' => ∃ t, e = .returned (.tuple #[t, .bool true]) ∧ CI w' t (-z) (2 * m + 7) ∧ Below w.heap.size w w' := by
  obtain ⟨n, d, ⟨n1, a1, l1, c1, n2, a2, l2, c2, rfl, hF⟩, hz⟩ := hu
  have hw : (pN n d).tmod (pD d) = 0 := by rw [hz]; exact Int.mul_tmod_left _ _
  obtain ⟨W, hW, hq2, hq4, hbW, hsz⟩ := two_new (w := w) (A := .cells #[.int .i64 3, .bool false, .string ⟨#[]⟩, .bool n1, .slice a1 l1 c1, .bool n2, .slice a2 l2 c2] 32) (B := .cells #[.int .i64 0, .bool false, .string ⟨#[]⟩, .bool false, .slice none 0 0, .bool false, .slice none 0 0] 32)
  obtain ⟨⟨p0, p1, p2, p3, p4, p5, p6⟩, _, _⟩ := cells7 hq2
  have kA : Hid (Calls Tryz.prog 41 #[.agg #[.int .i64 3, .bool false, .string ⟨#[]⟩, .bool n1, .slice a1 l1 c1, .bool n2, .slice a2 l2 c2]] W _) := admit_int (hF.next hbW) (by omega) hw
  have hall : Hid (Below w.heap.size w W ∧ W.heap.size = w.heap.size + 1 + 1 ∧ W.heap[w.heap.size + 1]? = some (.cells #[.int .i64 0, .bool false, .string ⟨#[]⟩, .bool false, .slice none 0 0, .bool false, .slice none 0 0] 32 (0, 0))) := ⟨hbW, hsz, hq4⟩
  have hFW : Hid (Frac W (.agg #[.bool n1, .slice a1 l1 c1, .bool n2, .slice a2 l2 c2]) n d m ∧ W.heap[w.heap.size]? = some (.cells #[.int .i64 3, .bool false, .string ⟨#[]⟩, .bool n1, .slice a1 l1 c1, .bool n2, .slice a2 l2 c2] 32 (0, 0)) ∧ pN n d = z * pD d) := ⟨hF.next hbW, hq2, hz⟩
  clear hq2 hq4 hbW hsz hF hz hw
  go_enter Tryz.func15, Tryz.ntmps15
  go_upto_region 1 with fail
  rw [← hW]
  clear hW
  go_wp2_with fail
  refine Calls.mono kA.out ?_
  clear kA
  rintro e w1 ⟨rfl, hb1⟩
  have hqa := (hb1.block _ (by have := hall.out.2.1; omega)).trans hFW.out.2.1
  obtain ⟨⟨s0, s1, s2, s3, s4, s5, s6⟩, sf, _⟩ := cells7 hqa
  have sf0 := sf 0
  have sf1 := sf 1
  have sf2 := sf 2
  have sf3 := sf 3
  have sf4 := sf 4
  have sf5 := sf 5
  have sf6 := sf 6
  obtain ⟨X, hX⟩ : ∃ X, X = put7 w1 w.heap.size (.int .i64 3) (.bool false) (.string ⟨#[]⟩) (.bool n1) (.slice a1 l1 c1) (.bool n2) (.slice a2 l2 c2) := ⟨_, rfl⟩
  have hqX : X.heap[w.heap.size]? = some (.cells #[.int .i64 3, .bool false, .string ⟨#[]⟩, .bool n1, .slice a1 l1 c1, .bool n2, .slice a2 l2 c2] 32 (0, 0)) := by rw [hX]; exact put7_at hqa
  obtain ⟨⟨x0, x1, x2, x3, x4, x5, x6⟩, _, _⟩ := cells7 hqX
  have hFX : Frac X (.agg #[.bool n1, .slice a1 l1 c1, .bool n2, .slice a2 l2 c2]) n d m := by rw [hX]; exact frac_put7 ⟨_, _, _, _, _, _, _, _, _, _, _, hqa⟩ (hFW.out.1.next hb1)
  have hsX : X.heap.size = w1.heap.size := by rw [hX]; exact put7_size
  have hBX : Hid (Below w.heap.size w X ∧ X.heap[w.heap.size + 1]? = some (.cells #[.int .i64 0, .bool false, .string ⟨#[]⟩, .bool false, .slice none 0 0, .bool false, .slice none 0 0] 32 (0, 0)) ∧ w.heap.size + 1 + 1 ≤ X.heap.size) := by
    have h1 := hall.out.2.1
    have h2 := hb1.size
    refine ⟨?_, ?_, by omega⟩
    · rw [hX]; exact put7_below (hall.out.1.trans (hb1.mono (by omega))) (Nat.le_refl _)
    · rw [hX, put7_same (by omega), hb1.block _ (by omega)]; exact hall.out.2.2
  have kN : Hid (Calls Tryz.prog 46 #[.agg #[.int .i64 3, .bool false, .string ⟨#[]⟩, .bool n1, .slice a1 l1 c1, .bool n2, .slice a2 l2 c2]] X _) := isNumber_int
  have kG : Hid (∀ Q, Below X.heap.size X Q → Calls Tryz.prog 47 #[.string ⟨#[45]⟩, .agg #[.bool false, .slice none 0 0, .bool false, .slice none 0 0], .agg #[.bool n1, .slice a1 l1 c1, .bool n2, .slice a2 l2 c2]] Q fun e w' => ∃ t, e = .returned (.tuple #[t, .bool true]) ∧ (∃ p q, Frac w' t p q (2 * m + 7) ∧ pN p q = -z * pD q) ∧ Below Q.heap.size Q w') := fun Q hQ => (calcF_sub (hFX.next hQ) hm).mono fun e w' h => by
    obtain ⟨t, rfl, ⟨p, q, hf, hl⟩, hb⟩ := h
    exact ⟨t, rfl, ⟨p, q, hf, low_minus hFW.out.2.2 hl⟩, hb⟩
  clear hb1 hqa sf hqX hFX hFW hall p0 p1 p2 p3 p4 p5 p6 hsX
  go_upto_region 2 with fail
  unfold put7 at hX
  rw [← hX]
  clear hX
  go_wp2_with fail
  refine Calls.mono kN.out ?_
  clear kN
  rintro e w2 ⟨rfl, hb2⟩
  replace x0 := keep_cell hb2 x0
  replace x1 := keep_cell hb2 x1
  replace x2 := keep_cell hb2 x2
  replace x3 := keep_cell hb2 x3
  replace x4 := keep_cell hb2 x4
  replace x5 := keep_cell hb2 x5
  replace x6 := keep_cell hb2 x6
  have kG' : Hid (Calls Tryz.prog 47 #[.string ⟨#[45]⟩, .agg #[.bool false, .slice none 0 0, .bool false, .slice none 0 0], .agg #[.bool n1, .slice a1 l1 c1, .bool n2, .slice a2 l2 c2]] w2 fun e w' => ∃ t, e = .returned (.tuple #[t, .bool true]) ∧ (∃ p q, Frac w' t p q (2 * m + 7) ∧ pN p q = -z * pD q) ∧ Below w2.heap.size w2 w') := kG.out w2 hb2
  have hb2h : Hid (Below X.heap.size X w2) := hb2
  clear kG hb2 s0 s1 s2 s3 s4 s5 s6 sf0 sf1 sf2 sf3 sf4 sf5 sf6
  go_wp2_with fail
  refine Calls.mono kG'.out ?_
  clear kG'
  rintro e w3 ⟨t, rfl, ⟨pp, qq, hFr, hwz⟩, hb3⟩
  have hFr' := hFr
  obtain ⟨g1, f1, e1, h1, g2, f2, e2, h2, rfl, _, _⟩ := hFr'
  obtain ⟨Y, hY⟩ : ∃ Y, Y = w3.alloc (.cells #[.bool g1, .slice f1 e1 h1, .bool g2, .slice f2 e2 h2] 30) := ⟨_, rfl⟩
  have hbY : Below w3.heap.size w3 Y := by rw [hY]; exact (Below.refl _ _).alloc (Nat.le_refl _) _
  have hqY : Y.heap[w3.heap.size]? = some (.cells #[.bool g1, .slice f1 e1 h1, .bool g2, .slice f2 e2 h2] 30 (0, 0)) := by rw [hY]; exact newAt _ _
  obtain ⟨⟨y0, y1, y2, y3⟩, _, yl⟩ := cells4 hqY
  have hbX3 : Below X.heap.size X Y := hb2h.out.trans ((hb3.mono hb2h.out.size).trans (hbY.mono (by have := hb2h.out.size; have := hb3.size; omega)))
  have x0' : Y.cell? ⟨w.heap.size, 0, none⟩ = some (.int .i64 3) := keep_cell hbY (keep_cell hb3 x0)
  have kO : Hid (Calls Tryz.prog 48 #[.int .i64 3, .agg #[.bool g1, .slice f1 e1 h1, .bool g2, .slice f2 e2 h2], .bool true] Y _) := ofNumber_ok (k := 3) (hFr.next hbY) (by omega)
  have hbX3h : Hid (Below X.heap.size X Y) := hbX3
  have hwzh : Hid (pN pp qq = -z * pD qq) := hwz
  clear hFr hb3 hbY hqY hbX3 hb2h hwz x0 x1 x2 x3 x4 x5 x6
  go_upto_region 8 with fail
  rw [← hY]
  clear hY
  obtain ⟨bx, hbx⟩ : ∃ bx, bx = w3.heap.size := ⟨_, rfl⟩
  rw [← hbx] at y0 y1 y2 y3 yl ⊢
  clear hbx
  go_wp2_with fail
  refine Calls.mono kO.out ?_
  clear kO
  rintro e w5 ⟨t, rfl, hCN, hb5⟩
  obtain ⟨i1, i2, i3, i4, o1, o2, o3, o4, rfl, hFr⟩ := hCN
  have hb6 : Below X.heap.size X w5 := hbX3h.out.trans (hb5.mono hbX3h.out.size)
  have hq1 := (hb6.block _ (by have := hBX.out.2.2; omega)).trans hBX.out.2.1
  have hB1 : Hid (Below w.heap.size w w5) := hBX.out.1.trans (hb6.mono (by have := hBX.out.2.2; omega))
  obtain ⟨⟨r0, r1, r2, r3, r4, r5, r6⟩, rf, rl⟩ := cells7 hq1
  have rf0 := rf 0
  have rf1 := rf 1
  have rf2 := rf 2
  have rf3 := rf 3
  have rf4 := rf 4
  have rf5 := rf 5
  have rf6 := rf 6
  obtain ⟨W8, hW8⟩ : ∃ W8, W8 = put7 w5 (w.heap.size + 1) (.int .i64 3) (.bool false) (.string ⟨#[]⟩) (.bool i1) (.slice i2 i3 i4) (.bool o1) (.slice o2 o3 o4) := ⟨_, rfl⟩
  have hqW8 : Hid (W8.heap[w.heap.size + 1]? = some (.cells #[.int .i64 3, .bool false, .string ⟨#[]⟩, .bool i1, .slice i2 i3 i4, .bool o1, .slice o2 o3 o4] 32 (0, 0))) := by show _ = _; rw [hW8]; exact put7_at hq1
  have hBW8 : Hid (Below w.heap.size w W8) := by
    show Below _ _ _
    rw [hW8]
    exact put7_below hB1.out (by omega)
  have hC8 : Hid (CI W8 (.agg #[.int .i64 3, .bool false, .string ⟨#[]⟩, .bool i1, .slice i2 i3 i4, .bool o1, .slice o2 o3 o4]) (-z) (2 * m + 7)) := by
    refine ⟨pp, qq, ⟨_, _, _, _, _, _, _, _, rfl, ?_⟩, hwzh.out⟩
    rw [hW8]
    exact frac_put7 ⟨_, _, _, _, _, _, _, _, _, _, _, hq1⟩ hFr
  clear hq1 rf hB1 hb5 hb6 hFr hBX hbX3h y0 y1 y2 y3 x0'
  go_wp2
  unfold put7 at hW8
  rw [← hW8]
  obtain ⟨⟨j0, j1, j2, j3, j4, j5, j6⟩, _, _⟩ := cells7 hqW8.out
  exact bodyPost_ret (v := .tuple #[.agg #[.int .i64 3, .bool false, .string ⟨#[]⟩, .bool i1, .slice i2 i3 i4, .bool o1, .slice o2 o3 o4], .bool true]) (by simp [results, Tryz.results15, go_sem, j0, j1, j2, j3, j4, j5, j6]) rfl ⟨_, rfl, hC8.out, hBW8.out⟩
set_option maxRecDepth 20000 in
set_option maxHeartbeats 2000000 in
theorem Default_int {w : World} {u : Value} {z : Int} {m : Nat} (hu : CI w u z m) (hm : m ≤ 150) :
    Calls Tryz.prog 27 #[u] w fun e w' => e = .returned (.string ⟨#[105, 110, 116]⟩) ∧ Below w.heap.size w w' := by
  obtain ⟨n, d, ⟨n1, a1, l1, c1, n2, a2, l2, c2, rfl, hF⟩, hz⟩ := hu
  have hw : (pN n d).tmod (pD d) = 0 := by rw [hz]; exact Int.mul_tmod_left _ _
  obtain ⟨W, hW⟩ : ∃ W, W = w.alloc (.cells #[.int .i64 3, .bool false, .string ⟨#[]⟩, .bool n1, .slice a1 l1 c1, .bool n2, .slice a2 l2 c2] 32) := ⟨_, rfl⟩
  have hbW : Below w.heap.size w W := by rw [hW]; exact (Below.refl _ _).alloc (Nat.le_refl _) _
  have hsz : W.heap.size = w.heap.size + 1 := by rw [hW]; simp
  have hq : W.heap[w.heap.size]? = some (.cells #[.int .i64 3, .bool false, .string ⟨#[]⟩, .bool n1, .slice a1 l1 c1, .bool n2, .slice a2 l2 c2] 32 (0, 0)) := by rw [hW]; exact newAt _ _
  obtain ⟨⟨p0, p1, p2, p3, p4, p5, p6⟩, _, _⟩ := cells7 hq
  have kA : Hid (Calls Tryz.prog 41 #[.agg #[.int .i64 3, .bool false, .string ⟨#[]⟩, .bool n1, .slice a1 l1 c1, .bool n2, .slice a2 l2 c2]] W _) := admit_int (hF.next hbW) (by omega) hw
  have hall : Hid (Below w.heap.size w W ∧ W.heap.size = w.heap.size + 1) := ⟨hbW, hsz⟩
  have hfld : ∀ X, Sem.run Tryz.prog (Instr.field 32 (.agg #[.int .i64 3, .bool false, .string ⟨#[]⟩, .bool n1, .slice a1 l1 c1, .bool n2, .slice a2 l2 c2]) 0) X = .ok (.int .i64 3) X := fun X => by rfl
  clear hq hbW hsz hF hz hw
  go_enter Tryz.func27, Tryz.ntmps27
  go_upto_region 1 with fail
  rw [← hW]
  clear hW
  go_wp2_with fail
  refine Calls.mono kA.out ?_
  clear kA
  rintro e w1 ⟨rfl, hb1⟩
  have hB : Hid (Below w.heap.size w w1) := hall.out.1.trans (hb1.mono (by have := hall.out.2; omega))
  clear hb1 hall p0 p1 p2 p3 p4 p5 p6
  go_wp2
  go_ret
  exact ⟨rfl, hB.out⟩
end Go.Proofs.YtclokcoimdjaeaaGreatDoor
