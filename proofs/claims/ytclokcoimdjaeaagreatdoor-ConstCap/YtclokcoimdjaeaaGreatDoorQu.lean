/- constants: the literal 0x10. -/
import Derived.Test.YtclokcoimdjaeaaGreatDoorQtm
import Derived.Test.YtclokcoimdjaeaaGreatDoorNfcm
namespace Go.Proofs.YtclokcoimdjaeaaGreatDoor
open Go.RowKit Go.Shelf Go.Lib
attribute [local go_sem ↓] Go.wp_at_zero Go.wp_at_succ
theorem parse_0x10 (w : World) : Calls Tryz.prog 73 #[.string ⟨#[48, 120, 49, 48]⟩] w fun e w' => ∃ t, e = .returned (.tuple #[t, .bool true]) ∧ LowE w' t 16 1 7 ∧ Below w.heap.size w w' := by
  have e1 : baseI ⟨#[48, 120, 49, 48]⟩ = 16 := by decide +kernel
  have e2 : restS ⟨#[48, 120, 49, 48]⟩ = ⟨#[49, 48]⟩ := by unfold restS; rw [if_neg (by rw [e1]; decide)]; rfl
  have kB : ∀ W, Calls Tryz.prog 124 #[.string ⟨#[48, 120, 49, 48]⟩] W fun e w' => e = .returned (.tuple #[.int .i64 16, .string ⟨#[49, 48]⟩]) ∧ Below W.heap.size W w' := fun W => by
    have := cutBase_any ⟨#[48, 120, 49, 48]⟩ (by decide) W
    rw [e1, e2] at this
    exact this
  have kE : ∀ W, Calls Tryz.prog 125 #[.string ⟨#[49, 48]⟩, .int .i64 16] W fun e w' => e = .returned (.tuple #[.string ⟨#[49, 48]⟩, .string ⟨#[]⟩, .bool false]) ∧ Below W.heap.size W w' := fun W => by
    have := cutExponent_any ⟨#[49, 48]⟩ (by decide) 16 W (-1) (by decide +kernel)
    rw [if_pos (by decide)] at this
    exact this
  have kC : ∀ W, Calls Tryz.prog 126 #[.string ⟨#[49, 48]⟩, .string ⟨#[46]⟩] W fun e w' => e = .returned (.tuple #[.string ⟨#[49, 48]⟩, .string ⟨#[]⟩, .bool false]) ∧ Below W.heap.size W w' := fun W => by
    have := cut_any ⟨#[49, 48]⟩ (by decide) W (-1) (by decide +kernel)
    unfold cutR at this
    rw [if_pos (by decide)] at this
    exact this
  refine (parse_whole ⟨#[48, 120, 49, 48]⟩ w 16 ⟨#[49, 48]⟩ ⟨#[49, 48]⟩ ⟨#[]⟩ ⟨#[49, 48]⟩ ⟨#[]⟩ kB kE kC (by decide) (by decide) (by decide) (by decide)).mono ?_
  rintro e w' ⟨t, ok, rfl, hA, hb⟩
  rw [if_pos ⟨rfl, rfl⟩] at hA
  have eh : hor 16 (digs ⟨#[49, 48]⟩) = 16 := by decide +kernel
  rcases hA with ⟨rfl, _, _, hL⟩ | ⟨_, hn, _⟩
  · rw [eh] at hL
    exact ⟨t, rfl, hL, hb⟩
  · refine absurd ⟨⟨by decide, .inr (.inr (.inr rfl)), ?_⟩, by decide⟩ hn
    intro k hk
    match k, hk with
    | 0, _ => show digitI 49 < 16; decide +kernel
    | 1, _ => show digitI 48 < 16; decide +kernel
    | n + 2, h => exact absurd h (by show ¬ (n + 2 < 2); omega)
theorem off_0x10 (w : World) : Calls Tryz.prog 72 #[.string ⟨#[48, 120, 49, 48]⟩] w fun e w' => ∃ S : ByteArray, e = .returned (.string S) ∧ S.size ≤ 4 ∧ Below w.heap.size w w' := by
  refine (leadingOff_any ⟨#[48, 120, 49, 48]⟩ (by decide) w).mono ?_
  rintro e w' ⟨k, hk, rfl, _, _, hb⟩
  refine ⟨_, rfl, ?_, hb⟩
  have h1 : (leadS ⟨#[48, 120, 49, 48]⟩).size ≤ 4 := leadS_size ⟨#[48, 120, 49, 48]⟩
  rw [ByteArray.size_extract]
  omega
set_option maxRecDepth 20000 in
set_option maxHeartbeats 2000000 in
theorem litInt_0x10 (w : World) (hG : Glob w) (hB2 : 4 < w.heap.size) :
    Calls Tryz.prog 32 #[.string ⟨#[48, 120, 49, 48]⟩] w fun e w' => ∃ t, e = .returned (.tuple #[t, .bool true]) ∧ CI w' t 16 7 ∧ Below w.heap.size w w' := by
  obtain ⟨W, hW⟩ : ∃ W, W = w.alloc (.cells #[.int .i64 0, .bool false, .string ⟨#[]⟩, .bool false, .slice none 0 0, .bool false, .slice none 0 0] 32) := ⟨_, rfl⟩
  have hbW : Below w.heap.size w W := by rw [hW]; exact (Below.refl _ _).alloc (Nat.le_refl _) _
  have hqW : Hid (W.heap[w.heap.size]? = some (.cells #[.int .i64 0, .bool false, .string ⟨#[]⟩, .bool false, .slice none 0 0, .bool false, .slice none 0 0] 32 (0, 0))) := by show _ = _; rw [hW]; exact newAt _ _
  have hsW : W.heap.size = w.heap.size + 1 := by rw [hW]; simp
  have kA : Hid _ := tok_0x10 W (hG.next hbW) (by omega)
  have hBW : Hid (Below w.heap.size w W) := hbW
  clear hG hB2 hbW
  go_enter Tryz.func32, Tryz.ntmps32
  go_upto_region 1 with fail
  rw [← hW]
  clear hW
  go_wp2_with fail
  refine Calls.mono kA.out ?_
  clear kA
  rintro e w1 ⟨rfl, hb1⟩
  have hB1 : Hid (Below W.heap.size W w1) := hb1
  clear hb1
  have kB : Hid _ := off_0x10 w1
  go_wp2_with fail
  refine Calls.mono kB.out ?_
  clear kB
  rintro e w2 ⟨S, rfl, hS, hb2⟩
  have hB2 : Hid (Below W.heap.size W w2) := bthen hB1.out hb2
  clear hb2 hB1
  have d1 : decide ((S.size : Int) > 8192) = false := decide_eq_false (by omega)
  have kC : Hid _ := parse_0x10 w2
  go_wp2_with fail
  refine Calls.mono kC.out ?_
  clear kC
  rintro e w3 ⟨t, rfl, ⟨p, q, hF, hlow⟩, hb3⟩
  have hFr := hF.frac
  obtain ⟨n1, a1, l1, c1, n2, a2, l2, c2, rfl, _, _⟩ := hF
  obtain ⟨X, hX⟩ : ∃ X, X = w3.alloc (.cells #[.bool n1, .slice a1 l1 c1, .bool n2, .slice a2 l2 c2] 30) := ⟨_, rfl⟩
  have hbX : Below w3.heap.size w3 X := by rw [hX]; exact (Below.refl _ _).alloc (Nat.le_refl _) _
  have hqX : X.heap[w3.heap.size]? = some (.cells #[.bool n1, .slice a1 l1 c1, .bool n2, .slice a2 l2 c2] 30 (0, 0)) := by rw [hX]; exact newAt _ _
  obtain ⟨⟨x0, x1, x2, x3⟩, _, _⟩ := cells4 hqX
  have hBX : Hid (Below W.heap.size W X) := bthen (bthen hB2.out hb3) hbX
  have kD : Hid _ := ofNumber_ok (k := 3) (hFr.next hbX) (by omega)
  clear hFr hb3 hbX hqX hB2
  go_upto_region 4 with fail
  rw [← hX]
  clear hX
  obtain ⟨bx, hbx⟩ : ∃ bx, bx = w3.heap.size := ⟨_, rfl⟩
  rw [← hbx] at x0 x1 x2 x3 ⊢
  clear hbx
  go_wp2_with fail
  refine Calls.mono kD.out ?_
  clear kD
  rintro e w4 ⟨t, rfl, ⟨i1, i2, i3, i4, o1, o2, o3, o4, rfl, hFr⟩, hb4⟩
  have hb5 := bthen hBX.out hb4
  have g4 := (hb5.block _ (by omega)).trans hqW.out
  have hB4 : Below w.heap.size w w4 := bthen hBW.out hb5
  obtain ⟨⟨r0, r1, r2, r3, r4, r5, r6⟩, rf, rl⟩ := cells7 g4
  have rf0 := rf 0
  have rf1 := rf 1
  have rf2 := rf 2
  have rf3 := rf 3
  have rf4 := rf 4
  have rf5 := rf 5
  have rf6 := rf 6
  obtain ⟨W8, hW8⟩ : ∃ W8, W8 = put7 w4 (w.heap.size) (.int .i64 3) (.bool false) (.string ⟨#[]⟩) (.bool i1) (.slice i2 i3 i4) (.bool o1) (.slice o2 o3 o4) := ⟨_, rfl⟩
  have hqW8 : Hid (W8.heap[w.heap.size]? = some (.cells #[.int .i64 3, .bool false, .string ⟨#[]⟩, .bool i1, .slice i2 i3 i4, .bool o1, .slice o2 o3 o4] 32 (0, 0))) := by show _ = _; rw [hW8]; exact put7_at g4
  have hBW8 : Hid (Below w.heap.size w W8) := by
    show Below _ _ _
    rw [hW8]
    exact put7_below hB4 (by omega)
  have hC8 : Hid (CI W8 (.agg #[.int .i64 3, .bool false, .string ⟨#[]⟩, .bool i1, .slice i2 i3 i4, .bool o1, .slice o2 o3 o4]) 16 7) := by
    refine ⟨p, q, ⟨_, _, _, _, _, _, _, _, rfl, ?_⟩, ?_⟩
    · rw [hW8]; exact frac_put7 ⟨_, _, _, _, _, _, _, _, _, _, _, g4⟩ hFr
    · rw [pN_pos hlow.1, pD_of hlow.1]; have := hlow.2.2; omega
  clear hqW g4 hB4 hb4 hb5 rf hFr hBX hBW x0 x1 x2 x3
  go_wp2
  unfold put7 at hW8
  rw [← hW8]
  obtain ⟨⟨j0, j1, j2, j3, j4, j5, j6⟩, _, _⟩ := cells7 hqW8.out
  exact bodyPost_ret (v := .tuple #[.agg #[.int .i64 3, .bool false, .string ⟨#[]⟩, .bool i1, .slice i2 i3 i4, .bool o1, .slice o2 o3 o4], .bool true]) (by simp [results, Tryz.results32, go_sem, j0, j1, j2, j3, j4, j5, j6]) rfl ⟨_, rfl, hC8.out, hBW8.out⟩
set_option maxRecDepth 20000 in
set_option maxHeartbeats 2000000 in
theorem Lit_0x10 (w : World) (hG : Glob w) (hB2 : 4 < w.heap.size) :
    Calls Tryz.prog 10 #[.agg #[.int .i64 8, .int .i64 0, .string ⟨#[48, 120, 49, 48]⟩, .slice none 0 0]] w fun e w' => ∃ t, e = .returned (.tuple #[t, .bool true]) ∧ CI w' t 16 7 ∧ Below w.heap.size w w' := by
  obtain ⟨W, hW, hq0, hq1, hbW, hsz⟩ := two_new (w := w) (A := .cells #[.int .i64 8, .int .i64 0, .string ⟨#[48, 120, 49, 48]⟩, .slice none 0 0] 25) (B := .cells #[.int .i64 0, .bool false, .string ⟨#[]⟩, .bool false, .slice none 0 0, .bool false, .slice none 0 0] 32)
  obtain ⟨⟨p0, p1, p2, p3⟩, _, _⟩ := cells4 hq0
  have kA : Hid _ := litInt_0x10 W (hG.next hbW) (by omega)
  have hall : Hid (Below w.heap.size w W ∧ W.heap.size = w.heap.size + 1 + 1 ∧ W.heap[w.heap.size + 1]? = some (.cells #[.int .i64 0, .bool false, .string ⟨#[]⟩, .bool false, .slice none 0 0, .bool false, .slice none 0 0] 32 (0, 0))) := ⟨hbW, hsz, hq1⟩
  clear hG hB2 hq0 hq1 hbW hsz
  go_enter Tryz.func10, Tryz.ntmps10
  go_upto_region 1 with fail
  rw [← hW]
  clear hW
  go_wp2_with fail
  refine Calls.mono kA.out ?_
  clear kA
  rintro e w1 ⟨t, rfl, ⟨n, d, ⟨i1, i2, i3, i4, o1, o2, o3, o4, rfl, hFr⟩, hz⟩, hb1⟩
  have g1 := (hb1.block _ (by have := hall.out.2.1; omega)).trans hall.out.2.2
  have hB1 : Below w.heap.size w w1 := bthen hall.out.1 hb1
  obtain ⟨⟨r0, r1, r2, r3, r4, r5, r6⟩, rf, rl⟩ := cells7 g1
  have rf0 := rf 0
  have rf1 := rf 1
  have rf2 := rf 2
  have rf3 := rf 3
  have rf4 := rf 4
  have rf5 := rf 5
  have rf6 := rf 6
  obtain ⟨W8, hW8⟩ : ∃ W8, W8 = put7 w1 (w.heap.size + 1) (.int .i64 3) (.bool false) (.string ⟨#[]⟩) (.bool i1) (.slice i2 i3 i4) (.bool o1) (.slice o2 o3 o4) := ⟨_, rfl⟩
  have hqW8 : Hid (W8.heap[w.heap.size + 1]? = some (.cells #[.int .i64 3, .bool false, .string ⟨#[]⟩, .bool i1, .slice i2 i3 i4, .bool o1, .slice o2 o3 o4] 32 (0, 0))) := by show _ = _; rw [hW8]; exact put7_at g1
  have hBW8 : Hid (Below w.heap.size w W8) := by
    show Below _ _ _
    rw [hW8]
    exact put7_below hB1 (by omega)
  have hC8 : Hid (CI W8 (.agg #[.int .i64 3, .bool false, .string ⟨#[]⟩, .bool i1, .slice i2 i3 i4, .bool o1, .slice o2 o3 o4]) 16 7) := by
    refine ⟨n, d, ⟨_, _, _, _, _, _, _, _, rfl, ?_⟩, hz⟩
    rw [hW8]; exact frac_put7 ⟨_, _, _, _, _, _, _, _, _, _, _, g1⟩ hFr
  clear g1 hB1 hb1 rf hFr hall p0 p1 p2 p3 hz
  go_wp2
  unfold put7 at hW8
  rw [← hW8]
  obtain ⟨⟨j0, j1, j2, j3, j4, j5, j6⟩, _, _⟩ := cells7 hqW8.out
  exact bodyPost_ret (v := .tuple #[.agg #[.int .i64 3, .bool false, .string ⟨#[]⟩, .bool i1, .slice i2 i3 i4, .bool o1, .slice o2 o3 o4], .bool true]) (by simp [results, Tryz.results10, go_sem, j0, j1, j2, j3, j4, j5, j6]) rfl ⟨_, rfl, hC8.out, hBW8.out⟩
end Go.Proofs.YtclokcoimdjaeaaGreatDoor
