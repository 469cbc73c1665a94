/- scale and Parse at the literal 0x1.8p-1. -/
import Derived.Test.YthiiglhecajhbaaFe
import Derived.Test.YthiiglhecajhbaaFr
import Derived.Test.YthiiglhecajhbaaFw
namespace Go.Proofs.Ythiiglhecajhbaa
open Go.RowKit
attribute [local go_sem ↓] Go.wp_at_zero Go.wp_at_succ
theorem outE_tight {w : World} {v : Value} {z : Int} {n : Nat} (h : OutE w v z n) (k : Nat) (hz : -(4294967296 ^ k) < z ∧ z < 4294967296 ^ k) : OutE w v z k := by
  obtain ⟨b, neg, a, cap, ds, r1, r2, r3, r4, r5⟩ := h
  refine ⟨b, neg, a, cap, ds, r1, r2, r3, r4, nrm_len (B := 4294967296) (by decide) r2.row.words r3.1 ?_⟩
  cases neg <;> simp [num] at r4 <;> omega
set_option maxRecDepth 20000 in
set_option maxHeartbeats 4000000 in
theorem scale_lit {w : World} {u : Value} {m : Nat} (hu : Num w u 24 m) (hm : m ≤ 190) :
    Calls Try.prog 37 #[u, .int .i64 2, .int .i64 (-5)] w fun e w' => ∃ t, e = .returned t ∧ LowE w' t 24 32 (m + 4) ∧ Below w.heap.size w w' := by
  obtain ⟨n1, a1, l1, c1, rfl⟩ := hu.form
  obtain ⟨W, hW, hbW, ⟨e0, e1⟩, x0⟩ := boxes_whole w n1 a1 l1 c1
  have hU := hu.next hbW
  have hD0 : Below W.heap.size W W.drew := (Below.refl _ _).drew
  have kR := fun w => (raise_num 2 5 w (by decide) (by decide) (by decide))
  replace kR := (show Hid _ from kR)
  go_enter Try.func37, Try.ntmps37
  go_wp2
  rw [← hW]
  clear hW
  go_region_with (first
    | (go_at_call 60; refine Calls.mono (kR.out _) ?_; rintro e w2 ⟨t, rfl, hO9, hb2⟩; have hO := outE_tight hO9 2 (by decide); clear hO9; obtain ⟨n3, a3, l3, c3, rfl⟩ := hO.num.form; have hB2 : Below W.heap.size W w2 := bthen hD0 hb2; have p0 := keep_cell hB2 e0; have p1 := keep_cell hB2 e1)
    | (go_at_call 21; refine (lowest_pos (Num.frac ((hU.next hB2).more' (m := m + 2) (by omega)) (hO.num.more' (m := m + 2) (by omega)) rfl rfl) (by omega) (by decide)).mono ?_; rintro e w3 ⟨t, rfl, hL, hb3⟩; obtain ⟨n4, a4, l4, c4, n5, a5, l5, c5, rfl⟩ := hL.form; have hB3 : Below W.heap.size W w3 := bthen hB2 hb3; have y0 := x0.next hB3; obtain ⟨_, _, _, _, _, _, _, _, j0, j1, j2, j3, f⟩ := y0.cells; have f0 := f 0; have f1 := f 1; have f2 := f 2; have f3 := f 3; clear f))
  all_goals
    have hbx : Hid _ := put4_boxed (base := w.heap.size) y0.noint (by omega) n4 a4 l4 c4 n5 a5 l5 c5
    have hBf := bthen hbW hB3
    have hLf : Hid _ := hbx.out.lowE hL
    clear hO hL hU hb2 hb3 hB2 hB3
    go_wp2
    exact bodyPost_ret (v := .agg #[.bool n4, .slice a4 l4 c4, .bool n5, .slice a5 l5 c5]) (by simp [results, Try.results37, go_sem, j0, j1, j2, j3]) rfl ⟨_, rfl, hLf.out, hbx.out.keep hBf (Nat.le_refl _) hBf.size⟩
theorem floatForm_lit (w : World) : Calls Try.prog 34 #[.int .i64 16, .bool true] w fun e w' => e = .returned (.bool true) ∧ Below w.heap.size w w' := by
  go_enter Try.func34, Try.ntmps34
  go_wp2
  go_ret
  exact ⟨rfl, Below.refl _ _⟩
set_option maxRecDepth 20000 in
set_option maxHeartbeats 4000000 in
theorem parse_lit (w : World) : Calls Try.prog 13 #[.string ⟨#[48, 120, 49, 46, 56, 112, 45, 49]⟩] w fun e w' => ∃ t, e = .returned (.tuple #[t, .bool true]) ∧ LowE w' t 24 32 10 ∧ Below w.heap.size w w' := by
  have x0 := Box4.new w false none 0 0 false none 0 0 26 (by decide)
  have hbW : Below w.heap.size w (w.alloc (.cells #[.bool false, .slice none 0 0, .bool false, .slice none 0 0] 26)) := (Below.refl _ _).alloc (Nat.le_refl _) _
  obtain ⟨W, hW⟩ : ∃ W, W = w.alloc (.cells #[.bool false, .slice none 0 0, .bool false, .slice none 0 0] 26) := ⟨_, rfl⟩
  have hlt : w.heap.size < W.heap.size := by rw [hW]; simp
  rw [← hW] at x0 hbW
  have k1 := cutBase_lit W
  replace k1 := (show Hid _ from k1)
  have e1 : (⟨#[49]⟩ : ByteArray) ++ ⟨#[56]⟩ = ⟨#[49, 56]⟩ := by decide
  go_enter Try.func13, Try.ntmps13
  go_upto_region 1 with fail
  rw [← hW]
  clear hW
  go_wp2_with fail
  refine Calls.mono k1.out ?_
  rintro e w1 ⟨rfl, b1⟩
  go_wp2_with fail
  refine Calls.mono (cutExponent_lit w1) ?_
  rintro e w2 ⟨rfl, b2⟩
  go_wp2_with fail
  refine Calls.mono (cut_lit w2) ?_
  rintro e w3 ⟨rfl, b3⟩
  go_wp2_with fail
  refine Calls.mono (floatForm_lit w3) ?_
  rintro e w4 ⟨rfl, b4⟩
  go_wp2_with fail
  refine Calls.mono (parse_18 w4) ?_
  rintro e w5 ⟨v5, rfl, hO, b5⟩
  have b15 := bthen b1 (bthen b2 (bthen b3 (bthen b4 b5)))
  obtain ⟨n3, a3, l3, c3, rfl⟩ := hO.num.form
  obtain ⟨W5, hW5⟩ : ∃ W5, W5 = w5.alloc (.cells #[.bool n3, .slice a3 l3 c3] 24) := ⟨_, rfl⟩
  have b6 : Below w5.heap.size w5 W5 := by rw [hW5]; exact (Below.refl _ _).alloc (Nat.le_refl _) _
  have g0 : W5.cell? ⟨w5.heap.size, 0, none⟩ = some (.bool n3) := by rw [hW5]; simp [go_sem]
  have g1 : W5.cell? ⟨w5.heap.size, 1, none⟩ = some (.slice a3 l3 c3) := by rw [hW5]; simp [go_sem]
  have hO5 := hO.num.next b6
  go_upto_region 9 with fail
  rw [← hW5]
  clear hW5 hO
  go_wp2_with fail
  refine Calls.mono (parseExponent_lit W5) ?_
  rintro e w6 ⟨rfl, b7⟩
  have h0 := keep_cell b7 g0
  have h1 := keep_cell b7 g1
  go_wp2_with fail
  refine Calls.mono (scale_lit (hO5.next b7) (by decide)) ?_
  rintro e w7 ⟨t, rfl, hL, b8⟩
  have b18 := bthen b15 (bthen b6 (bthen b7 b8))
  obtain ⟨n4, a4, l4, c4, n5, a5, l5, c5, rfl⟩ := hL.form
  have y0 := x0.next b18
  obtain ⟨_, _, _, _, _, _, _, _, j0, j1, j2, j3, f⟩ := y0.cells
  have f0 := f 0
  have f1 := f 1
  have f2 := f 2
  have f3 := f 3
  clear f
  have hbx : Hid _ := put4_boxed (base := w.heap.size) y0.noint (by omega) n4 a4 l4 c4 n5 a5 l5 c5
  have hBf := bthen hbW b18
  have hLf : Hid _ := hbx.out.lowE hL
  clear hL hO5 b15 b18 b1 b2 b3 b4 b5 b6 b7 b8 k1
  go_wp2
  exact bodyPost_ret (v := .tuple #[.agg #[.bool n4, .slice a4 l4 c4, .bool n5, .slice a5 l5 c5], .bool true]) (by simp [results, Try.results13, go_sem, j0, j1, j2, j3]) rfl ⟨_, rfl, by obtain ⟨p, q, h1, h2⟩ := hLf.out; exact ⟨p, q, h1.more (by omega), h2⟩, hbx.out.keep hBf (Nat.le_refl _) hBf.size⟩
end Go.Proofs.Ythiiglhecajhbaa
