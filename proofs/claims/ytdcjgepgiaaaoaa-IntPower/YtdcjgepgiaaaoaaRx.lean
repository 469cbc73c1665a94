/- The second road's powers: Power. -/
import Derived.Test.YtdcjgepgiaaaoaaRw
namespace Go.Proofs.Ytdcjgepgiaaaoaa
open Go.RowKit
attribute [local go_sem ↓] Go.wp_at_zero Go.wp_at_succ
theorem rMul_out {w : World} {u v : Value} {y z : Int} {m n : Nat} (hu : Rint w u y m) (hv : Rint w v z n) (hm : m ≤ 1000) (hn : n ≤ 1000) :
    Calls Try.prog 18 #[u, v] w fun e w' => ∃ t, e = .returned t ∧ Rout w' w.heap.size t (y * z) (m + n + 1) ∧ Below w.heap.size w w' := by
  obtain ⟨na, x, ca, xs, rfl, ha, hna, rfl, hl⟩ := hu
  obtain ⟨nb, x', cb, ys, rfl, hb, hnb, rfl, hl'⟩ := hv
  refine (rMul_any na nb x x' ca cb xs ys w ha hb (by omega) (by omega)).mono ?_
  rintro e w' ⟨t, rfl, ⟨neg, a, cap, ds, r1, r2, r3, r4, r5⟩, h⟩
  exact ⟨t, rfl, ⟨neg, a, cap, ds, r1, r2, r3, r4, by omega⟩, h⟩
theorem pow_half (a : Int) (k : Nat) (h : k % 2 = 0) : (a * a) ^ (k / 2) = a ^ k := by
  have e : k = 2 * (k / 2) := by omega
  conv => rhs; rw [e, Int.pow_mul, Int.pow_succ, Int.pow_one]
theorem pow_half1 (a : Int) (k : Nat) (h : k % 2 = 1) : a * (a * a) ^ (k / 2) = a ^ k := by
  have e : k = 2 * (k / 2) + 1 := by omega
  conv => rhs; rw [e, Int.pow_succ, Int.pow_mul, Int.pow_succ, Int.pow_one, Int.mul_comm]
theorem frozen_set {w : World} {p q : Addr} {u : Value} : (w.setCell p u).frozen? q = w.frozen? q := by
  by_cases h : p.block = q.block
  · simp only [World.frozen?, World.setCell, Array.getElem?_modify, h, if_true]
    cases w.heap[q.block]? with
    | none => rfl
    | some o => cases o <;> rfl
  · exact World.frozen?_of_block (Below.heap_setCell _ _ _ _ (Ne.symm h))
set_option maxHeartbeats 4000000 in
set_option maxRecDepth 20000 in
theorem rPower_any (v0 : Value) (z : Int) (N : Nat) (w : World) (ha : Rint w v0 z 6) (hN : N ≤ 20) :
    Calls Try.prog 37 #[v0, .int .i64 N] w fun e w' => ∃ t, e = .returned t ∧ Rint w' t (z ^ N) 400 ∧ Below w.heap.size w w' := by
  obtain ⟨na, x, l, ca, rfl⟩ := ha.form
  obtain ⟨W, hW, hbW, hlt, c0, c1, c4, c5, f4, f5⟩ := boxes2t w (.bool na) (.slice x l ca) (.bool false) (.slice none 0 0) 30 30
  have fW0 : W.frozen? ⟨w.heap.size, 0, none⟩ = false := by rw [hW]; simp [go_sem, World.frozen?_alloc_past]
  have fW1 : W.frozen? ⟨w.heap.size, 1, none⟩ = false := by rw [hW]; simp [go_sem, World.frozen?_alloc_past]
  go_enter Try.func37, Try.ntmps37
  go_wp2_with fail
  rw [← hW]
  clear hW
  refine (rOf_one W).mono ?_
  rintro e w1 ⟨t, rfl, hO, hb1⟩
  obtain ⟨n1, a1, l1, d1, rfl⟩ := hO.rint.form
  obtain ⟨W1, hW1, hbW1, hlW1, x0, x1, gx0, gx1⟩ := box1r w1 (.bool n1) (.slice a1 l1 d1) 30
  have s1 := hb1.size
  have hbx := bthen hb1 hbW1
  have a0' := keep_cell hbx c0
  have a1' := keep_cell hbx c1
  have ga0 := keep_frozen hbx c0 fW0
  have ga1 := keep_frozen hbx c1 fW1
  have r0 := keep_cell hbx c4
  have r1 := keep_cell hbx c5
  have gr0 := keep_frozen hbx c4 f4
  have gr1 := keep_frozen hbx c5 f5
  have FA0 : Rfar W1 (fun b => b ≠ w.heap.size ∧ b ≠ w.heap.size + 1 ∧ b ≠ w1.heap.size) (.agg #[.bool na, .slice x l ca]) z 6 := (ha.far (fun b hb => by omega)).next (bthen hbW hbx)
  have FX0 : Rfar W1 (fun b => b ≠ w.heap.size ∧ b ≠ w.heap.size + 1 ∧ b ≠ w1.heap.size) (.agg #[.bool n1, .slice a1 l1 d1]) 1 7 := ((hO.far (fun b h1 h2 => by omega)).next hbW1).more (by omega)
  have hB0 := bthen hbW hbx
  clear hO ha c0 c1 c4 c5 f4 f5 fW0 fW1 hbx hb1 hbW
  go_wp2
  rw [← hW1]
  clear hW1
  go_loopw [1] (fun nv wr => ∃ (mj k : Nat) (mA : Bool) (aA : Option Addr) (lA dA : Nat) (mX : Bool) (aX : Option Addr) (lX dX : Nat) (za zx : Int), mj ≤ 300 ∧ k * (mj + 1) ≤ 140 ∧ nv = .int .i64 (k : Int) ∧ wr.cell? ⟨w.heap.size, 0, none⟩ = some (.bool mA) ∧ wr.cell? ⟨w.heap.size, 1, none⟩ = some (.slice aA lA dA) ∧ wr.cell? ⟨w1.heap.size, 0, none⟩ = some (.bool mX) ∧ wr.cell? ⟨w1.heap.size, 1, none⟩ = some (.slice aX lX dX) ∧ wr.cell? ⟨w.heap.size + 1, 0, none⟩ = some (.bool false) ∧ wr.cell? ⟨w.heap.size + 1, 1, none⟩ = some (.slice none 0 0) ∧ wr.frozen? ⟨w.heap.size, 0, none⟩ = false ∧ wr.frozen? ⟨w.heap.size, 1, none⟩ = false ∧ wr.frozen? ⟨w1.heap.size, 0, none⟩ = false ∧ wr.frozen? ⟨w1.heap.size, 1, none⟩ = false ∧ wr.frozen? ⟨w.heap.size + 1, 0, none⟩ = false ∧ wr.frozen? ⟨w.heap.size + 1, 1, none⟩ = false ∧ Rfar wr (fun b => b ≠ w.heap.size ∧ b ≠ w.heap.size + 1 ∧ b ≠ w1.heap.size) (.agg #[.bool mA, .slice aA lA dA]) za mj ∧ Rfar wr (fun b => b ≠ w.heap.size ∧ b ≠ w.heap.size + 1 ∧ b ≠ w1.heap.size) (.agg #[.bool mX, .slice aX lX dX]) zx (mj + 1) ∧ Hid (zx * za ^ k = z ^ N) ∧ Below w.heap.size w wr) (fun nv _ => (intOf nv).toNat)
  case atStart => exact ⟨6, N, na, x, l, ca, n1, a1, l1, d1, z, 1, by omega, by omega, rfl, a0', a1', x0, x1, r0, r1, ga0, ga1, gx0, gx1, gr0, gr1, FA0, FX0, by show _ = _; simp, hB0⟩
  case round =>
    clear a0' a1' x0 x1 r0 r1 ga0 ga1 gx0 gx1 gr0 gr1 FA0 FX0 hB0
    obtain ⟨mj, k, mA, aA, lA, dA, mX, aX, lX, dX, za, zx, hmj, hkj, rfl, a0', a1', x0, x1, r0, r1, ga0, ga1, gx0, gx1, gr0, gr1, FA, FX, HP, hbel⟩ := hrel
    by_cases hk : k = 0
    · subst hk
      have HP' := HP.out
      simp only [Int.pow_zero, Int.mul_one] at HP'
      rw [HP'] at FX
      have hFX := (FX.rint.mono (m := 400) (by omega))
      have hFX2 := FX
      clear HP' HP
      go_wp2
      refine bodyPost_ret (v := .agg #[.bool mX, .slice aX lX dX]) (by simp [results, Try.results37, go_sem, r0, r1]) rfl ⟨_, rfl, (((hFX2.set (by simp)).set (by simp)).rint).mono (by omega), (hbel.setCell (by simp) _).setCell (by simp) _⟩
    · have hkp : (k : Int) > 0 := by omega
      have h2' : (k : Int).tdiv 2 = (k : Int) / 2 := Int.tdiv_eq_ediv_of_nonneg (by omega)
      have hk140 : k ≤ 140 := Nat.le_trans (Nat.le_mul_of_pos_right k (show 0 < mj + 1 by omega)) hkj
      have hm1 : mj + 1 ≤ 140 := by
        have := Nat.mul_le_mul_right (mj + 1) (show 1 ≤ k by omega)
        omega
      have hkk : k / 2 * (mj + mj + 1 + 1) ≤ 140 := by
        have e1 : k / 2 * (mj + mj + 1 + 1) = (k / 2 * 2) * (mj + 1) := by rw [Nat.mul_assoc]; congr 1; omega
        have e2 : k / 2 * 2 ≤ k := by omega
        have := Nat.mul_le_mul_right (mj + 1) e2
        omega
      have HK : Value.int IntKind.i64 ((k : Int) / 2) = Value.int IntKind.i64 ((k / 2 : Nat) : Int) := by congr 1
      replace HK : Hid _ := HK
      by_cases hodd : k % 2 = 1
      · have ho : (k : Int) % 2 = 1 := by omega
        have ho' : (k : Int).tmod 2 = 1 := by rw [Int.tmod_eq_emod_of_nonneg (by omega)]; omega
        have HP2 : Hid (Hid (zx * za * (za * za) ^ (k / 2) = z ^ N)) := by show _ = _; rw [Int.mul_assoc, pow_half1 za k hodd]; exact HP.out
        replace HP := HP2
        clear HP2
        replace hodd : Hid _ := hodd
        have kX := rMul_out FX.rint FA.rint (by omega) (by omega)
        replace kX : Hid _ := kX
        go_wp2_with fail
        refine Calls.mono kX.out ?_
        rintro e w3 ⟨t, rfl, hT, hb3⟩
        clear kX
        obtain ⟨n3, a3, l3, d3, rfl⟩ := hT.rint.form
        have hsw : w1.heap.size < wr.heap.size := cell_lt x0
        have s3 := hb3.size
        have n1' : w1.heap.size ≠ w.heap.size := by omega
        have n2' : w1.heap.size ≠ w.heap.size + 1 := by omega
        have HX2 : Rfar _ _ _ _ _ := (((hT.far (P := fun b => b ≠ w.heap.size ∧ b ≠ w.heap.size + 1 ∧ b ≠ w1.heap.size) (fun b h1 h2 => by omega)).set (p := ⟨w1.heap.size, 0, none⟩) (u := .bool n3) (by simp)).set (p := ⟨w1.heap.size, 1, none⟩) (u := .slice a3 l3 d3) (by simp))
        have HA2 : Rfar _ _ _ _ _ := (((FA.next hb3).set (p := ⟨w1.heap.size, 0, none⟩) (u := .bool n3) (by simp)).set (p := ⟨w1.heap.size, 1, none⟩) (u := .slice a3 l3 d3) (by simp))
        have y0 : ((w3.setCell ⟨w1.heap.size, 0, none⟩ (.bool n3)).setCell ⟨w1.heap.size, 1, none⟩ (.slice a3 l3 d3)).cell? ⟨w1.heap.size, 0, none⟩ = some (.bool n3) := by simp [go_sem, keep_cell hb3 x0]
        have y1 : ((w3.setCell ⟨w1.heap.size, 0, none⟩ (.bool n3)).setCell ⟨w1.heap.size, 1, none⟩ (.slice a3 l3 d3)).cell? ⟨w1.heap.size, 1, none⟩ = some (.slice a3 l3 d3) := by simp [go_sem, keep_cell hb3 x1]
        have y2 : ((w3.setCell ⟨w1.heap.size, 0, none⟩ (.bool n3)).setCell ⟨w1.heap.size, 1, none⟩ (.slice a3 l3 d3)).cell? ⟨w.heap.size, 0, none⟩ = some (.bool mA) := by rw [cell_set_ne n1', cell_set_ne n1']; exact keep_cell hb3 a0'
        have y3 : ((w3.setCell ⟨w1.heap.size, 0, none⟩ (.bool n3)).setCell ⟨w1.heap.size, 1, none⟩ (.slice a3 l3 d3)).cell? ⟨w.heap.size, 1, none⟩ = some (.slice aA lA dA) := by rw [cell_set_ne n1', cell_set_ne n1']; exact keep_cell hb3 a1'
        have y4 : ((w3.setCell ⟨w1.heap.size, 0, none⟩ (.bool n3)).setCell ⟨w1.heap.size, 1, none⟩ (.slice a3 l3 d3)).cell? ⟨w.heap.size + 1, 0, none⟩ = some (.bool false) := by rw [cell_set_ne n2', cell_set_ne n2']; exact keep_cell hb3 r0
        have y5 : ((w3.setCell ⟨w1.heap.size, 0, none⟩ (.bool n3)).setCell ⟨w1.heap.size, 1, none⟩ (.slice a3 l3 d3)).cell? ⟨w.heap.size + 1, 1, none⟩ = some (.slice none 0 0) := by rw [cell_set_ne n2', cell_set_ne n2']; exact keep_cell hb3 r1
        have z0 : ((w3.setCell ⟨w1.heap.size, 0, none⟩ (.bool n3)).setCell ⟨w1.heap.size, 1, none⟩ (.slice a3 l3 d3)).frozen? ⟨w.heap.size, 0, none⟩ = false := by rw [frozen_set, frozen_set]; exact keep_frozen hb3 a0' ga0
        have z1 : ((w3.setCell ⟨w1.heap.size, 0, none⟩ (.bool n3)).setCell ⟨w1.heap.size, 1, none⟩ (.slice a3 l3 d3)).frozen? ⟨w.heap.size, 1, none⟩ = false := by rw [frozen_set, frozen_set]; exact keep_frozen hb3 a1' ga1
        have z2 : ((w3.setCell ⟨w1.heap.size, 0, none⟩ (.bool n3)).setCell ⟨w1.heap.size, 1, none⟩ (.slice a3 l3 d3)).frozen? ⟨w1.heap.size, 0, none⟩ = false := by rw [frozen_set, frozen_set]; exact keep_frozen hb3 x0 gx0
        have z3 : ((w3.setCell ⟨w1.heap.size, 0, none⟩ (.bool n3)).setCell ⟨w1.heap.size, 1, none⟩ (.slice a3 l3 d3)).frozen? ⟨w1.heap.size, 1, none⟩ = false := by rw [frozen_set, frozen_set]; exact keep_frozen hb3 x1 gx1
        have z4 : ((w3.setCell ⟨w1.heap.size, 0, none⟩ (.bool n3)).setCell ⟨w1.heap.size, 1, none⟩ (.slice a3 l3 d3)).frozen? ⟨w.heap.size + 1, 0, none⟩ = false := by rw [frozen_set, frozen_set]; exact keep_frozen hb3 r0 gr0
        have z5 : ((w3.setCell ⟨w1.heap.size, 0, none⟩ (.bool n3)).setCell ⟨w1.heap.size, 1, none⟩ (.slice a3 l3 d3)).frozen? ⟨w.heap.size + 1, 1, none⟩ = false := by rw [frozen_set, frozen_set]; exact keep_frozen hb3 r1 gr1
        have hB5 : Below w.heap.size w ((w3.setCell ⟨w1.heap.size, 0, none⟩ (.bool n3)).setCell ⟨w1.heap.size, 1, none⟩ (.slice a3 l3 d3)) := ((bthen hbel hb3).setCell (by simp; omega) _).setCell (by simp; omega) _
        have v0 := keep_cell hb3 x0
        have v1 := keep_cell hb3 x1
        have t0 := keep_frozen hb3 x0 gx0
        have t1 := keep_frozen hb3 x1 gx1
        clear x0 x1 a0' a1' r0 r1 ga0 ga1 gx0 gx1 gr0 gr1 FA FX hbel hb3 hT
        go_wp2_with fail
        clear v0 v1 t0 t1
        generalize (w3.setCell ⟨w1.heap.size, 0, none⟩ (.bool n3)).setCell ⟨w1.heap.size, 1, none⟩ (.slice a3 l3 d3) = w5 at *
        have kA := rMul_out HA2.rint HA2.rint (by omega) (by omega)
        replace kA : Hid _ := kA
        refine Calls.mono kA.out ?_
        rintro e w4 ⟨t, rfl, hT, hb4⟩
        clear kA
        obtain ⟨n4, a4, l4, d4, rfl⟩ := hT.rint.form
        have s4 := hb4.size
        have hsw5 : w1.heap.size < w5.heap.size := cell_lt y0
        have HA3 := (hT.far (P := fun b => b ≠ w.heap.size ∧ b ≠ w.heap.size + 1 ∧ b ≠ w1.heap.size) (fun b h1 h2 => by omega)).more (m := mj + mj + 1) (by omega)
        have HX3 := HX2.next hb4
        have u0 := keep_cell hb4 y0
        have u1 := keep_cell hb4 y1
        have u2 := keep_cell hb4 y2
        have u3 := keep_cell hb4 y3
        have u4 := keep_cell hb4 y4
        have u5 := keep_cell hb4 y5
        have gf0 := keep_frozen hb4 y2 z0
        have gf1 := keep_frozen hb4 y3 z1
        have gf2 := keep_frozen hb4 y0 z2
        have gf3 := keep_frozen hb4 y1 z3
        have gf4 := keep_frozen hb4 y4 z4
        have gf5 := keep_frozen hb4 y5 z5
        have hB4 := bthen hB5 hb4
        have m1' : w.heap.size ≠ w1.heap.size := by omega
        have m2' : w.heap.size ≠ w.heap.size + 1 := by omega
        clear HA2 HX2 hB5 hb4 hT y0 y1 y2 y3 y4 y5 z0 z1 z2 z3 z4 z5
        go_wp2
        go_roundw
        case rel => exact ⟨_, k / 2, n4, a4, l4, d4, n3, a3, l3, d3, _, zx * za, by omega, hkk, HK.out, by simp [go_sem, u2], by simp [go_sem, u3], by rw [cell_set_ne m1', cell_set_ne m1']; exact u0, by rw [cell_set_ne m1', cell_set_ne m1']; exact u1, by rw [cell_set_ne m2', cell_set_ne m2']; exact u4, by rw [cell_set_ne m2', cell_set_ne m2']; exact u5, by rw [frozen_set, frozen_set]; exact gf0, by rw [frozen_set, frozen_set]; exact gf1, by rw [frozen_set, frozen_set]; exact gf2, by rw [frozen_set, frozen_set]; exact gf3, by rw [frozen_set, frozen_set]; exact gf4, by rw [frozen_set, frozen_set]; exact gf5, (HA3.set (by simp)).set (by simp), ((HX3.more (by omega)).set (by simp)).set (by simp), HP, (hB4.setCell (by simp) _).setCell (by simp) _⟩
        case measure => simp [intOf]; omega
      · have ho : (k : Int) % 2 = 0 := by omega
        have ho' : (k : Int).tmod 2 = 0 := by rw [Int.tmod_eq_emod_of_nonneg (by omega)]; omega
        have HP2 : Hid (Hid (zx * (za * za) ^ (k / 2) = z ^ N)) := by show _ = _; rw [pow_half za k (by omega)]; exact HP.out
        replace HP := HP2
        clear HP2
        replace hodd : Hid _ := hodd
        · have kA := rMul_out FA.rint FA.rint (by omega) (by omega)
          replace kA : Hid _ := kA
          go_wp2_with fail
          refine Calls.mono kA.out ?_
          rintro e w4 ⟨t, rfl, hT, hb4⟩
          clear kA
          obtain ⟨n4, a4, l4, d4, rfl⟩ := hT.rint.form
          have s4 := hb4.size
          have hsw : w1.heap.size < wr.heap.size := cell_lt x0
          have HA2 := (hT.far (P := fun b => b ≠ w.heap.size ∧ b ≠ w.heap.size + 1 ∧ b ≠ w1.heap.size) (fun b h1 h2 => by omega)).more (m := mj + mj + 1) (by omega)
          have HX2 := FX.next hb4
          have y0 := keep_cell hb4 x0
          have y1 := keep_cell hb4 x1
          have y2 := keep_cell hb4 a0'
          have y3 := keep_cell hb4 a1'
          have y4 := keep_cell hb4 r0
          have y5 := keep_cell hb4 r1
          have gf0 := keep_frozen hb4 a0' ga0
          have gf1 := keep_frozen hb4 a1' ga1
          have gf2 := keep_frozen hb4 x0 gx0
          have gf3 := keep_frozen hb4 x1 gx1
          have gf4 := keep_frozen hb4 r0 gr0
          have gf5 := keep_frozen hb4 r1 gr1
          have hB4 := bthen hbel hb4
          have n1' : w.heap.size ≠ w1.heap.size := by omega
          have n2' : w.heap.size ≠ w.heap.size + 1 := by omega
          clear FA FX hbel hb4 hT x0 x1 a0' a1' r0 r1 ga0 ga1 gx0 gx1 gr0 gr1
          go_wp2
          go_roundw
          case rel => exact ⟨_, k / 2, n4, a4, l4, d4, mX, aX, lX, dX, _, zx, by omega, hkk, HK.out, by simp [go_sem, y2], by simp [go_sem, y3], by rw [cell_set_ne n1', cell_set_ne n1']; exact y0, by rw [cell_set_ne n1', cell_set_ne n1']; exact y1, by rw [cell_set_ne n2', cell_set_ne n2']; exact y4, by rw [cell_set_ne n2', cell_set_ne n2']; exact y5, by rw [frozen_set, frozen_set]; exact gf0, by rw [frozen_set, frozen_set]; exact gf1, by rw [frozen_set, frozen_set]; exact gf2, by rw [frozen_set, frozen_set]; exact gf3, by rw [frozen_set, frozen_set]; exact gf4, by rw [frozen_set, frozen_set]; exact gf5, (HA2.set (by simp)).set (by simp), ((HX2.more (by omega)).set (by simp)).set (by simp), HP, (hB4.setCell (by simp) _).setCell (by simp) _⟩
          case measure => simp [intOf]; omega
end Go.Proofs.Ytdcjgepgiaaaoaa
