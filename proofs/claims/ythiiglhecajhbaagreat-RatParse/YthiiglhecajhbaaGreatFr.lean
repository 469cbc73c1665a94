/- raise: powers of the radix. -/
import Derived.Test.YthiiglhecajhbaaGreatFxm
namespace Go.Proofs.YthiiglhecajhbaaGreat
open Go.RowKit
attribute [local go_sem ↓] Go.wp_at_zero Go.wp_at_succ
/-- A number stored into its box. -/
theorem put2w {w : World} {g : Nat} {u0 u1 : Value} (m1 : Bool) (a1 : Option Addr) (l1 c1 : Nat) (p0 : w.cell? ⟨g, 0, none⟩ = some u0) (p1 : w.cell? ⟨g, 1, none⟩ = some u1) (hg : NoInt w g) :
    ∃ W, W = (w.setCell ⟨g, 0, none⟩ (.bool m1)).setCell ⟨g, 1, none⟩ (.slice a1 l1 c1) ∧ W.cell? ⟨g, 0, none⟩ = some (.bool m1) ∧ W.cell? ⟨g, 1, none⟩ = some (.slice a1 l1 c1) ∧ (∀ p : Addr, p.block ≠ g → W.cell? p = w.cell? p) ∧ (∀ p, W.frozen? p = w.frozen? p) ∧ (∀ b, NoInt w b → NoInt W b) ∧ (∀ v z n, OutE w v z n → OutE W v z n) ∧ (∀ B w0, Below B w0 w → B ≤ g → Below B w0 W) := by
  have hB := put2_boxed (base := 0) hg (Nat.zero_le _) m1 a1 l1 c1
  refine ⟨_, rfl, by simp [go_sem, p0], by simp [go_sem, p1], fun p hp => ?_, fun p => by simp, fun b hb => hB.noint hb, fun v z n h => hB.out h, fun B w0 h hle => (h.setCell (by simpa using hle) _).setCell (by simpa using hle) _⟩
  rw [World.cell?_setCell_other (h := fun e => hp (by rw [← e])), World.cell?_setCell_other (h := fun e => hp (by rw [← e]))]
theorem pow_one' (r : Int) : r ^ 1 = r := by rw [Int.pow_succ, Int.pow_zero, Int.one_mul]
theorem pow_sq (r : Int) (k : Nat) : r ^ 2 ^ (k + 1) = r ^ 2 ^ k * r ^ 2 ^ k := by rw [← Int.pow_add]; congr 1; rw [Nat.pow_succ]; omega
theorem pow_odd (S : Int) (p : Nat) (h : p % 2 = 1) : S * (S * S) ^ (p / 2) = S ^ p := by
  have e : p = 2 * (p / 2) + 1 := by omega
  have e2 : S * S = S ^ 2 := by rw [Int.pow_succ, Int.pow_succ, Int.pow_zero, Int.one_mul]
  rw [e2, ← Int.pow_mul]
  conv => rhs; rw [e, Int.pow_succ]
  rw [Int.mul_comm]
theorem pow_even (S : Int) (p : Nat) (h : p % 2 = 0) : (S * S) ^ (p / 2) = S ^ p := by
  have e : p = 2 * (p / 2) := by omega
  have e2 : S * S = S ^ 2 := by rw [Int.pow_succ, Int.pow_succ, Int.pow_zero, Int.one_mul]
  rw [e2, ← Int.pow_mul]
  conv => rhs; rw [e]
set_option maxRecDepth 20000 in
set_option maxHeartbeats 4000000 in
theorem raise_num (r : Int) (n : Nat) (w : World) (hr0 : 2 ≤ r) (hr1 : r ≤ 16) (hn : n ≤ 2000) :
    Calls Tryz.prog 101 #[.int .i64 r, .int .i64 n] w fun e w' => ∃ v, e = .returned v ∧ OutE w' v (r ^ n) 9000 ∧ Below w.heap.size w w' := by
  obtain ⟨W, hW, hbW, hlt, ⟨c0, c1⟩, f, hnI⟩ := box2 w false none 0 0
  have k1 := fun w => Of_any 1 w (by decide) (by decide)
  have k2 := fun w => Of_any r w (by omega) (by omega)
  replace k1 := (show Hid _ from k1)
  replace k2 := (show Hid _ from k2)
  go_enter Tryz.func101, Tryz.ntmps101
  go_wp2_with fail
  rw [← hW]
  clear hW
  refine Calls.mono (k1.out _) ?_
  rintro e w1 ⟨v1, rfl, hO1, hb1⟩
  obtain ⟨n1, a1, l1, d1, rfl⟩ := hO1.form
  go_wp2_with fail
  refine Calls.mono (k2.out _) ?_
  rintro e w2 ⟨v2, rfl, hO2, hb2⟩
  obtain ⟨n2, a2, l2, d2, rfl⟩ := hO2.form
  go_wp2_with fail
  have hO1' : OutE w2 (.agg #[.bool n1, .slice a1 l1 d1]) 1 2 := ⟨_, hO1.next hb2⟩
  have hO2' : OutE w2 (.agg #[.bool n2, .slice a2 l2 d2]) r 2 := ⟨_, hO2⟩
  have hb12 := bthen hb1 hb2
  obtain ⟨Wa, hWa, hbWa, hlta, ⟨p0, p1⟩, f5, hI5⟩ := box2 w2 n1 a1 l1 d1
  obtain ⟨Wb, hWb, hbWb, hltb, ⟨q0, q1⟩, f6, hI6⟩ := box2 Wa n2 a2 l2 d2
  have hsz : Wa.heap.size = w2.heap.size + 1 := by rw [hWa]; simp
  rw [← hWa, ← hWb]
  rw [← hsz]
  have p0' := keep_cell hbWb p0
  have p1' := keep_cell hbWb p1
  have f5' := fun o => (hbWb.frozen (p := ⟨w2.heap.size, o, none⟩) (by simpa using hlta)).trans (f5 o)
  have hI5' := hI5.next hbWb
  have oR := (hO1'.next hbWa).next hbWb
  have oS := (hO2'.next hbWa).next hbWb
  have hbB := bthen (bthen hb12 hbWa) hbWb
  obtain ⟨b5, hb5⟩ : ∃ b5, b5 = w2.heap.size := ⟨_, rfl⟩
  obtain ⟨b6, hb6e⟩ : ∃ b6, b6 = Wa.heap.size := ⟨_, rfl⟩
  have hWs := hb12.size
  rw [← hb6e] at q0 q1 f6 hI6 ⊢
  rw [← hb5] at p0' p1' f5' hI5' ⊢
  have hne : b5 < b6 := by omega
  have hW5 : W.heap.size ≤ b5 := by omega
  clear hWa hWb p0 p1 f5 hI5 hO1 hO2 hO1' hO2' k1 k2 hb1 hb2 hb12 hbWa hbWb hlta hltb hsz hb5 hb6e hWs
  go_loopw [1] (fun v wr => ∃ (k p : Nat) (x : Int) (mR : Bool) (aR : Option Addr) (lR dR : Nat) (mS : Bool) (aS : Option Addr) (lS dS : Nat), v = .int .i64 (p : Int) ∧ p * 2 ^ k ≤ n ∧ Hid (x * (r ^ 2 ^ k) ^ p = r ^ n) ∧ (wr.cell? ⟨b5, 0, none⟩ = some (.bool mR) ∧ wr.cell? ⟨b5, 1, none⟩ = some (.slice aR lR dR)) ∧ (wr.cell? ⟨b6, 0, none⟩ = some (.bool mS) ∧ wr.cell? ⟨b6, 1, none⟩ = some (.slice aS lS dS)) ∧ (∀ o, wr.frozen? ⟨b5, o, none⟩ = false) ∧ (∀ o, wr.frozen? ⟨b6, o, none⟩ = false) ∧ NoInt wr b5 ∧ NoInt wr b6 ∧ OutE wr (.agg #[.bool mR, .slice aR lR dR]) x (2 + 2 * 2 ^ k) ∧ OutE wr (.agg #[.bool mS, .slice aS lS dS]) (r ^ 2 ^ k) (2 * 2 ^ k) ∧ 2 ^ k ≤ 4000 ∧ Below W.heap.size W wr) (fun v _ => (intOf v).toNat)
  case atStart => exact ⟨0, n, 1, n1, a1, l1, d1, n2, a2, l2, d2, rfl, by simp, by show 1 * (r ^ 2 ^ 0) ^ n = r ^ n; rw [Nat.pow_zero, pow_one', Int.one_mul], ⟨p0', p1'⟩, ⟨q0, q1⟩, f5', f6, hI5', hI6, oR.more (by decide), by rw [Nat.pow_zero, pow_one']; exact oS, by decide, hbB⟩
  case round =>
    clear p0' p1' q0 q1 f5' f6 hI5' hI6 oR oS hbB
    obtain ⟨k, p, x, mR, aR, lR, dR, mS, aS, lS, dS, rfl, hpk, hx, ⟨p0, p1⟩, ⟨q0, q1⟩, f5, f6, hI5, hI6, oR, oS, hk4, hbel⟩ := hrel
    by_cases hp : 0 < p
    · have hk2 : 2 ^ k ≤ 2000 := by have := Nat.mul_le_mul_right (2 ^ k) hp; omega
      have hpn : p ≤ 2000 := by have := Nat.le_mul_of_pos_right p (Nat.two_pow_pos k); omega
      obtain ⟨q, hq⟩ : ∃ q, q = p / 2 := ⟨_, rfl⟩
      have e2 : (p : Int).tdiv 2 = (q : Int) := by rw [Int.tdiv_eq_ediv_of_nonneg (by omega)]; omega
      have e4 : (p : Int) / 2 = (q : Int) := by omega
      have hqp : q < p := by omega
      have hpk2 : p / 2 * 2 ^ (k + 1) ≤ n := by
        rw [Nat.pow_succ, Nat.mul_comm (2 ^ k) 2, ← Nat.mul_assoc]
        exact Nat.le_trans (Nat.mul_le_mul_right _ (by omega)) hpk
      rw [← hq] at hpk2
      have hps : 2 ^ (k + 1) = 2 * 2 ^ k := by rw [Nat.pow_succ]; omega
      generalize hK : 2 ^ k = K at *
      by_cases hodd : p % 2 = 1
      · have e1 : (p : Int).tmod 2 = 1 := by rw [Int.tmod_eq_emod_of_nonneg (by omega)]; omega
        have e3 : (p : Int) % 2 = 1 := by omega
        have hx2 : (x * r ^ 2 ^ k) * (r ^ 2 ^ (k + 1)) ^ (p / 2) = r ^ n := by rw [pow_sq, Int.mul_assoc, pow_odd _ _ hodd, hK]; exact hx.out
        rw [← hq] at hx2
        clear hq
        replace hx2 : Hid ((x * r ^ 2 ^ k) * (r ^ 2 ^ (k + 1)) ^ q = r ^ n) := hx2
        rw [← hK] at oS
        have kq := Mul_num oR.num oS.num (by omega) (by omega)
        replace kq := (show Hid _ from kq)
        go_wp2_with fail
        refine Calls.mono kq.out ?_
        rintro e w4 ⟨t4, rfl, hM4, hb4⟩
        clear kq
        obtain ⟨m4, x4, l4, d4, rfl⟩ := hM4.form
        obtain ⟨W5, hW5', g0, g1, go', gf, gn, gx, gb⟩ := put2w m4 x4 l4 d4 (keep_cell hb4 p0) (keep_cell hb4 p1) (hI5.next hb4)
        have v0 : w4.cell? ⟨b5, 0, none⟩ = some (.bool mR) := keep_cell hb4 p0
        have v1 : w4.cell? ⟨b5, 1, none⟩ = some (.slice aR lR dR) := keep_cell hb4 p1
        have v2 : w4.frozen? ⟨b5, 0, none⟩ = false := keep_frozen hb4 p0 (f5 0)
        have v3 : w4.frozen? ⟨b5, 1, none⟩ = false := keep_frozen hb4 p1 (f5 1)
        have f5n := fun o => (gf ⟨b5, o, none⟩).trans ((hb4.frozen (p := ⟨b5, o, none⟩) (by simpa using cell_lt p0)).trans (f5 o))
        have f6n := fun o => (gf ⟨b6, o, none⟩).trans ((hb4.frozen (p := ⟨b6, o, none⟩) (by simpa using cell_lt q0)).trans (f6 o))
        have oRn := gx _ _ _ ⟨_, hM4⟩
        have oSn := gx _ _ _ (oS.next hb4)
        have q0n := (go' ⟨b6, 0, none⟩ (by simp; omega)).trans (keep_cell hb4 q0)
        have q1n := (go' ⟨b6, 1, none⟩ (by simp; omega)).trans (keep_cell hb4 q1)
        have hI5n := gn _ (hI5.next hb4)
        have hI6n := gn _ (hI6.next hb4)
        have hbn := gb _ _ (bthen hbel hb4) hW5
        clear go' gf gn gx gb f5 f6 p0 p1 q0 q1 hI5 hI6 oR oS hbel hM4
        have f5 := f5n
        have f6 := f6n
        have p0 := g0
        have p1 := g1
        have q0 := q0n
        have q1 := q1n
        have hI5 := hI5n
        have hI6 := hI6n
        have oR := oRn
        have oS := oSn
        have hbel := hbn
        clear f5n f6n g0 g1 q0n q1n hI5n hI6n oRn oSn hbn
        replace f5 : Hid (∀ o, W5.frozen? ⟨b5, o, none⟩ = false) := f5
        replace f6 : Hid (∀ o, W5.frozen? ⟨b6, o, none⟩ = false) := f6
        subst hW5'
        have km := Mul_num oS.num oS.num (by omega) (by omega)
        replace km := (show Hid _ from km)
        go_wp2_with fail
        refine Calls.mono km.out ?_
        rintro e w6 ⟨t6, rfl, hM6, hb6⟩
        clear km
        obtain ⟨m6, x6, l6, d6, rfl⟩ := hM6.form
        have r0 := keep_cell hb6 p0
        have r1 := keep_cell hb6 p1
        have s0 := keep_cell hb6 q0
        have s1 := keep_cell hb6 q1
        have t5 := fun o => (hb6.frozen (p := ⟨b5, o, none⟩) (by simpa using cell_lt p0)).trans (f5.out o)
        have t6 := fun o => (hb6.frozen (p := ⟨b6, o, none⟩) (by simpa using cell_lt q0)).trans (f6.out o)
        have hbl6 := bthen hbel hb6
        obtain ⟨W7, hW7, z0, z1, zo, zf, zn, zx, zb⟩ := put2w m6 x6 l6 d6 s0 s1 (hI6.next hb6)
        have u0 : w6.frozen? ⟨b6, 0, none⟩ = false := t6 0
        have u1 : w6.frozen? ⟨b6, 1, none⟩ = false := t6 1
        have oR7 := zx _ _ _ (oR.next hb6)
        have oS7 := zx _ _ _ ⟨_, hM6⟩
        rw [← pow_sq] at oS7
        have hbl7 := zb _ _ hbl6 (by omega)
        have y0 := (zo ⟨b5, 0, none⟩ (by simp; omega)).trans r0
        have y1 := (zo ⟨b5, 1, none⟩ (by simp; omega)).trans r1
        have y5 := fun o => (zf ⟨b5, o, none⟩).trans (t5 o)
        have y6 := fun o => (zf ⟨b6, o, none⟩).trans (t6 o)
        have n5 := zn _ (hI5.next hb6)
        have n6 := zn _ (hI6.next hb6)
        replace y5 : Hid (∀ o, W7.frozen? ⟨b5, o, none⟩ = false) := y5
        replace y6 : Hid (∀ o, W7.frozen? ⟨b6, o, none⟩ = false) := y6
        clear zo zf zn zx zb t5 t6 f5 f6 r0 r1 hbl6 oR oS hI5 hI6 hM6
        go_wp2
        rw [← hW7]
        clear hW7
        go_roundw
        case rel => exact ⟨k + 1, q, x * r ^ 2 ^ k, m4, x4, l4, d4, m6, x6, l6, d6, by go_num, hpk2, hx2.out, ⟨y0, y1⟩, ⟨z0, z1⟩, y5.out, y6.out, n5, n6, oR7.more (by omega), oS7.more (by omega), by omega, hbl7⟩
        case measure => simp [intOf]; omega
      · have e1 : (p : Int).tmod 2 = 0 := by rw [Int.tmod_eq_emod_of_nonneg (by omega)]; omega
        have e3 : (p : Int) % 2 = 0 := by omega
        have hx2 : x * (r ^ 2 ^ (k + 1)) ^ (p / 2) = r ^ n := by rw [pow_sq, pow_even _ _ (by omega), hK]; exact hx.out
        rw [← hq] at hx2
        clear hq
        replace hx2 : Hid (x * (r ^ 2 ^ (k + 1)) ^ q = r ^ n) := hx2
        rw [← hK] at oS
        have km := Mul_num oS.num oS.num (by omega) (by omega)
        replace km := (show Hid _ from km)
        go_wp2_with fail
        refine Calls.mono km.out ?_
        rintro e w6 ⟨t6, rfl, hM6, hb6⟩
        clear km
        obtain ⟨m6, x6, l6, d6, rfl⟩ := hM6.form
        have r0 := keep_cell hb6 p0
        have r1 := keep_cell hb6 p1
        have s0 := keep_cell hb6 q0
        have s1 := keep_cell hb6 q1
        have t5 := fun o => (hb6.frozen (p := ⟨b5, o, none⟩) (by simpa using cell_lt p0)).trans (f5 o)
        have t6 := fun o => (hb6.frozen (p := ⟨b6, o, none⟩) (by simpa using cell_lt q0)).trans (f6 o)
        have hbl6 := bthen hbel hb6
        obtain ⟨W7, hW7, z0, z1, zo, zf, zn, zx, zb⟩ := put2w m6 x6 l6 d6 s0 s1 (hI6.next hb6)
        have u0 : w6.frozen? ⟨b6, 0, none⟩ = false := t6 0
        have u1 : w6.frozen? ⟨b6, 1, none⟩ = false := t6 1
        have oR7 := zx _ _ _ (oR.next hb6)
        have oS7 := zx _ _ _ ⟨_, hM6⟩
        rw [← pow_sq] at oS7
        have hbl7 := zb _ _ hbl6 (by omega)
        have y0 := (zo ⟨b5, 0, none⟩ (by simp; omega)).trans r0
        have y1 := (zo ⟨b5, 1, none⟩ (by simp; omega)).trans r1
        have y5 := fun o => (zf ⟨b5, o, none⟩).trans (t5 o)
        have y6 := fun o => (zf ⟨b6, o, none⟩).trans (t6 o)
        have n5 := zn _ (hI5.next hb6)
        have n6 := zn _ (hI6.next hb6)
        replace y5 : Hid (∀ o, W7.frozen? ⟨b5, o, none⟩ = false) := y5
        replace y6 : Hid (∀ o, W7.frozen? ⟨b6, o, none⟩ = false) := y6
        clear zo zf zn zx zb t5 t6 f5 f6 r0 r1 hbl6 oR oS hI5 hI6 hM6
        go_wp2
        rw [← hW7]
        clear hW7
        go_roundw
        case rel => exact ⟨k + 1, q, x, mR, aR, lR, dR, m6, x6, l6, d6, by go_num, hpk2, hx2.out, ⟨y0, y1⟩, ⟨z0, z1⟩, y5.out, y6.out, n5, n6, oR7.more (by omega), oS7.more (by omega), by omega, hbl7⟩
        case measure => simp [intOf]; omega
    · obtain rfl : p = 0 := by omega
      have hx' : x = r ^ n := by have := hx.out; rw [Int.pow_zero, Int.mul_one] at this; exact this
      subst hx'
      have g0 := keep_cell hbel c0
      have g1 := keep_cell hbel c1
      have h0 := keep_frozen hbel c0 (f 0)
      have h1 := keep_frozen hbel c1 (f 1)
      have hI4 := hnI.next hbel
      obtain ⟨W8, hW8, z0, z1, zo, zf, zn, zx, zb⟩ := put2w mR aR lR dR g0 g1 hI4
      have oR8 := zx _ _ _ oR
      have hb8 := zb _ _ (bthen hbW hbel) (Nat.le_refl _)
      have hne4 : w.heap.size ≠ b5 := by omega
      clear zo zf zn zx zb f5 f6 f
      go_wp2
      rw [← hW8]
      exact bodyPost_ret (v := .agg #[.bool mR, .slice aR lR dR]) (by simp [results, Tryz.results101, go_sem, z0, z1]) rfl ⟨_, rfl, oR8.more (by omega), hb8⟩
end Go.Proofs.YthiiglhecajhbaaGreat
