/- The walk of IntPower. -/
import Derived.Test.YtdcjgepgiaaaoaaQw
import Derived.Test.YtdcjgepgiaaaoaaRx
namespace Go.Proofs.Ytdcjgepgiaaaoaa
open Go.RowKit
attribute [local go_sem ↓] Go.wp_at_zero Go.wp_at_succ
theorem OutE.num {w : World} {v : Value} {z : Int} {n : Nat} (h : OutE w v z n) : Num w v z n := by
  obtain ⟨b, h⟩ := h
  exact h.num
theorem pow_tdiv {z : Int} (hz : z ≠ 0) (m : Nat) : (z ^ (m + 1)).tdiv z = z ^ m ∧ (z ^ (m + 1)).tmod z = 0 := by
  rw [Int.pow_succ]
  exact ⟨Int.mul_tdiv_cancel _ hz, Int.mul_tmod_left _ _⟩
theorem fld30 (m : Bool) (a : Option Addr) (l d : Nat) (w : World) : (Instr.field 30 (.agg #[.bool m, .slice a l d]) 1).run Try.prog w = .ok (.slice a l d) w := by kernel_rfl
theorem put2 (w : World) (b : Nat) {u0 u1 : Value} (v0 v1 : Value) (c0 : w.cell? ⟨b, 0, none⟩ = some u0) (c1 : w.cell? ⟨b, 1, none⟩ = some u1) (f0 : w.frozen? ⟨b, 0, none⟩ = false) (f1 : w.frozen? ⟨b, 1, none⟩ = false) : ∃ W, W = (w.setCell ⟨b, 0, none⟩ v0).setCell ⟨b, 1, none⟩ v1 ∧ W.cell? ⟨b, 0, none⟩ = some v0 ∧ W.cell? ⟨b, 1, none⟩ = some v1 ∧ W.frozen? ⟨b, 0, none⟩ = false ∧ W.frozen? ⟨b, 1, none⟩ = false ∧ W.heap.size = w.heap.size ∧ (∀ B w0, Below B w0 w → B ≤ b → Below B w0 W) ∧ (∀ base v z n, b < base → Out w base v z n → Out W base v z n) := by
  refine ⟨_, rfl, by simp [go_sem, c0], by simp [go_sem, c1], by rw [frozen_set, frozen_set]; exact f0, by rw [frozen_set, frozen_set]; exact f1, by simp [World.setCell], fun B w0 h hb => (h.setCell hb _).setCell hb _, fun base v z n hb h => (h.low hb _).low hb _⟩
set_option maxRecDepth 20000 in
set_option maxHeartbeats 8000000 in
theorem power_law (hbeg : BegunSaid) (na : Bool) (x : Option Addr) (ca : Nat) (xs : List Int) (n : Int) (w : World) (ha : Row w .u32 4294967296 x ca xs) (hn0 : -9223372036854775808 ≤ n) (hn1 : n ≤ 9223372036854775807) :
    Calls Try.prog 8 #[.agg #[.bool na, .slice x xs.length ca], .int .i64 n] w fun e w' => e = .returned (.bool true) ∧ Below w.heap.size w w' := by
  obtain ⟨W, hW, hbW, hlt, c0, c1, f0, f1⟩ := box1r w (.bool na) (.slice x xs.length ca) 24
  go_enter Try.func8, Try.ntmps8
  go_wp2_with fail
  rw [← hW]
  clear hW
  refine (hbeg _).mono ?_
  rintro e w1 ⟨rfl, hb1⟩
  have d0 := keep_cell hb1 c0
  have d1 := keep_cell hb1 c1
  have g0 := keep_frozen hb1 c0 f0
  have g1 := keep_frozen hb1 c1 f1
  have hx := (ha.next hbW).next hb1
  have hw1 := bthen hbW hb1
  have l0 : w.heap.size < w1.heap.size := cell_lt d0
  clear c0 c1 f0 f1 hbW hb1
  have kc := Cut_exact na x ca 3 xs w1 hx (by decide)
  replace kc : Hid _ := kc
  go_wp2_with fail
  refine Calls.mono kc.out ?_
  rintro e w2' ⟨rfl, o1, o2, rfl⟩
  clear kc
  have lx : (xs.take 3).length ≤ 3 := by rw [List.length_take]; omega
  have take3 : ∀ w', Below w.heap.size w w' → Row w' .u32 4294967296 x ca (xs.take 3) := fun w' h => (ha.next h).take' 3
  generalize xs.take 3 = xt at *
  have hal : Below w1.heap.size w1 ((w1.alloc o1).alloc o2) := ((Below.refl _ _).alloc (Nat.le_refl _) _).alloc (by simp) _
  have y0 := keep_cell hal d0
  have y1 := keep_cell hal d1
  have z0 := keep_frozen hal d0 g0
  have z1 := keep_frozen hal d1 g1
  have hw2 := bthen hw1 hal
  generalize (w1.alloc o1).alloc o2 = w2 at *
  obtain ⟨Wc, hWc, e0, e1, _, _, hsz, hbl, _⟩ := put2 w2 w.heap.size (.bool na) (.slice x xt.length ca) y0 y1 z0 z1
  have hB := hbl _ _ hw2 (Nat.le_refl _)
  have rx := take3 _ hB
  clear hbl d0 d1 g0 g1 hx hw1 hal hw2 take3
  by_cases hneg : n < 0
  · go_wp2
    rw [← hWc]
    go_ret
    exact ⟨rfl, hB⟩
  by_cases hbig : n > 20
  · go_wp2
    rw [← hWc]
    go_ret
    exact ⟨rfl, hB⟩
  obtain ⟨N, rfl⟩ : ∃ N : Nat, n = (N : Int) := ⟨n.toNat, by omega⟩
  have hN : N ≤ 20 := by omega
  have hneg' : ¬ (N : Int) < 0 := hneg
  go_wp2_with fail
  rw [← hWc]
  clear hWc y0 y1 z0 z1 hneg hbig hn0 hn1
  have nA : Num Wc (.agg #[.bool na, .slice x xt.length ca]) (num 4294967296 na xt) 3 := ⟨na, x, ca, xt, rfl, rx, rfl, lx⟩
  generalize num 4294967296 na xt = z at *
  refine (Of_any 1 _ (by decide) (by decide)).mono ?_
  rintro e w3 ⟨t, rfl, hO, hb3⟩
  obtain ⟨mO, aO, lO, dO, rfl⟩ := hO.form
  obtain ⟨W6, hW6, hbW6, hlW6, p0, p1, q0, q1⟩ := box1r w3 (.bool mO) (.slice aO lO dO) 24
  have e0' := keep_cell hb3 e0
  have e1' := keep_cell hb3 e1
  have nA' := nA.next hb3
  have hB3 := bthen hB hb3
  have oP : OutE W6 (.agg #[.bool mO, .slice aO lO dO]) 1 2 := ⟨_, hO.next hbW6⟩
  have l3 : w.heap.size < w3.heap.size := cell_lt e0'
  clear e0 e1 rx nA hO hb3 hB lx
  go_wp2
  rw [← hW6]
  clear hW6
  obtain ⟨b6, hb6⟩ : ∃ b6, w3.heap.size = b6 := ⟨_, rfl⟩
  rw [hb6] at p0 p1 q0 q1 l3 hbW6 ⊢
  have kb6 : b6 ≤ w3.heap.size := by omega
  have kb6' : w3.heap.size ≤ b6 := by omega
  clear hb6 hlW6
  have hA6 : ∀ w', Below b6 w3 w' → Num w' (.agg #[.bool na, .slice x xt.length ca]) z 3 ∧ w'.cell? ⟨w.heap.size, 0, none⟩ = some (.bool na) ∧ w'.cell? ⟨w.heap.size, 1, none⟩ = some (.slice x xt.length ca) ∧ Below w.heap.size w w' := by
    intro w' h
    have h' : Below w3.heap.size w3 w' := h.mono kb6'
    exact ⟨nA'.next h', keep_cell h' e0', keep_cell h' e1', bthen hB3 h'⟩
  replace hA6 : Hid _ := hA6
  clear nA' e0' e1' hB3
  go_loopw [7] (fun i wr => ∃ (k : Nat) (mP : Bool) (aP : Option Addr) (lP dP : Nat), k ≤ N ∧ i = .int .i64 (k : Int) ∧ wr.cell? ⟨b6, 0, none⟩ = some (.bool mP) ∧ wr.cell? ⟨b6, 1, none⟩ = some (.slice aP lP dP) ∧ wr.frozen? ⟨b6, 0, none⟩ = false ∧ wr.frozen? ⟨b6, 1, none⟩ = false ∧ OutE wr (.agg #[.bool mP, .slice aP lP dP]) (z ^ k) (2 + 3 * k) ∧ Below b6 w3 wr) (fun i _ => N - (intOf i).toNat)
  case atStart => exact ⟨0, mO, aO, lO, dO, by omega, rfl, p0, p1, q0, q1, by rw [Int.pow_zero]; exact oP, hbW6⟩
  case round =>
    clear p0 p1 q0 q1 oP hbW6
    obtain ⟨k, mP, aP, lP, dP, hk, rfl, p0, p1, q0, q1, oP, hbel⟩ := hrel
    obtain ⟨nA, e0, e1, hBw⟩ := hA6.out wr hbel
    have lb : b6 < wr.heap.size := cell_lt p0
    by_cases hlt : k < N
    · have km := Mul_num oP.num nA (by omega) (by decide)
      replace km : Hid _ := km
      go_wp2_with fail
      refine Calls.mono km.out ?_
      rintro e w4 ⟨t, rfl, hM, hb4⟩
      clear km
      obtain ⟨m4, a4, l4, d4, rfl⟩ := hM.form
      have p0' := keep_cell hb4 p0
      have p1' := keep_cell hb4 p1
      have q0' := keep_frozen hb4 p0 q0
      have q1' := keep_frozen hb4 p1 q1
      obtain ⟨W5, hW5, r0, r1, t0, t1, hs5, hbl5, hol5⟩ := put2 w4 b6 (.bool m4) (.slice a4 l4 d4) p0' p1' q0' q1'
      have hB5 := hbl5 _ _ (hbel.trans (hb4.mono (Nat.le_of_lt lb))) (Nat.le_refl _)
      have oM : OutE W5 (.agg #[.bool m4, .slice a4 l4 d4]) (z ^ (k + 1)) (2 + 3 * (k + 1)) := by
        have := hol5 _ _ _ _ lb hM
        rw [Int.pow_succ]
        exact ⟨_, this⟩
      clear hbl5 hol5 hM hb4 e0 e1 nA oP
      go_wp2
      rw [← hW5]
      go_roundw
      case rel => exact ⟨k + 1, m4, a4, l4, d4, by omega, by go_num, r0, r1, t0, t1, oM, hB5⟩
      case measure => simp [intOf]; omega
    · obtain rfl : k = N := by omega
      have hD0 : Below wr.heap.size wr wr.drew := (Below.refl _ _).drew
      have oP2 := oP
      go_wp2
      go_region_held3 (fun w' => w'.cell? ⟨b6, 0, none⟩ = some (.bool mP) ∧ w'.cell? ⟨b6, 1, none⟩ = some (.slice aP lP dP) ∧ w'.cell? ⟨w.heap.size, 0, none⟩ = some (.bool na) ∧ w'.cell? ⟨w.heap.size, 1, none⟩ = some (.slice x xt.length ca) ∧ Below wr.heap.size wr w') ((refine (fun hX : Below wr.heap.size wr _ => ⟨keep_cell hX p0, keep_cell hX p1, keep_cell hX e0, keep_cell hX e1, hX⟩) ?_; ((repeat' (first | with_reducible refine Below.alloc ?_ ?_ _ | with_reducible refine Below.setCell ?_ ?_ _ | with_reducible refine Below.drew ?_ | with_reducible assumption | with_reducible exact Below.refl _ _)) <;> first | omega | (simp; done) | (simp; omega))))
        (first
          | (go_at_call 11; refine (From_num (nA.next ?q1) (by decide)).mono ?_; (case q1 => exact And.right (And.right (And.right (And.right (by assumption))))); rintro e w4 ⟨t, rfl, hT, hb4⟩; obtain ⟨m4, a4, l4, d4, rfl⟩ := hT.rint.form; have hT4 := hT.rint; have hB4 : Below wr.heap.size wr w4 := bthen (And.right (And.right (And.right (And.right (by assumption))))) hb4)
          | (go_at_call 37; refine (rPower_any _ z k _ (hT4.mono (by decide)) hN).mono ?_; rintro e w5 ⟨t, rfl, hT5, hb5⟩; obtain ⟨m5, a5, l5, d5, rfl⟩ := hT5.form; have hB5 : Below wr.heap.size wr w5 := bthen hB4 hb5)
          | (go_at_call 12; refine (Is_num (oP2.next hB5) hT5 (by omega) (by decide)).mono ?_; rintro e w6 ⟨rfl, hb6'⟩; rw [decide_eq_true rfl]; have hB6 : Below wr.heap.size wr w6 := bthen hB5 hb6'))
      have v0 := keep_cell hB6 p0
      have v1 := keep_cell hB6 p1
      have v2 := keep_frozen hB6 p0 q0
      have v3 := keep_frozen hB6 p1 q1
      have oP6 := (oP.next hB6).more (m := 62 + 0) (by omega)
      have hbel6 := hbel.trans (hB6.mono (Nat.le_of_lt lb))
      clear e0 e1 p0 p1 q0 q1 nA oP oP2 hT hT4 hT5 hB4 hB5 hB6 hD0 hbel hBw lb
      go_wp2
      go_loopw [8, 9, 10, 11] (fun i u9 u10 u11 wr => ∃ (j : Nat) (mQ : Bool) (aQ : Option Addr) (lQ dQ : Nat), j ≤ k ∧ i = .int .i64 (j : Int) ∧ wr.cell? ⟨b6, 0, none⟩ = some (.bool mQ) ∧ wr.cell? ⟨b6, 1, none⟩ = some (.slice aQ lQ dQ) ∧ wr.frozen? ⟨b6, 0, none⟩ = false ∧ wr.frozen? ⟨b6, 1, none⟩ = false ∧ OutE wr (.agg #[.bool mQ, .slice aQ lQ dQ]) (z ^ (k - j)) (62 + j) ∧ Below b6 w3 wr) (fun i _ _ _ _ => k - (intOf i).toNat)
      case atStart => exact ⟨0, mP, aP, lP, dP, by omega, rfl, v0, v1, v2, v3, oP6, hbel6⟩
      case round =>
        clear v0 v1 v2 v3 oP6 hbel6
        obtain ⟨j, mQ, aQ, lQ, dQ, hj, rfl, p0, p1, q0, q1, oQ, hbel⟩ := hrel
        obtain ⟨nA, e0, e1, hBw⟩ := hA6.out wr hbel
        have lb : b6 < wr.heap.size := cell_lt p0
        by_cases hlt : j < k
        · by_cases hz : z = 0
          · subst hz
            have kq := Quo_none oQ.num nA (by omega) (by decide)
            replace kq : Hid _ := kq
            go_wp2_with fail
            refine Calls.mono kq.out ?_
            rintro e w7 ⟨rfl, hb7⟩
            clear kq
            obtain ⟨W7, hW7, hbW7, hlW7, ⟨s0, s1, s2, s3⟩, _, _⟩ := two_boxes w7 (.bool false) (.slice none 0 0) (.bool false) (.slice none 0 0) 24
            have hbx := bthen hb7 hbW7
            have e0' := keep_cell hb7 e0
            have e1' := keep_cell hb7 e1
            have l1 : w.heap.size < w7.heap.size := cell_lt e0'
            have l2 : w.heap.size < w7.heap.size + 1 := by omega
            have kf := From_num (nA.next hbx) (by decide)
            replace kf : Hid _ := kf
            have hBB := bthen hBw hbx
            go_wp2_with fail
            rw [← hW7]
            refine Calls.mono kf.out ?_
            rintro e w8 ⟨t, rfl, hT, hb8⟩
            obtain ⟨m8, a8, l8, d8, rfl⟩ := hT.rint.form
            have hl8 : l8 = 0 := hT.rint.digits.2 rfl
            subst hl8
            have hBB8 := bthen hBB hb8
            have hfl := fld30 m8 a8 0 d8 w8
            clear kf hW7 e0' e1' s0 s1 s2 s3
            go_wp2
            go_ret
            exact ⟨rfl, hBB8⟩
          · obtain ⟨m, hm⟩ : ∃ m, k - j = m + 1 := ⟨k - j - 1, by omega⟩
            rw [hm] at oQ
            have kq := Quo_num oQ.num nA (by omega) (by decide) hz
            rw [(pow_tdiv hz m).1, (pow_tdiv hz m).2] at kq
            replace kq : Hid _ := kq
            replace hm : Hid _ := hm
            go_wp2_with fail
            refine Calls.mono kq.out ?_
            rintro e w7 ⟨t, t', rfl, hO, hO', hb7⟩
            clear kq
            obtain ⟨m7, a7, l7, d7, rfl⟩ := hO.form
            obtain ⟨a9, d9, rfl⟩ := hO'.zero
            obtain ⟨W7, hW7, hbW7, hlW7, ⟨s0, s1, s2, s3⟩, _, _⟩ := two_boxes w7 (.bool m7) (.slice a7 l7 d7) (.bool false) (.slice a9 0 d9) 24
            have hbx := bthen hb7 hbW7
            have e0' := keep_cell hb7 e0
            have e1' := keep_cell hb7 e1
            have l1 : w.heap.size < w7.heap.size := cell_lt e0'
            have l2 : w.heap.size < w7.heap.size + 1 := by omega
            have kf := From_num (nA.next hbx) (by decide)
            replace kf : Hid _ := kf
            go_wp2_with fail
            rw [← hW7]
            refine Calls.mono kf.out ?_
            rintro e w8 ⟨t, rfl, hT, hb8⟩
            obtain ⟨m8, a8, l8, d8, rfl⟩ := hT.rint.form
            have hl8 : ((l8 : Int) == 0) = false := by have : l8 ≠ 0 := fun h => hz (hT.rint.digits.1 h); simp; omega
            have hfl := fld30 m8 a8 l8 d8 w8
            have s0' := keep_cell hb8 s0
            have s1' := keep_cell hb8 s1
            have s2' := keep_cell hb8 s2
            have s3' := keep_cell hb8 s3
            have hby := bthen hbx hb8
            have p0' := keep_cell hby p0
            have p1' := keep_cell hby p1
            have q0' := keep_frozen hby p0 q0
            have q1' := keep_frozen hby p1 q1
            obtain ⟨W5, hW5, r0, r1, t0, t1, hs5, hbl5, hol5⟩ := put2 w8 b6 (.bool m7) (.slice a7 l7 d7) p0' p1' q0' q1'
            have hB5 := hbl5 _ _ (hbel.trans (hby.mono (Nat.le_of_lt lb))) (Nat.le_refl _)
            have oM : OutE W5 (.agg #[.bool m7, .slice a7 l7 d7]) (z ^ (k - (j + 1))) (62 + (j + 1)) := by
              have h1 := hol5 _ _ _ _ lb ((hO.next hbW7).next hb8)
              have e : k - (j + 1) = m := by have := hm.out; omega
              rw [e]
              exact ⟨_, h1⟩
            clear hbl5 hol5 hO hO' hb7 hbW7 hbx hb8 hby nA oQ kf hW7 e0' e1' e0 e1 hT p0 p1 q0 q1 s0 s1 s2 s3
            go_wp2
            rw [← hW5]
            go_roundw
            case rel => exact ⟨j + 1, m7, a7, l7, d7, by omega, by go_num, r0, r1, t0, t1, oM, hB5⟩
            case measure => simp [intOf]; omega
        · have hjk : k - j = 0 := by omega
          rw [hjk, Int.pow_zero] at oQ
          replace hjk : Hid _ := hjk
          have hlt' : ¬ (j : Int) < (k : Int) := by omega
          go_wp2
          go_region_held3 (fun w' => w'.cell? ⟨b6, 0, none⟩ = some (.bool mQ) ∧ w'.cell? ⟨b6, 1, none⟩ = some (.slice aQ lQ dQ) ∧ Below wr.heap.size wr w') ((refine (fun hX : Below wr.heap.size wr _ => ⟨keep_cell hX p0, keep_cell hX p1, hX⟩) ?_; ((repeat' (first | with_reducible refine Below.alloc ?_ ?_ _ | with_reducible refine Below.setCell ?_ ?_ _ | with_reducible refine Below.drew ?_ | with_reducible assumption | with_reducible exact Below.refl _ _)) <;> first | omega | (simp; done) | (simp; omega))))
            (first
              | (go_at_call 36; refine (rOf_one _).mono ?_; rintro e w4 ⟨t, rfl, hT, hb4⟩; obtain ⟨m4, a4, l4, d4, rfl⟩ := hT.rint.form; have hT4 := hT.rint; have hB4 : Below wr.heap.size wr w4 := bthen (And.right (And.right (by assumption))) hb4)
              | (go_at_call 12; refine (Is_num (oQ.next hB4) hT4 (by omega) (by decide)).mono ?_; rintro e w6 ⟨rfl, hb6'⟩; rw [decide_eq_true rfl]; have hB6 : Below wr.heap.size wr w6 := bthen hB4 hb6'))
          go_wp2
          go_ret
          exact ⟨rfl, bthen hBw hB6⟩
end Go.Proofs.Ytdcjgepgiaaaoaa
