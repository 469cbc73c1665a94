/- The walk of IntQuo. -/
import Derived.Test.YtdcjgepgiaaaoaaSums
import Derived.Test.YtdcjgepgiaaaoaaRv
namespace Go.Proofs.Ytdcjgepgiaaaoaa
open Go.RowKit
attribute [local go_sem ↓] Go.wp_at_zero Go.wp_at_succ
theorem OutE.via {w w' : World} {b : Nat} {v : Value} {z : Int} {n : Nat} (h : Out w b v z n) (k : Out w b v z n → Out w' b v z n) (hn : n ≤ 60) : OutE w' v z 60 := by
  obtain ⟨neg, a, cap, ds, r1, r2, r3, r4, r5⟩ := k h
  exact ⟨b, neg, a, cap, ds, r1, r2, r3, r4, by omega⟩
theorem OutE.more {w : World} {v : Value} {z : Int} {n m : Nat} (h : OutE w v z n) (hm : n ≤ m) : OutE w v z m := by
  obtain ⟨b, neg, a, cap, ds, r1, r2, r3, r4, r5⟩ := h
  exact ⟨b, neg, a, cap, ds, r1, r2, r3, r4, by omega⟩
set_option maxRecDepth 20000 in
set_option maxHeartbeats 4000000 in
theorem quo_law (hbeg : BegunSaid) (na nb : Bool) (x y : Option Addr) (ca cb : Nat) (xs ys : List Int) (w : World) (ha : Row w .u32 4294967296 x ca xs) (hb : Row w .u32 4294967296 y cb ys) :
    Calls Try.prog 4 #[.agg #[.bool na, .slice x xs.length ca], .agg #[.bool nb, .slice y ys.length cb]] w fun e w' => e = .returned (.bool true) ∧ Below w.heap.size w w' := by
  go_enter Try.func4, Try.ntmps4
  go_wp2_with fail
  obtain ⟨W, hW, hbW, hlt, ⟨c0, c1, c2, c3⟩, f0, f1⟩ := two_boxes w (.bool na) (.slice x xs.length ca) (.bool nb) (.slice y ys.length cb) 24
  rw [← hW]
  clear hW
  refine (hbeg _).mono ?_
  rintro e w1 ⟨rfl, hb1⟩
  have d0 := keep_cell hb1 c0
  have d1 := keep_cell hb1 c1
  have d2 := keep_cell hb1 c2
  have d3 := keep_cell hb1 c3
  have g0 := keep_frozen hb1 c0 (f0 0)
  have g1 := keep_frozen hb1 c1 (f0 1)
  have g2 := keep_frozen hb1 c2 (f1 0)
  have g3 := keep_frozen hb1 c3 (f1 1)
  have hx := (ha.next hbW).next hb1
  have hy := (hb.next hbW).next hb1
  have hw1 := bthen hbW hb1
  have hsz := hb1.size
  have l0 : w.heap.size < w1.heap.size := by omega
  have l1 : w.heap.size + 1 < w1.heap.size := by omega
  have m10 : w.heap.size < w1.heap.size + 1 := by omega
  have m11 : w.heap.size + 1 < w1.heap.size + 1 := by omega
  have m20 : w.heap.size < w1.heap.size + 1 + 1 := by omega
  have m21 : w.heap.size + 1 < w1.heap.size + 1 + 1 := by omega
  have m30 : w.heap.size < w1.heap.size + 1 + 1 + 1 := by omega
  have m31 : w.heap.size + 1 < w1.heap.size + 1 + 1 + 1 := by omega
  have m40 : w.heap.size < w1.heap.size + 1 + 1 + 1 + 1 := by omega
  have m41 : w.heap.size + 1 < w1.heap.size + 1 + 1 + 1 + 1 := by omega
  clear c0 c1 c2 c3 f0 f1 hbW hb1
  go_wp2
  go_cut [] from 19 (fun wc => wc.cell? ⟨w.heap.size, 0, none⟩ = some (.bool na) ∧ wc.cell? ⟨w.heap.size, 1, none⟩ = some (.slice x (xs.take 12).length ca) ∧ wc.cell? ⟨w.heap.size + 1, 0, none⟩ = some (.bool nb) ∧ wc.cell? ⟨w.heap.size + 1, 1, none⟩ = some (.slice y (ys.take 12).length cb) ∧ Row wc .u32 4294967296 x ca (xs.take 12) ∧ Row wc .u32 4294967296 y cb (ys.take 12) ∧ Below w.heap.size w wc ∧ w.heap.size + 1 < wc.heap.size)
  case first =>
   go_region_with (first
     | (go_at_call_of 10 (Value.slice x xs.length ca); refine (Cut12 na x ca xs _ (hx.next ?q)).mono ?_; (case q => ((repeat' (first | with_reducible refine Below.alloc ?_ ?_ _ | with_reducible refine Below.setCell ?_ ?_ _ | with_reducible refine Below.drew ?_ | with_reducible assumption | with_reducible exact Below.refl _ _)) <;> first | omega | (simp; done) | (simp; omega))); rintro e w2 ⟨rfl, o1, o2, rfl⟩)
     | (go_at_call_of 10 (Value.slice y ys.length cb); refine (Cut12 nb y cb ys _ (hy.next ?q)).mono ?_; (case q => ((repeat' (first | with_reducible refine Below.alloc ?_ ?_ _ | with_reducible refine Below.setCell ?_ ?_ _ | with_reducible refine Below.drew ?_ | with_reducible assumption | with_reducible exact Below.refl _ _)) <;> first | omega | (simp; done) | (simp; omega))); rintro e w2 ⟨rfl, o3, o4, rfl⟩))
   all_goals
    go_wp2_with fail
    go_meet
    case rel =>
     go_light
     refine sums_cut ha hb ?_ ?_ ?_ ?_ ?_ ?_
     · ((repeat' (first | with_reducible refine Below.alloc ?_ ?_ _ | with_reducible refine Below.setCell ?_ ?_ _ | with_reducible refine Below.drew ?_ | with_reducible assumption | with_reducible exact Below.refl _ _)) <;> first | omega | (simp; done) | (simp; omega))
     · (clear ha hb hx hy hw1; simp [go_sem, *])
     · (clear ha hb hx hy hw1; simp [go_sem, *])
     · (clear ha hb hx hy hw1; simp [go_sem, *])
     · (clear ha hb hx hy hw1; simp [go_sem, *])
     · (simp; omega)
  case rest =>
   obtain ⟨e0, e1, e2, e3, rx, ry, hB, hl⟩ := hcut
   generalize wc = Wc at *
   clear d0 d1 d2 d3 g0 g1 g2 g3 hx hy hw1 hsz l0 l1 m10 m11 m20 m21 m30 m31 m40 m41 ha hb hlt
   have lx : (xs.take 12).length ≤ 12 := by rw [List.length_take]; omega
   have ly : (ys.take 12).length ≤ 12 := by rw [List.length_take]; omega
   generalize xs.take 12 = xt at *
   generalize ys.take 12 = yt at *
   have nA : Num Wc (.agg #[.bool na, .slice x xt.length ca]) (num 4294967296 na xt) 12 := ⟨na, x, ca, xt, rfl, rx, rfl, lx⟩
   have nB : Num Wc (.agg #[.bool nb, .slice y yt.length cb]) (num 4294967296 nb yt) 12 := ⟨nb, y, cb, yt, rfl, ry, rfl, ly⟩
   generalize num 4294967296 na xt = za at *
   generalize num 4294967296 nb yt = zb at *
   go_wp2
   go_cut [6, 7] from 23 (fun p q w2 => ∃ gx gy X Y, p = .pointer (some ⟨gx, 0, none⟩) ∧ q = .pointer (some ⟨gy, 0, none⟩) ∧ (∃ m a l c, X = Value.agg #[.bool m, .slice a l c] ∧ w2.cell? ⟨gx, 0, none⟩ = some (.bool m) ∧ w2.cell? ⟨gx, 1, none⟩ = some (.slice a l c)) ∧ (∃ m a l c, Y = Value.agg #[.bool m, .slice a l c] ∧ w2.cell? ⟨gy, 0, none⟩ = some (.bool m) ∧ w2.cell? ⟨gy, 1, none⟩ = some (.slice a l c)) ∧ Rint w2 X za 24 ∧ Rint w2 Y zb 24 ∧ Below Wc.heap.size Wc w2)
   case first =>
    go_region_held3 (fun w' => w'.cell? ⟨w.heap.size, 0, none⟩ = some (.bool na) ∧ w'.cell? ⟨w.heap.size, 1, none⟩ = some (.slice x xt.length ca) ∧ w'.cell? ⟨w.heap.size + 1, 0, none⟩ = some (.bool nb) ∧ w'.cell? ⟨w.heap.size + 1, 1, none⟩ = some (.slice y yt.length cb) ∧ Below Wc.heap.size Wc w') ((refine (fun hX : Below Wc.heap.size Wc _ => ⟨keep_cell hX e0, keep_cell hX e1, keep_cell hX e2, keep_cell hX e3, hX⟩) ?_; ((repeat' (first | with_reducible refine Below.alloc ?_ ?_ _ | with_reducible refine Below.setCell ?_ ?_ _ | with_reducible refine Below.drew ?_ | with_reducible assumption | with_reducible exact Below.refl _ _)) <;> first | omega | (simp; done) | (simp; omega))))
      (first
        | (go_at_call_of 11 (Value.slice x xt.length ca); refine (From_num (nA.next ?q1) (by omega)).mono ?_; (case q1 => exact And.right (And.right (And.right (And.right (by assumption))))); rintro e w2 ⟨t, rfl, hO1, hb2⟩; obtain ⟨n1, a1, l1, p1, rfl⟩ := hO1.rint.form; replace hO1 := hO1.rlt; have hy1 := hb2.size; (try simp at hy1); (try (refine (fun q : Wc.heap.size < w2.heap.size => ?_) ?_; rotate_left; (focus omega))); (try (refine (fun q : Wc.heap.size + 1 < w2.heap.size => ?_) ?_; rotate_left; (focus omega))); obtain ⟨hc1, hf1⟩ := bcell hb2; have hB1 : Below Wc.heap.size Wc w2 := bthen (And.right (And.right (And.right (And.right (by assumption))))) hb2; have hs1 := hB1.size)
        | (go_at_call_of 11 (Value.slice y yt.length cb); refine (From_num (nB.next ?q1) (by omega)).mono ?_; (case q1 => exact And.right (And.right (And.right (And.right (by assumption))))); rintro e w3 ⟨t, rfl, hO2, hb3⟩; obtain ⟨n2, a2, l2, p2, rfl⟩ := hO2.rint.form; replace hO2 := hO2.rlt; have hy2 := hb3.size; (try simp at hy2); (try (refine (fun q : w2.heap.size < w3.heap.size => ?_) ?_; rotate_left; (focus omega))); (try (refine (fun q : w2.heap.size + 1 < w3.heap.size => ?_) ?_; rotate_left; (focus omega))); (try (refine (fun q : Wc.heap.size < w3.heap.size => ?_) ?_; rotate_left; (focus omega))); (try (refine (fun q : Wc.heap.size + 1 < w3.heap.size => ?_) ?_; rotate_left; (focus omega))); obtain ⟨hc2, hf2⟩ := bcell hb3; have hB2 : Below Wc.heap.size Wc w3 := bthen (And.right (And.right (And.right (And.right (by assumption))))) hb3; have hs2 := hB2.size))
    all_goals
     go_wp2_with fail
     go_meet
     case rel =>
      go_light
      have u1 : ∀ n : Nat, n < n + 1 + 1 := by omega
      have u2 : ∀ n : Nat, n < n + 1 := by omega
      have u3 : Wc.heap.size < w2.heap.size + 1 := by omega
      have u4 : Wc.heap.size < w2.heap.size + 1 + 1 := by omega
      have u5 : Wc.heap.size + 1 < w2.heap.size + 1 + 1 := by omega
      have u6 : w2.heap.size < w3.heap.size + 1 := by have := hb3.size; (try simp at this); omega
      have u7 : Wc.heap.size < w3.heap.size + 1 := by omega
      have u8 : Wc.heap.size < w3.heap.size + 1 + 1 := by omega
      refine ⟨_, _, _, _, rfl, rfl, ⟨n1, a1, l1, p1, rfl, ?x1, ?x2⟩, ⟨n2, a2, l2, p2, rfl, ?x3, ?x4⟩, ?x5, ?x6, ?x7⟩
      case x5 => (refine Rlt.out hO1 (fun hO => ?_); ((repeat' (first | with_reducible exact hO | with_reducible refine Rlt.next ?_ hb3 | with_reducible refine Rlt.set ?_ ?_ | with_reducible refine Rlt.alloc _ ?_ | with_reducible refine Rlt.drew ?_)) <;> first | omega | (simp; done) | (simp; omega)))
      case x6 => (refine Rlt.out hO2 (fun hO => ?_); ((repeat' (first | with_reducible exact hO | with_reducible refine Rlt.set ?_ ?_ | with_reducible refine Rlt.alloc _ ?_ | with_reducible refine Rlt.drew ?_)) <;> first | omega | (simp; done) | (simp; omega)))
      case x7 => ((repeat' (first | with_reducible refine Below.alloc ?_ ?_ _ | with_reducible refine Below.setCell ?_ ?_ _ | with_reducible refine Below.drew ?_ | with_reducible assumption | with_reducible exact Below.refl _ _)) <;> first | omega | (simp; done) | (simp; omega))
      case x1 => (clear hO1 hO2 nA nB hb2 hb3 hB1 hB2 hB; simp [go_sem, *])
      case x2 => (clear hO1 hO2 nA nB hb2 hb3 hB1 hB2 hB; simp [go_sem, *])
      case x3 => (clear hO1 hO2 nA nB hb2 hb3 hB1 hB2 hB; simp [go_sem, *])
      case x4 => (clear hO1 hO2 nA nB hb2 hb3 hB1 hB2 hB; simp [go_sem, *])
   case rest =>
    obtain ⟨gx, gy, X, Y, rfl, rfl, ⟨mx, ax, kx, cx, rfl, p0, p1⟩, ⟨my, ay, ky, cy, rfl, q0, q1⟩, hX, hY, hB2⟩ := hcut
    have c0 := keep_cell hB2 e0
    have c1 := keep_cell hB2 e1
    have c2 := keep_cell hB2 e2
    have c3 := keep_cell hB2 e3
    have hA := nA.next hB2
    have hBn := nB.next hB2
    have hBB := hB.trans (hB2.mono hB.size)
    have hdig := hY.digits
    clear e0 e1 e2 e3 nA nB rx ry hB hB2 lx ly
    have lgx := cell_lt p0
    have lgy := cell_lt q0
    have la0 := cell_lt c0
    have lb0 := cell_lt c2
    simp only at lgx lgy la0 lb0
    by_cases hz : zb = 0
    · have hky : ky = 0 := hdig.2 hz
      subst hky
      subst hz
      clear hdig
      go_wp2_with fail
      refine (Quo_none hA hBn (by decide) (by decide)).mono ?_
      rintro e w3 ⟨rfl, hb3⟩
      have s3 := hb3.size
      have q1' := keep_cell hb3 q1
      have l1 : gy < w3.heap.size := by omega
      have l2 : gy < w3.heap.size + 1 := by omega
      have hB3 := bthen hBB hb3
      clear q1 hX hY
      go_wp2
      go_ret
      exact ⟨rfl, (hB3.alloc hB3.size _).alloc (by have := hB3.size; simp; omega) _⟩
    · have hky : ((ky : Int) == 0) = false := by have : ky ≠ 0 := fun h => hz (hdig.1 h); simp; omega
      clear hdig
      go_wp2_with fail
      refine (Quo_num hA hBn (by decide) (by decide) hz).mono ?_
      rintro e w3 ⟨t, t', rfl, hO, hO', hb3⟩
      obtain ⟨n3, a3, l3, d3, rfl⟩ := hO.form
      obtain ⟨n4, a4, l4, d4, rfl⟩ := hO'.form
      have s3 := hb3.size
      obtain ⟨W3, hW3, hbW3, hlW3, ⟨x0, x1, x2, x3⟩, _, _⟩ := two_boxes w3 (.bool n3) (.slice a3 l3 d3) (.bool n4) (.slice a4 l4 d4) 24
      have hbx := bthen hb3 hbW3
      have p0' := keep_cell hb3 p0
      have p1' := keep_cell hb3 p1
      have q0' := keep_cell hb3 q0
      have q1' := keep_cell hb3 q1
      have l1 : gy < w3.heap.size := by omega
      have l2 : gy < w3.heap.size + 1 := by omega
      have l3' : gx < w3.heap.size := by omega
      have l4' : gx < w3.heap.size + 1 := by omega
      go_wp2_with fail
      rw [← hW3]
      clear hW3 p0' p1' q0' q1' l1 l2 l3' l4'
      have hX3 := hX.next hbx
      have hY3 := hY.next hbx
      have hO3 := hO.num.next hbW3
      have hO4 := hO'.num.next hbW3
      have oO3 : OutE W3 _ _ _ := ⟨_, hO.next hbW3⟩
      have oO4 : OutE W3 _ _ _ := ⟨_, hO'.next hbW3⟩
      have b2 := keep_cell hbx c2
      have b3 := keep_cell hbx c3
      have g0 := keep_cell hbx p0
      have g1 := keep_cell hbx p1
      have hB3 := hBn.next hbx
      have hBB3 := bthen hBB hbx
      clear c0 c1 c2 c3 p0 p1 q0 q1 hA hBn hX hY hO hO' hb3 hbW3 hbx hBB
      refine (rQuo_num hX3 hY3 (by decide) (by decide) hz).mono ?_
      rintro e w4 ⟨t, t', rfl, hU, hV, hb4⟩
      obtain ⟨n5, a5, l5, d5, rfl⟩ := hU.form
      obtain ⟨n6, a6, l6, d6, rfl⟩ := hV.form
      obtain ⟨W4, hW4, hbW4, hlW4, ⟨z0, z1, z2, z3⟩, _, _⟩ := two_boxes w4 (.bool n5) (.slice a5 l5 d5) (.bool n6) (.slice a6 l6 d6) 30
      go_wp2
      rw [← hW4]
      clear hW4
      have hbx := bthen hb4 hbW4
      have hU4 := hU.next hbW4
      have hV4 := hV.next hbW4
      have hX4 := hX3.next hbx
      have hQ4 := hO3.next hbx
      have hR4 := hO4.next hbx
      have oQ4 := oO3.next hbx
      have oR4 := oO4.next hbx
      have hB4 := hB3.next hbx
      have x0' := keep_cell hbx x0
      have x1' := keep_cell hbx x1
      have x2' := keep_cell hbx x2
      have x3' := keep_cell hbx x3
      have b2' := keep_cell hbx b2
      have b3' := keep_cell hbx b3
      have g0' := keep_cell hbx g0
      have g1' := keep_cell hbx g1
      have hBB4 := bthen hBB3 hbx
      clear hU hV hX3 hY3 hO3 hO4 oO3 oO4 hB3 x0 x1 x2 x3 b2 b3 g0 g1 hBB3 hb4 hbW4 hbx
      go_cut [13] from 62 (fun v w5 => ∃ gz n a l c, v = .pointer (some ⟨gz, 0, none⟩) ∧ w5.cell? ⟨gz, 0, none⟩ = some (.bool n) ∧ w5.cell? ⟨gz, 1, none⟩ = some (.slice a l c) ∧ OutE w5 (.agg #[.bool n, .slice a l c]) za 60 ∧ Below W4.heap.size W4 w5)
      case first =>
        go_region_held3 (fun w' => w'.cell? ⟨w3.heap.size, 0, none⟩ = some (.bool n3) ∧ w'.cell? ⟨w3.heap.size, 1, none⟩ = some (.slice a3 l3 d3) ∧ w'.cell? ⟨w.heap.size + 1, 0, none⟩ = some (.bool nb) ∧ w'.cell? ⟨w.heap.size + 1, 1, none⟩ = some (.slice y yt.length cb) ∧ w'.cell? ⟨w3.heap.size + 1, 0, none⟩ = some (.bool n4) ∧ w'.cell? ⟨w3.heap.size + 1, 1, none⟩ = some (.slice a4 l4 d4) ∧ Below W4.heap.size W4 w') ((refine (fun hX : Below W4.heap.size W4 _ => ⟨keep_cell hX x0', keep_cell hX x1', keep_cell hX b2', keep_cell hX b3', keep_cell hX x2', keep_cell hX x3', hX⟩) ?_; ((repeat' (first | with_reducible refine Below.alloc ?_ ?_ _ | with_reducible refine Below.setCell ?_ ?_ _ | with_reducible refine Below.drew ?_ | with_reducible assumption | with_reducible exact Below.refl _ _)) <;> first | omega | (simp; done) | (simp; omega))))
          (first
            | (go_at_call 17; refine (Mul_num (hQ4.next ?q1) (hB4.next ?q2) (by decide) (by decide)).mono ?_; (case q1 => exact And.right (And.right (And.right (And.right (And.right (And.right (by assumption))))))); (case q2 => exact And.right (And.right (And.right (And.right (And.right (And.right (by assumption))))))); rintro e w6 ⟨t, rfl, hM, hb6⟩; obtain ⟨n7, a7, l7, d7, rfl⟩ := hM.form; replace hM := hM.num; have hy6 := hb6.size; (try simp at hy6); (try (refine (fun q : W4.heap.size < w6.heap.size => ?_) ?_; rotate_left; (focus omega))); obtain ⟨hc6, hf6⟩ := bcell hb6; have hB6 : Below W4.heap.size W4 w6 := bthen (And.right (And.right (And.right (And.right (And.right (And.right (by assumption))))))) hb6; have hs6 := hB6.size)
            | (go_at_call 13; refine (Add_num (hM.next ?q1) (hR4.next ?q2) (by decide) (by decide)).mono ?_; (case q1 => ((repeat' (first | with_reducible refine Below.alloc ?_ ?_ _ | with_reducible refine Below.setCell ?_ ?_ _ | with_reducible refine Below.drew ?_ | with_reducible assumption | with_reducible exact Below.refl _ _)) <;> first | omega | (simp; done) | (simp; omega))); (case q2 => exact And.right (And.right (And.right (And.right (And.right (And.right (by assumption))))))); rintro e w7 ⟨t, rfl, hS, hb7⟩; obtain ⟨n8, a8, l8, d8, rfl⟩ := hS.form; have hy7 := hb7.size; (try simp at hy7); (try (refine (fun q : w6.heap.size < w7.heap.size => ?_) ?_; rotate_left; (focus omega))); (try (refine (fun q : W4.heap.size < w7.heap.size => ?_) ?_; rotate_left; (focus omega))); obtain ⟨hc7, hf7⟩ := bcell hb7; have hB7 : Below W4.heap.size W4 w7 := bthen (And.right (And.right (And.right (And.right (And.right (And.right (by assumption))))))) hb7; have hs7 := hB7.size))
        all_goals
          go_wp2_with fail
          go_meet
          case rel =>
            go_light
            have hid : za.tdiv zb * zb + za.tmod zb = za := by rw [Int.mul_comm]; exact Int.mul_tdiv_add_tmod za zb
            rw [hid] at hS
            clear hid
            have u1 : W4.heap.size < w6.heap.size + 1 := by omega
            have u2 : w6.heap.size < w7.heap.size + 1 := by have := hb7.size; (try simp at this); omega
            refine ⟨_, n8, a8, l8, d8, rfl, ?x1, ?x2, ?x3, ?x4⟩
            case x3 => (refine OutE.via hS (fun hO => ?_) (by decide); ((repeat' (first | with_reducible exact hO | with_reducible apply Out.alloc | with_reducible apply Out.drew | with_reducible apply Out.low)) <;> first | omega | (simp; done) | (simp; omega)))
            case x4 => ((repeat' (first | with_reducible refine Below.alloc ?_ ?_ _ | with_reducible refine Below.setCell ?_ ?_ _ | with_reducible refine Below.drew ?_ | with_reducible assumption | with_reducible exact Below.refl _ _)) <;> first | omega | (simp; done) | (simp; omega))
            case x1 => (clear hS hM hB6 hB7 hb6 hb7 hQ4 hR4 hB4 hU4 hV4 hX4 oQ4 oR4 hBB4; simp [go_sem, *])
            case x2 => (clear hS hM hB6 hB7 hb6 hb7 hQ4 hR4 hB4 hU4 hV4 hX4 oQ4 oR4 hBB4; simp [go_sem, *])
      case rest =>
        obtain ⟨gz, n8, a8, l8, d8, rfl, m0, m1, oS, hb5⟩ := hcut
        have x0 := keep_cell hb5 x0'
        have x1 := keep_cell hb5 x1'
        have x2 := keep_cell hb5 x2'
        have x3 := keep_cell hb5 x3'
        have z0' := keep_cell hb5 z0
        have z1' := keep_cell hb5 z1
        have z2' := keep_cell hb5 z2
        have z3' := keep_cell hb5 z3
        have g0 := keep_cell hb5 g0'
        have g1 := keep_cell hb5 g1'
        have k1 := Is_num (oQ4.next hb5) (hU4.next hb5) (by decide) (by decide)
        rw [decide_eq_true rfl] at k1
        replace k1 : Hid _ := k1
        have oR5 := oR4.next hb5
        have hV5 := hV4.next hb5
        have hX5 := hX4.next hb5
        have hBB5 := bthen hBB4 hb5
        clear x0' x1' x2' x3' z0 z1 z2 z3 g0' g1' oQ4 hU4 oR4 hV4 hX4 hBB4 hQ4 hR4 hB4 b2' b3' hb5
        generalize wc = W5 at *
        go_wp2_with fail
        refine Calls.mono k1.out ?_
        rintro e w6 ⟨rfl, hb6⟩
        have x2b := keep_cell hb6 x2
        have x3b := keep_cell hb6 x3
        have z2b := keep_cell hb6 z2'
        have z3b := keep_cell hb6 z3'
        have g0b := keep_cell hb6 g0
        have g1b := keep_cell hb6 g1
        have m0b := keep_cell hb6 m0
        have m1b := keep_cell hb6 m1
        have k2 := Is_num (oR5.next hb6) (hV5.next hb6) (by decide) (by decide)
        rw [decide_eq_true rfl] at k2
        replace k2 : Hid _ := k2
        have oS6 := oS.next hb6
        have hX6 := hX5.next hb6
        have hBB6 := bthen hBB5 hb6
        clear x0 x1 x2 x3 z0' z1' z2' z3' g0 g1 m0 m1 oR5 hV5 hX5 oS hBB5 hb6 k1
        go_wp2_with fail
        refine Calls.mono k2.out ?_
        rintro e w7 ⟨rfl, hb7⟩
        have g0 := keep_cell hb7 g0b
        have g1 := keep_cell hb7 g1b
        have m0 := keep_cell hb7 m0b
        have m1 := keep_cell hb7 m1b
        have k3 := Is_num (oS6.next hb7) (hX6.next hb7) (by decide) (by decide)
        rw [decide_eq_true rfl] at k3
        replace k3 : Hid _ := k3
        have hBB7 := bthen hBB6 hb7
        clear x2b x3b z2b z3b g0b g1b m0b m1b oS6 hX6 hBB6 hb7 k2
        go_wp2_with fail
        refine Calls.mono k3.out ?_
        rintro e w8 ⟨rfl, hb8⟩
        have hBB8 := bthen hBB7 hb8
        clear g0 g1 m0 m1 k3
        go_wp2
        go_ret
        exact ⟨rfl, hBB8⟩
end Go.Proofs.Ytdcjgepgiaaaoaa
