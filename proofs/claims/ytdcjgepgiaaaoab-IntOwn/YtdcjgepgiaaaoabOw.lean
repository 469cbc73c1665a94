/- The walk of IntOwn. -/
import Derived.Test.YtdcjgepgiaaaoabOn
namespace Go.Proofs.Ytdcjgepgiaaaoab
open Go.RowKit
attribute [local go_sem ↓] Go.wp_at_zero Go.wp_at_succ
set_option maxRecDepth 20000 in
set_option maxHeartbeats 4000000 in
theorem own_law (hbeg : BegunSaid) (na nb : Bool) (x y : Option Addr) (ca cb : Nat) (xs ys : List Int) (w : World) (ha : Row w .u32 4294967296 x ca xs) (hb : Row w .u32 4294967296 y cb ys) :
    Calls Try.prog 3 #[.agg #[.bool na, .slice x xs.length ca], .agg #[.bool nb, .slice y ys.length cb]] w fun e w' => e = .returned (.bool true) ∧ Below w.heap.size w w' := by
  go_enter Try.func3, Try.ntmps3
  go_wp2_with fail
  obtain ⟨W, hW, hbW, hlt, ⟨c0, c1, c2, c3⟩, f0, f1⟩ := two_boxes w (.bool na) (.slice x xs.length ca) (.bool nb) (.slice y ys.length cb) 24
  rw [← hW]
  clear hW
  refine (hbeg _).mono ?_
  rintro e w1 ⟨rfl, hb1⟩
  have d0 := keep_cell hb1 c0
  have d1 := keep_cell hb1 c1
  have d2 := keep_cell hb1 c2
  have d3 := keep_cell hb1 c3
  have g0 := keep_frozen hb1 c0 (f0 0)
  have g1 := keep_frozen hb1 c1 (f0 1)
  have g2 := keep_frozen hb1 c2 (f1 0)
  have g3 := keep_frozen hb1 c3 (f1 1)
  have hx := (ha.next hbW).next hb1
  have hy := (hb.next hbW).next hb1
  have hw1 := bthen hbW hb1
  have hsz := hb1.size
  have l0 : w.heap.size < w1.heap.size := by omega
  have l1 : w.heap.size + 1 < w1.heap.size := by omega
  have m10 : w.heap.size < w1.heap.size + 1 := by omega
  have m11 : w.heap.size + 1 < w1.heap.size + 1 := by omega
  have m20 : w.heap.size < w1.heap.size + 1 + 1 := by omega
  have m21 : w.heap.size + 1 < w1.heap.size + 1 + 1 := by omega
  have m30 : w.heap.size < w1.heap.size + 1 + 1 + 1 := by omega
  have m31 : w.heap.size + 1 < w1.heap.size + 1 + 1 + 1 := by omega
  have m40 : w.heap.size < w1.heap.size + 1 + 1 + 1 + 1 := by omega
  have m41 : w.heap.size + 1 < w1.heap.size + 1 + 1 + 1 + 1 := by omega
  clear c0 c1 c2 c3 f0 f1 hbW hb1
  go_wp2
  go_cut [] from 17 (fun wc => wc.cell? ⟨w.heap.size, 0, none⟩ = some (.bool na) ∧ wc.cell? ⟨w.heap.size, 1, none⟩ = some (.slice x (xs.take 6).length ca) ∧ wc.cell? ⟨w.heap.size + 1, 0, none⟩ = some (.bool nb) ∧ wc.cell? ⟨w.heap.size + 1, 1, none⟩ = some (.slice y (ys.take 6).length cb) ∧ Row wc .u32 4294967296 x ca (xs.take 6) ∧ Row wc .u32 4294967296 y cb (ys.take 6) ∧ Below w.heap.size w wc ∧ w.heap.size + 1 < wc.heap.size)
  case first =>
   go_region_with (first
     | (go_at_call_of 5 (Value.slice x xs.length ca); refine (Cut6 na x ca xs _ (hx.next ?q)).mono ?_; (case q => ((repeat' (first | with_reducible refine Below.alloc ?_ ?_ _ | with_reducible refine Below.setCell ?_ ?_ _ | with_reducible refine Below.drew ?_ | with_reducible assumption | with_reducible exact Below.refl _ _)) <;> first | omega | (simp; done) | (simp; omega))); rintro e w2 ⟨rfl, o1, o2, rfl⟩)
     | (go_at_call_of 5 (Value.slice y ys.length cb); refine (Cut6 nb y cb ys _ (hy.next ?q)).mono ?_; (case q => ((repeat' (first | with_reducible refine Below.alloc ?_ ?_ _ | with_reducible refine Below.setCell ?_ ?_ _ | with_reducible refine Below.drew ?_ | with_reducible assumption | with_reducible exact Below.refl _ _)) <;> first | omega | (simp; done) | (simp; omega))); rintro e w2 ⟨rfl, o3, o4, rfl⟩))
   all_goals
    go_wp2_with fail
    go_meet
    case rel =>
     go_light
     refine own_cut ha hb ?_ ?_ ?_ ?_ ?_ ?_
     · ((repeat' (first | with_reducible refine Below.alloc ?_ ?_ _ | with_reducible refine Below.setCell ?_ ?_ _ | with_reducible refine Below.drew ?_ | with_reducible assumption | with_reducible exact Below.refl _ _)) <;> first | omega | (simp; done) | (simp; omega))
     · (clear ha hb hx hy hw1; simp [go_sem, *])
     · (clear ha hb hx hy hw1; simp [go_sem, *])
     · (clear ha hb hx hy hw1; simp [go_sem, *])
     · (clear ha hb hx hy hw1; simp [go_sem, *])
     · (simp; omega)
  case rest =>
   obtain ⟨e0, e1, e2, e3, rx, ry, hB, hl⟩ := hcut
   generalize wc = Wc at *
   clear d0 d1 d2 d3 g0 g1 g2 g3 hx hy hw1 hsz l0 l1 m10 m11 m20 m21 m30 m31 m40 m41 ha hb hlt
   have lx : (xs.take 6).length ≤ 6 := by rw [List.length_take]; omega
   have ly : (ys.take 6).length ≤ 6 := by rw [List.length_take]; omega
   generalize xs.take 6 = xt at *
   generalize ys.take 6 = yt at *
   go_wp2
   go_cut [6] from 23 (fun d w2 => ∃ bD a' cap', d = .pointer (some ⟨bD, 0, none⟩) ∧ Wc.heap.size ≤ bD ∧ w2.cell? ⟨bD, 0, none⟩ = some (.bool na) ∧ w2.cell? ⟨bD, 1, none⟩ = some (.slice a' xt.length cap') ∧ Row w2 .u32 4294967296 a' cap' xt ∧ Below Wc.heap.size Wc w2)
   case first =>
    have hD0 : Below Wc.heap.size Wc Wc.drew := (Below.refl _ _).drew
    have hD1 : Below Wc.heap.size Wc (Wc.alloc (.cells #[.bool false, .slice none 0 0] 24)).drew := ((Below.refl _ _).alloc (Nat.le_refl _) _).drew
    obtain ⟨a1, p1, w1', hr1, hown1, hbl1⟩ := app_copy Wc.drew x ca xt 22 (rx.next hD0) (by omega)
    obtain ⟨a2, p2, w2', hr2, hown2, hbl2⟩ := app_copy (Wc.alloc (.cells #[.bool false, .slice none 0 0] 24)).drew x ca xt 22 (rx.next hD1) (by omega)
    replace hr1 : Hid _ := hr1
    replace hr2 : Hid _ := hr2
    have hB1 : Below Wc.heap.size Wc w1' := bthen hD0 hbl1
    have hB2 : Below Wc.heap.size Wc w2' := bthen hD1 hbl2
    have hs1 := hB1.size
    have hs2 := hB2.size
    have hq2 : Wc.heap.size < w2'.heap.size := cell_lt (keep_cell hbl2 (p := ⟨Wc.heap.size, 0, none⟩) (v := .bool false) (by simp [go_sem]))
    have k0 := keep_cell hbl2 (p := ⟨Wc.heap.size, 0, none⟩) (v := .bool false) (by simp [go_sem])
    have k1 := keep_cell hbl2 (p := ⟨Wc.heap.size, 1, none⟩) (v := .slice none 0 0) (by simp [go_sem])
    have f0 := keep_frozen hbl2 (p := ⟨Wc.heap.size, 0, none⟩) (v := .bool false) (by simp [go_sem]) (by simp [go_sem])
    have f1 := keep_frozen hbl2 (p := ⟨Wc.heap.size, 1, none⟩) (v := .slice none 0 0) (by simp [go_sem]) (by simp [go_sem])
    go_region_held3 (fun w' => w'.cell? ⟨w.heap.size, 0, none⟩ = some (.bool na) ∧ w'.cell? ⟨w.heap.size, 1, none⟩ = some (.slice x xt.length ca) ∧ Below Wc.heap.size Wc w') ((refine (fun hX : Below Wc.heap.size Wc _ => ⟨keep_cell hX e0, keep_cell hX e1, hX⟩) ?_; ((repeat' (first | with_reducible refine Below.alloc ?_ ?_ _ | with_reducible refine Below.setCell ?_ ?_ _ | with_reducible refine Below.drew ?_ | with_reducible assumption | with_reducible exact Below.refl _ _)) <;> first | omega | (simp; done) | (simp; omega))))
      (first
        | (refine step_append_run (by rfl) (.const (.slice none 0 0)) (.tmp 20) 22 22 (by rfl) (.slice none 0 0) (.slice x xt.length ca) (by rfl) (by rfl) _ _ hr1.out ?_)
        | (refine step_append_run (by rfl) (.const (.slice none 0 0)) (.tmp 20) 22 22 (by rfl) (.slice none 0 0) (.slice x xt.length ca) (by rfl) (by rfl) _ _ hr2.out ?_))
    all_goals go_wp2_with fail
    all_goals go_meet
    · have hO := hown1.next ((Below.refl _ w1').alloc (Nat.le_refl _) (.cells #[.bool na, .slice a1 xt.length p1] 24))
      exact ⟨w1'.heap.size, a1, p1, rfl, hs1, by simp [go_sem], by simp [go_sem], hO.row, hB1.alloc hs1 _⟩
    · have hb' : (Wc.alloc (.cells #[.bool false, .slice none 0 0] 24)).drew.heap.size = Wc.heap.size + 1 := by simp
      rw [hb'] at hown2
      exact ⟨Wc.heap.size, a2, p2, rfl, Nat.le_refl _, by simp [go_sem, k0], by simp [go_sem, k1], ((hown2.set (by simp) _).set (by simp) _).row, (hB2.setCell (by simp) _).setCell (by simp) _⟩
   case rest =>
   obtain ⟨bX, aX, pX, rfl, hbX, q0, q1, rX, hB2⟩ := hcut
   have d0 := keep_cell hB2 e0
   have d1 := keep_cell hB2 e1
   have d2 := keep_cell hB2 e2
   have d3 := keep_cell hB2 e3
   have rx2 := rx.next hB2
   have ry2 := ry.next hB2
   have hBw2 := bthen hB hB2
   clear e0 e1 e2 e3 rx ry hB hB2
   generalize wc = W3 at *
   go_wp2
   go_cut [7] from 29 (fun d w2 => ∃ bD a' cap', d = .pointer (some ⟨bD, 0, none⟩) ∧ W3.heap.size ≤ bD ∧ w2.cell? ⟨bD, 0, none⟩ = some (.bool nb) ∧ w2.cell? ⟨bD, 1, none⟩ = some (.slice a' yt.length cap') ∧ Row w2 .u32 4294967296 a' cap' yt ∧ Below W3.heap.size W3 w2)
   case first =>
    have hD0 : Below W3.heap.size W3 W3.drew := (Below.refl _ _).drew
    have hD1 : Below W3.heap.size W3 (W3.alloc (.cells #[.bool false, .slice none 0 0] 24)).drew := ((Below.refl _ _).alloc (Nat.le_refl _) _).drew
    obtain ⟨a1, p1, w1', hr1, hown1, hbl1⟩ := app_copy W3.drew y cb yt 22 (ry2.next hD0) (by omega)
    obtain ⟨a2, p2, w2', hr2, hown2, hbl2⟩ := app_copy (W3.alloc (.cells #[.bool false, .slice none 0 0] 24)).drew y cb yt 22 (ry2.next hD1) (by omega)
    replace hr1 : Hid _ := hr1
    replace hr2 : Hid _ := hr2
    have hB1 : Below W3.heap.size W3 w1' := bthen hD0 hbl1
    have hB2 : Below W3.heap.size W3 w2' := bthen hD1 hbl2
    have hs1 := hB1.size
    have hs2 := hB2.size
    have hq2 : W3.heap.size < w2'.heap.size := cell_lt (keep_cell hbl2 (p := ⟨W3.heap.size, 0, none⟩) (v := .bool false) (by simp [go_sem]))
    have k0 := keep_cell hbl2 (p := ⟨W3.heap.size, 0, none⟩) (v := .bool false) (by simp [go_sem])
    have k1 := keep_cell hbl2 (p := ⟨W3.heap.size, 1, none⟩) (v := .slice none 0 0) (by simp [go_sem])
    have f0 := keep_frozen hbl2 (p := ⟨W3.heap.size, 0, none⟩) (v := .bool false) (by simp [go_sem]) (by simp [go_sem])
    have f1 := keep_frozen hbl2 (p := ⟨W3.heap.size, 1, none⟩) (v := .slice none 0 0) (by simp [go_sem]) (by simp [go_sem])
    go_region_held3 (fun w' => w'.cell? ⟨w.heap.size + 1, 0, none⟩ = some (.bool nb) ∧ w'.cell? ⟨w.heap.size + 1, 1, none⟩ = some (.slice y yt.length cb) ∧ Below W3.heap.size W3 w') ((refine (fun hX : Below W3.heap.size W3 _ => ⟨keep_cell hX d2, keep_cell hX d3, hX⟩) ?_; ((repeat' (first | with_reducible refine Below.alloc ?_ ?_ _ | with_reducible refine Below.setCell ?_ ?_ _ | with_reducible refine Below.drew ?_ | with_reducible assumption | with_reducible exact Below.refl _ _)) <;> first | omega | (simp; done) | (simp; omega))))
      (first
        | (refine step_append_run (by rfl) (.const (.slice none 0 0)) (.tmp 26) 22 22 (by rfl) (.slice none 0 0) (.slice y yt.length cb) (by rfl) (by rfl) _ _ hr1.out ?_)
        | (refine step_append_run (by rfl) (.const (.slice none 0 0)) (.tmp 26) 22 22 (by rfl) (.slice none 0 0) (.slice y yt.length cb) (by rfl) (by rfl) _ _ hr2.out ?_))
    all_goals go_wp2_with fail
    all_goals go_meet
    · have hO := hown1.next ((Below.refl _ w1').alloc (Nat.le_refl _) (.cells #[.bool nb, .slice a1 yt.length p1] 24))
      exact ⟨w1'.heap.size, a1, p1, rfl, hs1, by simp [go_sem], by simp [go_sem], hO.row, hB1.alloc hs1 _⟩
    · have hb' : (W3.alloc (.cells #[.bool false, .slice none 0 0] 24)).drew.heap.size = W3.heap.size + 1 := by simp
      rw [hb'] at hown2
      exact ⟨W3.heap.size, a2, p2, rfl, Nat.le_refl _, by simp [go_sem, k0], by simp [go_sem, k1], ((hown2.set (by simp) _).set (by simp) _).row, (hB2.setCell (by simp) _).setCell (by simp) _⟩
   case rest =>
    obtain ⟨bY, aY, pY, rfl, hbY, s0, s1, rY, hB3⟩ := hcut
    have e0 := keep_cell hB3 d0
    have e1 := keep_cell hB3 d1
    have e2 := keep_cell hB3 d2
    have e3 := keep_cell hB3 d3
    have r0 := keep_cell hB3 q0
    have r1 := keep_cell hB3 q1
    have rx3 := rx2.next hB3
    have ry3 := ry2.next hB3
    have rX3 := rX.next hB3
    have hBB := bthen hBw2 hB3
    clear d0 d1 d2 d3 q0 q1 rx2 ry2 rX hB3 hBw2
    generalize wc = W4 at *
    have nX : Num W4 (.agg #[.bool na, .slice aX xt.length pX]) (num 4294967296 na xt) 6 := ⟨na, aX, pX, xt, rfl, rX3, rfl, lx⟩
    have nY : Num W4 (.agg #[.bool nb, .slice aY yt.length pY]) (num 4294967296 nb yt) 6 := ⟨nb, aY, pY, yt, rfl, rY, rfl, ly⟩
    have nA : Num W4 (.agg #[.bool na, .slice x xt.length ca]) (num 4294967296 na xt) 6 := ⟨na, x, ca, xt, rfl, rx3, rfl, lx⟩
    have nB : Num W4 (.agg #[.bool nb, .slice y yt.length cb]) (num 4294967296 nb yt) 6 := ⟨nb, y, cb, yt, rfl, ry3, rfl, ly⟩
    generalize num 4294967296 na xt = za at *
    generalize num 4294967296 nb yt = zb at *
    go_wp2
    go_region_held3 (fun w' => w'.cell? ⟨bX, 0, none⟩ = some (.bool na) ∧ w'.cell? ⟨bX, 1, none⟩ = some (.slice aX xt.length pX) ∧ w'.cell? ⟨bY, 0, none⟩ = some (.bool nb) ∧ w'.cell? ⟨bY, 1, none⟩ = some (.slice aY yt.length pY) ∧ Below W4.heap.size W4 w') ((refine (fun hX : Below W4.heap.size W4 _ => ⟨keep_cell hX r0, keep_cell hX r1, keep_cell hX s0, keep_cell hX s1, hX⟩) ?_; ((repeat' (first | with_reducible refine Below.alloc ?_ ?_ _ | with_reducible refine Below.setCell ?_ ?_ _ | with_reducible refine Below.drew ?_ | with_reducible assumption | with_reducible exact Below.refl _ _)) <;> first | omega | (simp; done) | (simp; omega))))
      (first
        | (go_at_call 6; refine (Add_num (nX.next ?q1) (nY.next ?q1) (by decide) (by decide)).mono ?_; (case q1 => exact And.right (And.right (And.right (And.right (by assumption))))); rintro e v1 ⟨t, rfl, hO1, hb1⟩; obtain ⟨n1, a1, l1, c1, rfl⟩ := hO1.form; have hB1 : Below W4.heap.size W4 v1 := bthen (And.right (And.right (And.right (And.right (by assumption))))) hb1)
        | (go_at_call 7; refine (Sub_num (nX.next hB1) (nY.next hB1) (by decide) (by decide)).mono ?_; rintro e v2 ⟨t, rfl, hO2, hb2⟩; obtain ⟨n2, a2, l2, c2, rfl⟩ := hO2.form; have hB2 : Below W4.heap.size W4 v2 := bthen hB1 hb2)
        | (go_at_call 8; refine (Mul_num (nX.next hB2) (nY.next hB2) (by decide) (by decide)).mono ?_; rintro e v3 ⟨t, rfl, hO3, hb3⟩; obtain ⟨n3, a3, l3, c3, rfl⟩ := hO3.form; have hB3 : Below W4.heap.size W4 v3 := bthen hB2 hb3)
        | (go_at_call 9; refine (Neg_num (nX.next hB3) (by decide)).mono ?_; rintro e v4 ⟨t, rfl, hO4, hb4⟩; obtain ⟨n4, a4, l4, c4, rfl⟩ := hO4.form; have hB4 : Below W4.heap.size W4 v4 := bthen hB3 hb4; have hs4 := hB4.size))
    go_wp2
    obtain ⟨hL, hAp⟩ := lst_of (H := W4.heap.size) (b1 := v1.heap.size) (b2 := v2.heap.size) (b3 := v3.heap.size) (b4 := v4.heap.size) (n1 := n1) (n2 := n2) (n3 := n3) (n4 := n4) (by obtain ⟨zs, h, e⟩ := (((hO1.next hb2).next hb3).next hb4).own; exact ⟨zs, h.mono (by simp), e⟩) (by obtain ⟨zs, h, e⟩ := ((hO2.next hb3).next hb4).own; exact ⟨zs, h.mono hB1.size, e⟩) (by obtain ⟨zs, h, e⟩ := (hO3.next hb4).own; exact ⟨zs, h.mono hB2.size, e⟩) (by obtain ⟨zs, h, e⟩ := hO4.own; exact ⟨zs, h.mono hB3.size, e⟩)
      (fun g hg => by obtain ⟨zs, h, _⟩ := hO1.own; have := h.lt g hg; simpa using this) (fun g hg => by obtain ⟨zs, h, _⟩ := hO2.own; exact h.lt g hg) (fun g hg => by obtain ⟨zs, h, _⟩ := hO3.own; exact h.lt g hg) (fun g hg => by obtain ⟨zs, h, _⟩ := hO4.own; exact h.lt g hg) ⟨hB1.size, hb2.size, hb3.size, hb4.size, Nat.le_refl _⟩
    have hB5 : Below W4.heap.size W4 (v4.alloc (.cells #[.bool n1, .slice a1 l1 c1, .bool n2, .slice a2 l2 c2, .bool n3, .slice a3 l3 c3, .bool n4, .slice a4 l4 c4] 24)) := hB4.alloc hs4 _
    clear hO1 hO2 hO3 hO4 hb2 hb3 hb4 hB1 hB2 hB3 hB4
    generalize v4.alloc (.cells #[.bool n1, .slice a1 l1 c1, .bool n2, .slice a2 l2 c2, .bool n3, .slice a3 l3 c3, .bool n4, .slice a4 l4 c4] 24) = W5 at *
    generalize v4.heap.size = gl at *
    generalize pick4 a1 a2 a3 a4 = La at *
    generalize pick4 l1 l2 l3 l4 = Ll at *
    generalize pick4 c1 c2 c3 c4 = Lc at *
    go_loopw [9, 10] (fun i k wr => ∃ j : Nat, j ≤ 4 ∧ i = .int .i64 (j : Int) ∧ Lst wr W4.heap.size gl La Ll Lc ∧ Below W4.heap.size W4 wr) (fun i _ _ => 4 - (intOf i).toNat)
    case atStart => exact ⟨0, by omega, rfl, hL, hB5⟩
    case round =>
     obtain ⟨j, hj, rfl, hL, hbel⟩ := hrel
     by_cases hj4 : j < 4
     · go_wp2
       go_loopw [10] (fun k wr => ∃ t : Nat, t ≤ Ll j ∧ k = .int .i64 (t : Int) ∧ Lst wr W4.heap.size gl La Ll Lc ∧ Below W4.heap.size W4 wr) (fun k _ => Ll j - (intOf k).toNat)
       case atStart => exact ⟨0, by omega, rfl, hL, hbel⟩
       case round =>
        clear hL hbel
        obtain ⟨t, ht, rfl, hL, hbel⟩ := hrel
        have cj := hL.1 j hj4
        rw [show 2 * j + 1 = j * 2 + 1 from by omega] at cj
        by_cases htl : t < Ll j
        · obtain ⟨g, z, hg, hgl, hH, hcz, hfz, hz0, hz1, hle, hmx, hset⟩ := hL.write hAp hj4 htl
          have hx := bits_rng .xor z 5
          have hL2 := hset _ hx.1 hx.2
          rw [hg] at cj
          have hmx' := hmx
          unfold maxLen at hmx'
          go_wp2
          go_roundw
          case rel => exact ⟨t + 1, by omega, by go_num, hL2, hbel.setCell hH _⟩
          case measure => simp [intOf]; omega
        · obtain rfl : t = Ll j := by omega
          go_wp2
          go_roundw
          case rel => exact ⟨j + 1, by omega, by go_num, hL, hbel⟩
          case measure => simp [intOf]; omega
     · obtain rfl : j = 4 := by omega
       clear hL hAp
       go_wp2
       go_loopw [11] (fun i wr => ∃ t : Nat, t ≤ xt.length ∧ i = .int .i64 (t : Int) ∧ Below W4.heap.size W4 wr) (fun i _ => xt.length - (intOf i).toNat)
       case atStart => exact ⟨0, by omega, rfl, hbel⟩
       case round =>
        clear hbel
        obtain ⟨t, ht, rfl, hbel⟩ := hrel
        have b1 := keep_cell hbel e1
        have b2 := keep_cell hbel r1
        by_cases htl : t < xt.length
        · obtain ⟨x', rfl⟩ := rx3.some_of htl
          obtain ⟨z', rfl⟩ := rX3.some_of htl
          have hca := (rx3.next hbel).cell x' rfl t htl
          have hcb := (rX3.next hbel).cell z' rfl t htl
          obtain ⟨p, hp, hp0, hp1⟩ := rx3.words.get (by decide) t
          rw [hp] at hca hcb
          clear hp
          have hne : (p != p) = false := by simp
          go_wp2
          go_quiet (fail)
          go_wp2
          go_roundw
          case rel => exact ⟨t + 1, by omega, by go_num, below_drewN hbel _⟩
          case measure => simp [intOf]; omega
        · obtain rfl : t = xt.length := by omega
          have b0 := keep_cell hbel e0
          have b3 := keep_cell hbel r0
          have b4 := keep_cell hbel s0
          have b5 := keep_cell hbel s1
          have b6 := keep_cell hbel e2
          have b7 := keep_cell hbel e3
          have nX' := nX.next hbel
          have nY' := nY.next hbel
          have nA' := nA.next hbel
          have nB' := nB.next hbel
          have hfin := bthen hBB hbel
          clear e0 e1 e2 e3 r0 r1 s0 s1 nX nY nA nB hbel rx3 rX3 ry3 rY
          go_wp2
          go_region_held3 (fun w' => w'.cell? ⟨bX, 0, none⟩ = some (.bool na) ∧ w'.cell? ⟨bX, 1, none⟩ = some (.slice aX xt.length pX) ∧ w'.cell? ⟨bY, 0, none⟩ = some (.bool nb) ∧ w'.cell? ⟨bY, 1, none⟩ = some (.slice aY yt.length pY) ∧ w'.cell? ⟨w.heap.size, 0, none⟩ = some (.bool na) ∧ w'.cell? ⟨w.heap.size, 1, none⟩ = some (.slice x xt.length ca) ∧ w'.cell? ⟨w.heap.size + 1, 0, none⟩ = some (.bool nb) ∧ w'.cell? ⟨w.heap.size + 1, 1, none⟩ = some (.slice y yt.length cb) ∧ Below wr.heap.size wr w') ((refine (fun hX : Below wr.heap.size wr _ => ⟨keep_cell hX b3, keep_cell hX b2, keep_cell hX b4, keep_cell hX b5, keep_cell hX b0, keep_cell hX b1, keep_cell hX b6, keep_cell hX b7, hX⟩) ?_; ((repeat' (first | with_reducible refine Below.alloc ?_ ?_ _ | with_reducible refine Below.setCell ?_ ?_ _ | with_reducible refine Below.drew ?_ | with_reducible assumption | with_reducible exact Below.refl _ _)) <;> first | omega | (simp; done) | (simp; omega))))
            (first
              | (go_at_call 6; refine (Add_num (nX'.next ?q1) (nY'.next ?q1) (by decide) (by decide)).mono ?_; (case q1 => exact (And.right (And.right (And.right (And.right (And.right (And.right (And.right (And.right (by assumption)))))))))); rintro e u1 ⟨t, rfl, hO1, hb1⟩; obtain ⟨n5, a5, l5, c5, rfl⟩ := hO1.form; have oO : OutE u1 _ _ _ := ⟨_, hO1⟩; have hB1 : Below wr.heap.size wr u1 := bthen (And.right (And.right (And.right (And.right (And.right (And.right (And.right (And.right (by assumption))))))))) hb1)
              | (go_at_call_of 12 (Value.slice x xt.length ca); refine (From_num (nA'.next hB1) (by decide)).mono ?_; rintro e u2 ⟨t, rfl, hO2, hb2⟩; obtain ⟨n6, a6, l6, c6, rfl⟩ := hO2.rint.form; have hR2 := hO2.rint; have hB2 : Below wr.heap.size wr u2 := bthen hB1 hb2)
              | (go_at_call_of 12 (Value.slice y yt.length cb); refine (From_num (nB'.next hB2) (by decide)).mono ?_; rintro e u3 ⟨t, rfl, hO3, hb3⟩; obtain ⟨n7, a7, l7, c7, rfl⟩ := hO3.rint.form; have hR3 := hO3.rint; have hB3 : Below wr.heap.size wr u3 := bthen hB2 hb3)
              | (go_at_call 11; refine (rAdd_num (hR2.next hb3) hR3 (by decide) (by decide)).mono ?_; rintro e u4 ⟨t, rfl, hR4, hb4⟩; obtain ⟨n8, a8, l8, c8, rfl⟩ := hR4.form; have hB4 : Below wr.heap.size wr u4 := bthen hB3 hb4)
              | (go_at_call 10; refine (Is_num (((oO.next hb2).next hb3).next hb4) hR4 (by decide) (by decide)).mono ?_; rintro e u5 ⟨rfl, hb5⟩; rw [decide_eq_true rfl]; have hB5 : Below wr.heap.size wr u5 := bthen hB4 hb5))
          go_wp2
          go_ret
          exact ⟨rfl, bthen hfin hB5⟩
end Go.Proofs.Ytdcjgepgiaaaoab
