/- The second road's numbers: Neg, Add, Sub, Mul, Cmp. -/
import Derived.Test.YthiiglhecajhbaaGreatRem
namespace Go.Proofs.YthiiglhecajhbaaGreat
open Go.RowKit
attribute [local go_sem ↓] Go.wp_at_zero Go.wp_at_succ
theorem num_neg_pick (n : Bool) (zs : List Int) : num 65536 (!n && decide (0 < zs.length)) zs = - num 65536 n zs := by
  cases n with
  | true => simp [num]
  | false =>
    by_cases h : 0 < zs.length
    · simp [num, h]
    · have : zs = [] := List.eq_nil_of_length_eq_zero (by omega)
      subst this
      simp [num, val]
set_option maxHeartbeats 1000000 in
theorem rNeg_any (na : Bool) (x : Option Addr) (ca : Nat) (n : Nat) (w : World) :
    Calls Tryz.prog 50 #[.agg #[.bool na, .slice x n ca]] w fun e w' => e = .returned (.agg #[.bool (!na && decide (0 < n)), .slice x n ca]) ∧ Below w.heap.size w w' := by
  obtain ⟨W, hW, hbW, hlt, c0, c1, c4, c5, f4, f5⟩ := boxes2t w (.bool na) (.slice x n ca) (.bool false) (.slice none 0 0) 32 32
  cases na with
  | true =>
    go_enter Tryz.func50, Tryz.ntmps50
    go_wp2
    refine bodyPost_ret (v := .agg #[.bool false, .slice x n ca]) (by simp [results, Tryz.results50, go_sem]) rfl ⟨rfl, ?_⟩
    exact ((Below.refl _ _).alloc (Nat.le_refl _) _).alloc (by simp) _
  | false =>
    by_cases hn : 0 < n
    · have hn' : (n : Int) > 0 := by omega
      go_enter Tryz.func50, Tryz.ntmps50
      go_wp2
      refine bodyPost_ret (v := .agg #[.bool true, .slice x n ca]) (by simp [results, Tryz.results50, go_sem]) rfl ⟨by simp [hn], ?_⟩
      exact ((Below.refl _ _).alloc (Nat.le_refl _) _).alloc (by simp) _
    · have hn' : ¬ (n : Int) > 0 := by omega
      go_enter Tryz.func50, Tryz.ntmps50
      go_wp2
      refine bodyPost_ret (v := .agg #[.bool false, .slice x n ca]) (by simp [results, Tryz.results50, go_sem]) rfl ⟨by simp, ?_⟩
      exact ((Below.refl _ _).alloc (Nat.le_refl _) _).alloc (by simp) _
theorem num_add_norm {n : Bool} {xs ds : List Int} (h : Norm n xs) (hw : Words 65536 xs) {v : Int} (hv0 : 0 ≤ v) (hv : val 65536 ds = val 65536 xs + v) : n = true → ds ≠ [] := by
  intro hn e
  subst e
  have := nrm_val_pos (B := 65536) (by decide) hw h.1 (h.2 hn)
  simp only [val_nil] at hv
  omega
set_option maxHeartbeats 2000000 in
set_option maxRecDepth 100000 in
theorem rAdd_any (na nb : Bool) (x y : Option Addr) (ca cb : Nat) (xs ys : List Int) (w : World) (ha : Row w .i64 65536 x ca xs) (hna : Norm na xs) (hb : Row w .i64 65536 y cb ys) (hnb : Norm nb ys) (hl : xs.length ≤ 900000) (hlb : ys.length ≤ 900000) :
    Calls Tryz.prog 47 #[.agg #[.bool na, .slice x xs.length ca], .agg #[.bool nb, .slice y ys.length cb]] w fun e w' => ∃ v, e = .returned v ∧ Rout w' w.heap.size v (num 65536 na xs + num 65536 nb ys) (max xs.length ys.length + 1) ∧ Below w.heap.size w w' := by
  obtain ⟨W, hW, hbW, hlt, c0, c1, c2, c3, c4, c5, f4, f5⟩ := boxes3 w (.bool na) (.slice x xs.length ca) (.bool nb) (.slice y ys.length cb) (.bool false) (.slice none 0 0) 32
  have haW := ha.next hbW
  have hbW' := hb.next hbW
  have hvx := val_nonneg (B := 65536) (by decide) ha.words
  have hvy := val_nonneg (B := 65536) (by decide) hb.words
  replace hvx : Hid _ := hvx
  replace hvy : Hid _ := hvy
  by_cases hnn : na = nb
  · subst hnn
    go_enter Tryz.func47, Tryz.ntmps47
    go_wp2
    rw [← hW]
    clear hW
    have haD : Row W.drew .i64 65536 x ca xs := haW.next ((Below.refl _ _).drew)
    have hbD : Row W.drew .i64 65536 y cb ys := hbW'.next ((Below.refl _ _).drew)
    have hD0 : Below W.heap.size W W.drew := (Below.refl _ _).drew
    have d0 := c0
    have d1 := c1
    have d2 := c2
    have d3 := c3
    have hl2 : w.heap.size + 1 + 1 < W.drew.heap.size := hlt
    have hbs2 : w.heap.size ≤ W.drew.heap.size := hbW.size
    go_region_held3 (fun w' => w'.cell? ⟨w.heap.size, 0, none⟩ = some (.bool na) ∧ w'.cell? ⟨w.heap.size, 1, none⟩ = some (.slice x xs.length ca) ∧ w'.cell? ⟨w.heap.size + 1, 1, none⟩ = some (.slice y ys.length cb)) ((refine ⟨?_, ?_, ?_⟩ <;> first | with_reducible assumption | exact c0 | exact c1 | exact c2 | exact c3 | exact d0 | exact d1 | exact d2 | exact d3 | (refine keep_cell (wk := W) ?_ ?_ <;> with_reducible assumption) | (refine keep_set (keep_set (keep_cell (wk := W) (w' := w2) hB2 ?_) ?_) ?_ <;> first | with_reducible assumption | (simp; done) | (simp; omega))))
      (first
        | (go_at_call 84; refine (radd_any x y ca cb xs ys _ haD hbD (by omega) (by omega)).mono ?_; rintro e w2 ⟨a', cap', ds, rfl, hro, hnd, hvd, hld, hb2⟩; replace hvd : Hid _ := hvd; replace hnd : Hid _ := hnd; replace hld : Hid _ := hld; have hB2 : Below W.heap.size W w2 := bthen hD0 hb2; have k4 := keep_cell hB2 c4; have k5 := keep_cell hB2 c5; have g4 := keep_frozen hB2 c4 f4; have g5 := keep_frozen hB2 c5 f5))
    go_wp2
    refine bodyPost_ret (v := .agg #[.bool na, .slice a' ds.length cap']) (by simp [results, Tryz.results47, go_sem, k4, k5]) rfl ⟨_, rfl, ⟨na, a', cap', ds, rfl, ((hro.set (by exact hl2) _).set (by exact hl2) _).mono hbs2, ⟨hnd.out, num_add_norm hna ha.words hvy.out hvd.out⟩, by rw [num_add_same _ na _ _ _ hvd.out], hld.out⟩, ?_⟩
    exact ((bthen hbW hB2).setCell (by simp; omega) _).setCell (by simp; omega) _

  · have hne : (na == nb) = false := by simp [hnn]
    have hx := ha.words
    have hy := hb.words
    rcases (by omega : val 65536 xs < val 65536 ys ∨ val 65536 xs = val 65536 ys ∨ val 65536 ys < val 65536 xs) with hv | hv | hv
    · have hc := cmpI_lt hv
      have hll := len_le (by decide) hy hx hna.1 (Int.le_of_lt hv)
      replace hv : Hid _ := hv
      replace hnn : Hid _ := hnn
      go_enter Tryz.func47, Tryz.ntmps47
      go_wp2_with fail
      rw [← hW]
      clear hW
      refine (rcmp_any x y ca cb xs ys _ haW hbW' (by omega) (by omega) hna.1 hnb.1).mono ?_
      rintro e w1 ⟨rfl, hb1⟩
      rw [hc]
      clear hc
      go_wp2
      have haD : Row w1.drew .i64 65536 x ca xs := (haW.next hb1).next ((Below.refl _ _).drew)
      have hbD : Row w1.drew .i64 65536 y cb ys := (hbW'.next hb1).next ((Below.refl _ _).drew)
      have hD0 : Below W.heap.size W w1.drew := hb1.drew
      have d0 := keep_cell hb1 c0
      have d1 := keep_cell hb1 c1
      have d2 := keep_cell hb1 c2
      have d3 := keep_cell hb1 c3
      have hl2 : w.heap.size + 1 + 1 < w1.drew.heap.size := Nat.lt_of_lt_of_le hlt hb1.size
      have hbs2 : w.heap.size ≤ w1.drew.heap.size := Nat.le_trans hbW.size hb1.size
      go_region_held3 (fun w' => w'.cell? ⟨w.heap.size + 1, 0, none⟩ = some (.bool nb) ∧ w'.cell? ⟨w.heap.size + 1, 1, none⟩ = some (.slice y ys.length cb) ∧ w'.cell? ⟨w.heap.size, 1, none⟩ = some (.slice x xs.length ca)) ((refine ⟨?_, ?_, ?_⟩ <;> first | with_reducible assumption | exact c0 | exact c1 | exact c2 | exact c3 | exact d0 | exact d1 | exact d2 | exact d3 | (refine keep_cell (wk := W) ?_ ?_ <;> with_reducible assumption) | (refine keep_set (keep_set (keep_cell (wk := W) (w' := w2) hB2 ?_) ?_) ?_ <;> first | with_reducible assumption | (simp; done) | (simp; omega))))
      (first
        | (go_at_call 86; refine (rsub_any y x cb ca ys xs _ hbD haD (by omega) hll (Int.le_of_lt hv.out)).mono ?_; rintro e w2 ⟨a', cap', ds, rfl, hro, hnd, hvd, hld, hb2⟩; replace hvd : Hid _ := hvd; replace hnd : Hid _ := hnd; replace hld : Hid _ := hld; have hB2 : Below W.heap.size W w2 := bthen hD0 hb2; have k4 := keep_cell hB2 c4; have k5 := keep_cell hB2 c5; have g4 := keep_frozen hB2 c4 f4; have g5 := keep_frozen hB2 c5 f5))
      go_wp2
      refine bodyPost_ret (v := .agg #[.bool nb, .slice a' ds.length cap']) (by simp [results, Tryz.results47, go_sem, k4, k5]) rfl ⟨_, rfl, ⟨nb, a', cap', ds, rfl, ((hro.set (by exact hl2) _).set (by exact hl2) _).mono hbs2, ⟨hnd.out, fun _ e => by have := hvd.out; have := hv.out; subst e; simp only [val_nil] at *; omega⟩, by rw [num_add_snd _ na nb hnn.out _ _ _ hvd.out], by have := hld.out; omega⟩, ?_⟩
      exact ((bthen hbW hB2).setCell (by simp; omega) _).setCell (by simp; omega) _

    · have hc := cmpI_eq hv
      replace hv : Hid _ := hv
      replace hnn : Hid _ := hnn
      go_enter Tryz.func47, Tryz.ntmps47
      go_wp2_with fail
      rw [← hW]
      clear hW
      refine (rcmp_any x y ca cb xs ys _ haW hbW' (by omega) (by omega) hna.1 hnb.1).mono ?_
      rintro e w1 ⟨rfl, hb1⟩
      rw [hc]
      clear hc
      have k4 := keep_cell hb1 c4
      have k5 := keep_cell hb1 c5
      have g4 := keep_frozen hb1 c4 f4
      have g5 := keep_frozen hb1 c5 f5
      go_wp2
      refine bodyPost_ret (v := .agg #[.bool false, .slice none 0 0]) (by simp [results, Tryz.results47, go_sem, k4, k5]) rfl ⟨_, rfl, ⟨false, none, 0, [], rfl, Rown.empty _ _, ⟨trivial, fun h => by cases h⟩, ?_, by simp⟩, ?_⟩
      · have := hv.out
        have := hnn.out
        cases na <;> cases nb <;> simp [num, val] at * <;> omega
      · exact ((bthen hbW hb1).setCell (by simp; omega) _).setCell (by simp; omega) _
    · have hc := cmpI_gt hv
      have hll := len_le (by decide) hx hy hnb.1 (Int.le_of_lt hv)
      replace hv : Hid _ := hv
      replace hnn : Hid _ := hnn
      go_enter Tryz.func47, Tryz.ntmps47
      go_wp2_with fail
      rw [← hW]
      clear hW
      refine (rcmp_any x y ca cb xs ys _ haW hbW' (by omega) (by omega) hna.1 hnb.1).mono ?_
      rintro e w1 ⟨rfl, hb1⟩
      rw [hc]
      clear hc
      go_wp2
      have haD : Row w1.drew .i64 65536 x ca xs := (haW.next hb1).next ((Below.refl _ _).drew)
      have hbD : Row w1.drew .i64 65536 y cb ys := (hbW'.next hb1).next ((Below.refl _ _).drew)
      have hD0 : Below W.heap.size W w1.drew := hb1.drew
      have d0 := keep_cell hb1 c0
      have d1 := keep_cell hb1 c1
      have d2 := keep_cell hb1 c2
      have d3 := keep_cell hb1 c3
      have hl2 : w.heap.size + 1 + 1 < w1.drew.heap.size := Nat.lt_of_lt_of_le hlt hb1.size
      have hbs2 : w.heap.size ≤ w1.drew.heap.size := Nat.le_trans hbW.size hb1.size
      go_region_held3 (fun w' => w'.cell? ⟨w.heap.size, 0, none⟩ = some (.bool na) ∧ w'.cell? ⟨w.heap.size, 1, none⟩ = some (.slice x xs.length ca) ∧ w'.cell? ⟨w.heap.size + 1, 1, none⟩ = some (.slice y ys.length cb)) ((refine ⟨?_, ?_, ?_⟩ <;> first | with_reducible assumption | exact c0 | exact c1 | exact c2 | exact c3 | exact d0 | exact d1 | exact d2 | exact d3 | (refine keep_cell (wk := W) ?_ ?_ <;> with_reducible assumption) | (refine keep_set (keep_set (keep_cell (wk := W) (w' := w2) hB2 ?_) ?_) ?_ <;> first | with_reducible assumption | (simp; done) | (simp; omega))))
      (first
        | (go_at_call 86; refine (rsub_any x y ca cb xs ys _ haD hbD (by omega) hll (Int.le_of_lt hv.out)).mono ?_; rintro e w2 ⟨a', cap', ds, rfl, hro, hnd, hvd, hld, hb2⟩; replace hvd : Hid _ := hvd; replace hnd : Hid _ := hnd; replace hld : Hid _ := hld; have hB2 : Below W.heap.size W w2 := bthen hD0 hb2; have k4 := keep_cell hB2 c4; have k5 := keep_cell hB2 c5; have g4 := keep_frozen hB2 c4 f4; have g5 := keep_frozen hB2 c5 f5))
      go_wp2
      refine bodyPost_ret (v := .agg #[.bool na, .slice a' ds.length cap']) (by simp [results, Tryz.results47, go_sem, k4, k5]) rfl ⟨_, rfl, ⟨na, a', cap', ds, rfl, ((hro.set (by exact hl2) _).set (by exact hl2) _).mono hbs2, ⟨hnd.out, fun _ e => by have := hvd.out; have := hv.out; subst e; simp only [val_nil] at *; omega⟩, by rw [num_add_fst _ na nb hnn.out _ _ _ hvd.out], by have := hld.out; omega⟩, ?_⟩
      exact ((bthen hbW hB2).setCell (by simp; omega) _).setCell (by simp; omega) _

end Go.Proofs.YthiiglhecajhbaaGreat
namespace Go.Proofs.YthiiglhecajhbaaGreat
open Go.RowKit
attribute [local go_sem ↓] Go.wp_at_zero Go.wp_at_succ
set_option maxHeartbeats 2000000 in
set_option maxRecDepth 100000 in
theorem rSub_any (na nb : Bool) (x y : Option Addr) (ca cb : Nat) (xs ys : List Int) (w : World) (ha : Row w .i64 65536 x ca xs) (hna : Norm na xs) (hb : Row w .i64 65536 y cb ys) (hnb : Norm nb ys) (hl : xs.length ≤ 900000) (hlb : ys.length ≤ 900000) :
    Calls Tryz.prog 90 #[.agg #[.bool na, .slice x xs.length ca], .agg #[.bool nb, .slice y ys.length cb]] w fun e w' => ∃ v, e = .returned v ∧ Rout w' w.heap.size v (num 65536 na xs - num 65536 nb ys) (max xs.length ys.length + 1) ∧ Below w.heap.size w w' := by
  obtain ⟨W, hW, hbW, hlt, c0, c1, c2, c3, c4, c5, f4, f5⟩ := boxes3 w (.bool na) (.slice x xs.length ca) (.bool nb) (.slice y ys.length cb) (.bool false) (.slice none 0 0) 32
  have haW := ha.next hbW
  have hbW' := hb.next hbW
  have hnb' := norm_pick (!nb) ys hnb.1
  have hneg := num_neg_pick nb ys
  replace hneg : Hid _ := hneg
  have kneg : ∀ W', Calls Tryz.prog 50 #[.agg #[.bool nb, .slice y ys.length cb]] W' fun e w' => e = .returned (.agg #[.bool (!nb && decide (0 < ys.length)), .slice y ys.length cb]) ∧ Below W'.heap.size W' w' := rNeg_any nb y cb ys.length
  generalize (!nb && decide (0 < ys.length)) = mb at *
  go_enter Tryz.func90, Tryz.ntmps90
  go_wp2
  rw [← hW]
  clear hW
  have hD0 : Below W.heap.size W W.drew := (Below.refl _ _).drew
  go_region_held3 (fun w' => w'.cell? ⟨w.heap.size, 0, none⟩ = some (.bool na) ∧ w'.cell? ⟨w.heap.size, 1, none⟩ = some (.slice x xs.length ca) ∧ w'.cell? ⟨w.heap.size + 1, 0, none⟩ = some (.bool nb) ∧ w'.cell? ⟨w.heap.size + 1, 1, none⟩ = some (.slice y ys.length cb)) ((refine ⟨?_, ?_, ?_, ?_⟩ <;> first | with_reducible assumption | exact c0 | exact c1 | exact c2 | exact c3 | (refine keep_cell (wk := W) ?_ ?_ <;> with_reducible assumption) | (refine keep_set (keep_set (keep_cell (wk := W) (w' := w2) hB2 ?_) ?_) ?_ <;> first | with_reducible assumption | (simp; done) | (simp; omega))))
    (first
      | (go_at_call 50; refine (kneg _).mono ?_; rintro e w1 ⟨rfl, hb1⟩; have hB1 : Below W.heap.size W w1 := bthen hD0 hb1; have haD := haW.next hB1; have hbD := hbW'.next hB1)
      | (go_at_call 47; refine (rAdd_any na mb x y ca cb xs ys _ haD hna hbD hnb' hl hlb).mono ?_; rintro e w2 ⟨v, rfl, ⟨neg, a', cap', ds, rfl, hro, hn, hz, hle⟩, hb2⟩; replace hz : Hid _ := hz; replace hn : Hid _ := hn; replace hle : Hid _ := hle; have hB2 : Below W.heap.size W w2 := bthen hB1 hb2; have k4 := keep_cell hB2 c4; have k5 := keep_cell hB2 c5; have g4 := keep_frozen hB2 c4 f4; have g5 := keep_frozen hB2 c5 f5))
  go_wp2
  have hl2 : w.heap.size + 1 + 1 < w1.heap.size := Nat.lt_of_lt_of_le hlt hB1.size
  refine bodyPost_ret (v := .agg #[.bool neg, .slice a' ds.length cap']) (by simp [results, Tryz.results90, go_sem, k4, k5]) rfl ⟨_, rfl, ⟨neg, a', cap', ds, rfl, ((hro.set (by exact hl2) _).set (by exact hl2) _).mono (by omega), hn.out, ?_, hle.out⟩, ?_⟩
  · rw [hz.out, hneg.out]; omega
  · exact ((bthen hbW hB2).setCell (by simp; omega) _).setCell (by simp; omega) _
theorem num_mul_pick (na nb : Bool) (xs ys ds : List Int) (h : val 65536 ds = val 65536 xs * val 65536 ys) : num 65536 ((na != nb) && decide (0 < ds.length)) ds = num 65536 na xs * num 65536 nb ys := by
  by_cases hd : 0 < ds.length
  · cases na <;> cases nb <;> simp [num, h, hd, Int.neg_mul, Int.mul_neg]
  · have e : ds = [] := List.eq_nil_of_length_eq_zero (by omega)
    subst e
    simp only [val_nil] at h
    cases na <;> cases nb <;> simp [num, val, Int.neg_mul, Int.mul_neg, ← h]
set_option maxHeartbeats 2000000 in
theorem rMul_any (na nb : Bool) (x y : Option Addr) (ca cb : Nat) (xs ys : List Int) (w : World) (ha : Row w .i64 65536 x ca xs) (hb : Row w .i64 65536 y cb ys) (hl : xs.length ≤ 900000) (hlb : ys.length ≤ 900000) :
    Calls Tryz.prog 40 #[.agg #[.bool na, .slice x xs.length ca], .agg #[.bool nb, .slice y ys.length cb]] w fun e w' => ∃ v, e = .returned v ∧ Rout w' w.heap.size v (num 65536 na xs * num 65536 nb ys) (xs.length + ys.length + 1) ∧ Below w.heap.size w w' := by
  obtain ⟨W, hW, hbW, hlt, c0, c1, c2, c3, c4, c5, f4, f5⟩ := boxes3 w (.bool na) (.slice x xs.length ca) (.bool nb) (.slice y ys.length cb) (.bool false) (.slice none 0 0) 32
  have haW := ha.next hbW
  have hbW' := hb.next hbW
  go_enter Tryz.func40, Tryz.ntmps40
  go_wp2_with fail
  rw [← hW]
  clear hW
  refine (rmul_any x y ca cb xs ys _ haW hbW' (by omega) (by omega)).mono ?_
  rintro e w2 ⟨a', cap', ds, rfl, hro, hnd, hvd, hld, hB2⟩
  have hnn := num_mul_pick na nb xs ys ds hvd
  have hnm := norm_pick (na != nb) ds hnd
  have hl2 : w.heap.size + 1 + 1 < W.heap.size := hlt
  have hbs := hbW.size
  have hO : ∀ w', Rown w' W.heap.size a' cap' ds → Rout w' w.heap.size (.agg #[.bool ((na != nb) && decide (0 < ds.length)), .slice a' ds.length cap']) (num 65536 na xs * num 65536 nb ys) (xs.length + ys.length + 1) :=
    fun w' ho => ⟨_, _, _, _, rfl, ho.mono hbs, hnm, hnn, hld⟩
  have k0 := keep_cell hB2 c0
  have k2 := keep_cell hB2 c2
  have k4 := keep_cell hB2 c4
  have k5 := keep_cell hB2 c5
  have g4 := keep_frozen hB2 c4 f4
  have g5 := keep_frozen hB2 c5 f5
  clear hnn hnm hvd hnd hld
  have hBB := ((bthen hbW hB2).setCell (p := ⟨w.heap.size + 1 + 1, 0, none⟩) (by simp; omega) (.bool ((na != nb) && decide (0 < ds.length)))).setCell (p := ⟨w.heap.size + 1 + 1, 1, none⟩) (by simp; omega) (.slice a' ds.length cap')
  have hOO := hO _ ((hro.set (p := ⟨w.heap.size + 1 + 1, 0, none⟩) (by exact hl2) (.bool ((na != nb) && decide (0 < ds.length)))).set (p := ⟨w.heap.size + 1 + 1, 1, none⟩) (by exact hl2) (.slice a' ds.length cap'))
  by_cases hnn : na = nb
  · have hne : (na != nb) = false := by simp [hnn]
    rw [hne] at hBB hOO
    go_wp2
    exact bodyPost_ret (v := .agg #[.bool false, .slice a' ds.length cap']) (by simp [results, Tryz.results40, go_sem, k4, k5]) rfl ⟨_, rfl, hOO, hBB⟩
  · have hne : (na != nb) = true := by simp [hnn]
    have hne2 : (!na == nb) = true := by cases na <;> cases nb <;> simp at hnn ⊢
    rw [hne] at hBB hOO
    by_cases hd : 0 < ds.length
    · have hd' : (ds.length : Int) > 0 := by omega
      rw [decide_eq_true hd] at hBB hOO
      go_wp2
      exact bodyPost_ret (v := .agg #[.bool true, .slice a' ds.length cap']) (by simp [results, Tryz.results40, go_sem, k4, k5]) rfl ⟨_, rfl, by simpa [hd, hne2] using hOO, by simpa [hd, hne2] using hBB⟩
    · have hd' : ¬ (ds.length : Int) > 0 := by omega
      rw [decide_eq_false hd] at hBB hOO
      go_wp2
      exact bodyPost_ret (v := .agg #[.bool false, .slice a' ds.length cap']) (by simp [results, Tryz.results40, go_sem, k4, k5]) rfl ⟨_, rfl, by simpa [hd, hne2] using hOO, by simpa [hd, hne2] using hBB⟩
set_option maxHeartbeats 2000000 in
theorem rCmp_any (na nb : Bool) (x y : Option Addr) (ca cb : Nat) (xs ys : List Int) (w : World) (ha : Row w .i64 65536 x ca xs) (hna : Norm na xs) (hb : Row w .i64 65536 y cb ys) (hnb : Norm nb ys) (hl : xs.length ≤ 900000) (hlb : ys.length ≤ 900000) :
    Calls Tryz.prog 52 #[.agg #[.bool na, .slice x xs.length ca], .agg #[.bool nb, .slice y ys.length cb]] w fun e w' => e = .returned (.int .i64 (cmpI (num 65536 na xs) (num 65536 nb ys))) ∧ Below w.heap.size w w' := by
  obtain ⟨W, hW, hbW, hlt, c0, c1, c2, c3, _, _⟩ := boxes2t w (.bool na) (.slice x xs.length ca) (.bool nb) (.slice y ys.length cb) 32 32
  have haW := ha.next hbW
  have hbW' := hb.next hbW
  go_enter Tryz.func52, Tryz.ntmps52
  go_wp2_with fail
  rw [← hW]
  clear hW
  refine (rSub_any na nb x y ca cb xs ys _ haW hna hbW' hnb hl hlb).mono ?_
  rintro e w2 ⟨v, rfl, ⟨neg, a', cap', ds, rfl, hro, hn, hz, hle⟩, hb2⟩
  have hv := val_nonneg (B := 65536) (by decide) hro.1.words
  have hp := fun hne => nrm_val_pos (B := 65536) (by decide) hro.1.words hn.1 hne
  have hBB : Below w.heap.size w (w2.alloc (.cells #[.bool neg, .slice a' ds.length cap'] 32)) := (bthen hbW hb2).alloc (by have := hbW.size; have := hb2.size; omega) _
  replace hz : Hid _ := hz
  replace hle : Hid _ := hle
  replace hv : Hid _ := hv
  by_cases hd : ds = []
  · have hd' : ((ds.length : Int) == 0) = true := by simp [hd]
    have hc : cmpI (num 65536 na xs) (num 65536 nb ys) = 0 := cmpI_eq (by have h1 := hz.out; subst hd; cases neg <;> simp [num, val] at h1 <;> simp [num] <;> omega)
    replace hc : Hid _ := hc
    clear hp
    replace hd : Hid _ := hd
    go_wp2
    go_ret
    exact ⟨by rw [hc.out]; rfl, hBB⟩
  · have hd' : ((ds.length : Int) == 0) = false := by have := List.length_pos_iff.2 hd; simp; omega
    have hp' := hp hd
    clear hp
    replace hd : Hid _ := hd
    cases neg with
    | true =>
      have hc : cmpI (num 65536 na xs) (num 65536 nb ys) = -1 := cmpI_lt (by have h1 := hz.out; simp only [num, if_true] at h1; simp only [num]; omega)
      replace hc : Hid _ := hc
      replace hp' : Hid _ := hp'
      go_wp2
      go_ret
      exact ⟨by rw [hc.out]; rfl, hBB⟩
    | false =>
      have hc : cmpI (num 65536 na xs) (num 65536 nb ys) = 1 := cmpI_gt (by have h1 := hz.out; simp [num] at h1; simp only [num]; omega)
      replace hc : Hid _ := hc
      replace hp' : Hid _ := hp'
      go_wp2
      go_ret
      exact ⟨by rw [hc.out]; rfl, hBB⟩
end Go.Proofs.YthiiglhecajhbaaGreat
