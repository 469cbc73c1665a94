/- The second road's numbers: Sub, Mul, Cmp. -/
import Derived.Test.YtdcjgepgiaaaoaaRf
namespace Go.Proofs.Ytdcjgepgiaaaoaa
open Go.RowKit
attribute [local go_sem ↓] Go.wp_at_zero Go.wp_at_succ
set_option maxHeartbeats 2000000 in
set_option maxRecDepth 100000 in
theorem rSub_any (na nb : Bool) (x y : Option Addr) (ca cb : Nat) (xs ys : List Int) (w : World) (ha : Row w .i64 65536 x ca xs) (hna : Norm na xs) (hb : Row w .i64 65536 y cb ys) (hnb : Norm nb ys) (hl : xs.length ≤ 900000) (hlb : ys.length ≤ 900000) :
    Calls Try.prog 16 #[.agg #[.bool na, .slice x xs.length ca], .agg #[.bool nb, .slice y ys.length cb]] w fun e w' => ∃ v, e = .returned v ∧ Rout w' w.heap.size v (num 65536 na xs - num 65536 nb ys) (max xs.length ys.length + 1) ∧ Below w.heap.size w w' := by
  obtain ⟨W, hW, hbW, hlt, c0, c1, c2, c3, c4, c5, f4, f5⟩ := boxes3 w (.bool na) (.slice x xs.length ca) (.bool nb) (.slice y ys.length cb) (.bool false) (.slice none 0 0) 30
  have haW := ha.next hbW
  have hbW' := hb.next hbW
  have hnb' := norm_pick (!nb) ys hnb.1
  have hneg := num_neg_pick nb ys
  replace hneg : Hid _ := hneg
  have kneg : ∀ W', Calls Try.prog 20 #[.agg #[.bool nb, .slice y ys.length cb]] W' fun e w' => e = .returned (.agg #[.bool (!nb && decide (0 < ys.length)), .slice y ys.length cb]) ∧ Below W'.heap.size W' w' := rNeg_any nb y cb ys.length
  generalize (!nb && decide (0 < ys.length)) = mb at *
  go_enter Try.func16, Try.ntmps16
  go_wp2
  rw [← hW]
  clear hW
  have hD0 : Below W.heap.size W W.drew := (Below.refl _ _).drew
  go_region_held3 (fun w' => w'.cell? ⟨w.heap.size, 0, none⟩ = some (.bool na) ∧ w'.cell? ⟨w.heap.size, 1, none⟩ = some (.slice x xs.length ca) ∧ w'.cell? ⟨w.heap.size + 1, 0, none⟩ = some (.bool nb) ∧ w'.cell? ⟨w.heap.size + 1, 1, none⟩ = some (.slice y ys.length cb)) ((refine ⟨?_, ?_, ?_, ?_⟩ <;> first | with_reducible assumption | exact c0 | exact c1 | exact c2 | exact c3 | (refine keep_cell (wk := W) ?_ ?_ <;> with_reducible assumption) | (refine keep_set (keep_set (keep_cell (wk := W) (w' := w2) hB2 ?_) ?_) ?_ <;> first | with_reducible assumption | (simp; done) | (simp; omega))))
    (first
      | (go_at_call 20; refine (kneg _).mono ?_; rintro e w1 ⟨rfl, hb1⟩; have hB1 : Below W.heap.size W w1 := bthen hD0 hb1; have haD := haW.next hB1; have hbD := hbW'.next hB1)
      | (go_at_call 14; refine (rAdd_any na mb x y ca cb xs ys _ haD hna hbD hnb' hl hlb).mono ?_; rintro e w2 ⟨v, rfl, ⟨neg, a', cap', ds, rfl, hro, hn, hz, hle⟩, hb2⟩; replace hz : Hid _ := hz; replace hn : Hid _ := hn; replace hle : Hid _ := hle; have hB2 : Below W.heap.size W w2 := bthen hB1 hb2; have k4 := keep_cell hB2 c4; have k5 := keep_cell hB2 c5; have g4 := keep_frozen hB2 c4 f4; have g5 := keep_frozen hB2 c5 f5))
  go_wp2
  have hl2 : w.heap.size + 1 + 1 < w1.heap.size := Nat.lt_of_lt_of_le hlt hB1.size
  refine bodyPost_ret (v := .agg #[.bool neg, .slice a' ds.length cap']) (by simp [results, Try.results16, go_sem, k4, k5]) rfl ⟨_, rfl, ⟨neg, a', cap', ds, rfl, ((hro.set (by exact hl2) _).set (by exact hl2) _).mono (by omega), hn.out, ?_, hle.out⟩, ?_⟩
  · rw [hz.out, hneg.out]; omega
  · exact ((bthen hbW hB2).setCell (by simp; omega) _).setCell (by simp; omega) _
theorem num_mul_pick (na nb : Bool) (xs ys ds : List Int) (h : val 65536 ds = val 65536 xs * val 65536 ys) : num 65536 ((na != nb) && decide (0 < ds.length)) ds = num 65536 na xs * num 65536 nb ys := by
  by_cases hd : 0 < ds.length
  · cases na <;> cases nb <;> simp [num, h, hd, Int.neg_mul, Int.mul_neg]
  · have e : ds = [] := List.eq_nil_of_length_eq_zero (by omega)
    subst e
    simp only [val_nil] at h
    cases na <;> cases nb <;> simp [num, val, Int.neg_mul, Int.mul_neg, ← h]
set_option maxHeartbeats 2000000 in
theorem rMul_any (na nb : Bool) (x y : Option Addr) (ca cb : Nat) (xs ys : List Int) (w : World) (ha : Row w .i64 65536 x ca xs) (hb : Row w .i64 65536 y cb ys) (hl : xs.length ≤ 900000) (hlb : ys.length ≤ 900000) :
    Calls Try.prog 18 #[.agg #[.bool na, .slice x xs.length ca], .agg #[.bool nb, .slice y ys.length cb]] w fun e w' => ∃ v, e = .returned v ∧ Rout w' w.heap.size v (num 65536 na xs * num 65536 nb ys) (xs.length + ys.length + 1) ∧ Below w.heap.size w w' := by
  obtain ⟨W, hW, hbW, hlt, c0, c1, c2, c3, c4, c5, f4, f5⟩ := boxes3 w (.bool na) (.slice x xs.length ca) (.bool nb) (.slice y ys.length cb) (.bool false) (.slice none 0 0) 30
  have haW := ha.next hbW
  have hbW' := hb.next hbW
  go_enter Try.func18, Try.ntmps18
  go_wp2_with fail
  rw [← hW]
  clear hW
  refine (rmul_any x y ca cb xs ys _ haW hbW' (by omega) (by omega)).mono ?_
  rintro e w2 ⟨a', cap', ds, rfl, hro, hnd, hvd, hld, hB2⟩
  have hnn := num_mul_pick na nb xs ys ds hvd
  have hnm := norm_pick (na != nb) ds hnd
  have hl2 : w.heap.size + 1 + 1 < W.heap.size := hlt
  have hbs := hbW.size
  have hO : ∀ w', Rown w' W.heap.size a' cap' ds → Rout w' w.heap.size (.agg #[.bool ((na != nb) && decide (0 < ds.length)), .slice a' ds.length cap']) (num 65536 na xs * num 65536 nb ys) (xs.length + ys.length + 1) :=
    fun w' ho => ⟨_, _, _, _, rfl, ho.mono hbs, hnm, hnn, hld⟩
  have k0 := keep_cell hB2 c0
  have k2 := keep_cell hB2 c2
  have k4 := keep_cell hB2 c4
  have k5 := keep_cell hB2 c5
  have g4 := keep_frozen hB2 c4 f4
  have g5 := keep_frozen hB2 c5 f5
  clear hnn hnm hvd hnd hld
  have hBB := ((bthen hbW hB2).setCell (p := ⟨w.heap.size + 1 + 1, 0, none⟩) (by simp; omega) (.bool ((na != nb) && decide (0 < ds.length)))).setCell (p := ⟨w.heap.size + 1 + 1, 1, none⟩) (by simp; omega) (.slice a' ds.length cap')
  have hOO := hO _ ((hro.set (p := ⟨w.heap.size + 1 + 1, 0, none⟩) (by exact hl2) (.bool ((na != nb) && decide (0 < ds.length)))).set (p := ⟨w.heap.size + 1 + 1, 1, none⟩) (by exact hl2) (.slice a' ds.length cap'))
  by_cases hnn : na = nb
  · have hne : (na != nb) = false := by simp [hnn]
    rw [hne] at hBB hOO
    go_wp2
    exact bodyPost_ret (v := .agg #[.bool false, .slice a' ds.length cap']) (by simp [results, Try.results18, go_sem, k4, k5]) rfl ⟨_, rfl, hOO, hBB⟩
  · have hne : (na != nb) = true := by simp [hnn]
    have hne2 : (!na == nb) = true := by cases na <;> cases nb <;> simp at hnn ⊢
    rw [hne] at hBB hOO
    by_cases hd : 0 < ds.length
    · have hd' : (ds.length : Int) > 0 := by omega
      rw [decide_eq_true hd] at hBB hOO
      go_wp2
      exact bodyPost_ret (v := .agg #[.bool true, .slice a' ds.length cap']) (by simp [results, Try.results18, go_sem, k4, k5]) rfl ⟨_, rfl, by simpa [hd, hne2] using hOO, by simpa [hd, hne2] using hBB⟩
    · have hd' : ¬ (ds.length : Int) > 0 := by omega
      rw [decide_eq_false hd] at hBB hOO
      go_wp2
      exact bodyPost_ret (v := .agg #[.bool false, .slice a' ds.length cap']) (by simp [results, Try.results18, go_sem, k4, k5]) rfl ⟨_, rfl, by simpa [hd, hne2] using hOO, by simpa [hd, hne2] using hBB⟩
set_option maxHeartbeats 2000000 in
theorem rCmp_any (na nb : Bool) (x y : Option Addr) (ca cb : Nat) (xs ys : List Int) (w : World) (ha : Row w .i64 65536 x ca xs) (hna : Norm na xs) (hb : Row w .i64 65536 y cb ys) (hnb : Norm nb ys) (hl : xs.length ≤ 900000) (hlb : ys.length ≤ 900000) :
    Calls Try.prog 22 #[.agg #[.bool na, .slice x xs.length ca], .agg #[.bool nb, .slice y ys.length cb]] w fun e w' => e = .returned (.int .i64 (cmpI (num 65536 na xs) (num 65536 nb ys))) ∧ Below w.heap.size w w' := by
  obtain ⟨W, hW, hbW, hlt, c0, c1, c2, c3, _, _⟩ := boxes2t w (.bool na) (.slice x xs.length ca) (.bool nb) (.slice y ys.length cb) 30 30
  have haW := ha.next hbW
  have hbW' := hb.next hbW
  go_enter Try.func22, Try.ntmps22
  go_wp2_with fail
  rw [← hW]
  clear hW
  refine (rSub_any na nb x y ca cb xs ys _ haW hna hbW' hnb hl hlb).mono ?_
  rintro e w2 ⟨v, rfl, ⟨neg, a', cap', ds, rfl, hro, hn, hz, hle⟩, hb2⟩
  have hv := val_nonneg (B := 65536) (by decide) hro.1.words
  have hp := fun hne => nrm_val_pos (B := 65536) (by decide) hro.1.words hn.1 hne
  have hBB : Below w.heap.size w (w2.alloc (.cells #[.bool neg, .slice a' ds.length cap'] 30)) := (bthen hbW hb2).alloc (by have := hbW.size; have := hb2.size; omega) _
  replace hz : Hid _ := hz
  replace hle : Hid _ := hle
  replace hv : Hid _ := hv
  by_cases hd : ds = []
  · have hd' : ((ds.length : Int) == 0) = true := by simp [hd]
    have hc : cmpI (num 65536 na xs) (num 65536 nb ys) = 0 := cmpI_eq (by have h1 := hz.out; subst hd; cases neg <;> simp [num, val] at h1 <;> simp [num] <;> omega)
    replace hc : Hid _ := hc
    clear hp
    replace hd : Hid _ := hd
    go_wp2
    go_ret
    exact ⟨by rw [hc.out]; rfl, hBB⟩
  · have hd' : ((ds.length : Int) == 0) = false := by have := List.length_pos_iff.2 hd; simp; omega
    have hp' := hp hd
    clear hp
    replace hd : Hid _ := hd
    cases neg with
    | true =>
      have hc : cmpI (num 65536 na xs) (num 65536 nb ys) = -1 := cmpI_lt (by have h1 := hz.out; simp only [num, if_true] at h1; simp only [num]; omega)
      replace hc : Hid _ := hc
      replace hp' : Hid _ := hp'
      go_wp2
      go_ret
      exact ⟨by rw [hc.out]; rfl, hBB⟩
    | false =>
      have hc : cmpI (num 65536 na xs) (num 65536 nb ys) = 1 := cmpI_gt (by have h1 := hz.out; simp [num] at h1; simp only [num]; omega)
      replace hc : Hid _ := hc
      replace hp' : Hid _ := hp'
      go_wp2
      go_ret
      exact ⟨by rw [hc.out]; rfl, hBB⟩
end Go.Proofs.Ytdcjgepgiaaaoaa
