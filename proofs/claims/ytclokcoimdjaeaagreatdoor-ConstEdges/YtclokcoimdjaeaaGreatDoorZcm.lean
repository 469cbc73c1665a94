/- constants: the second road's numbers of 64 bits, powers of two, and fractions told. -/
import Derived.Test.YtclokcoimdjaeaaGreatDoorGimm
import Derived.Test.YtclokcoimdjaeaaGreatDoorYd
import Derived.Test.YtclokcoimdjaeaaGreatDoorYc
import Derived.Test.YtclokcoimdjaeaaGreatDoorQnm
namespace Go.Proofs.YtclokcoimdjaeaaGreatDoor
set_option linter.unusedVariables false
open Go.RowKit
attribute [local go_sem ↓] Go.wp_at_zero Go.wp_at_succ
theorem of_step {ds : List Int} {k : Nat} {n q r N : Int} (hk : ds.length = k) (hn : n = 65536 * q + r) (hv : val 65536 ds + n * 65536 ^ k = N) : val 65536 (ds ++ [r]) + q * 65536 ^ (k + 1) = N := by
  rw [val_append, hk, ← hv, hn, Int.pow_succ, Int.add_mul, Int.mul_assoc, Int.mul_comm (65536 ^ k) 65536, ← Int.mul_assoc q, Int.mul_comm q 65536, Int.mul_assoc 65536]
  simp only [val]
  rw [Int.mul_comm (65536 ^ k)]
  simp
  omega
set_option maxHeartbeats 2000000 in
set_option maxRecDepth 20000 in
theorem rOf_any (n0 : Int) (w : World) (h0 : -9223372036854775808 ≤ n0) (h1 : n0 ≤ 9223372036854775807) :
    Calls Tryz.prog 68 #[.int .i64 n0] w fun e w' => ∃ v, e = .returned v ∧ Rout w' w.heap.size v n0 4 ∧ Below w.heap.size w w' := by
  obtain ⟨i0, hi, hz0, hz1, hz2⟩ := info_parts Tryz.info3
  obtain ⟨W, hW, hbW, hlt, c4, c5, f4, f5⟩ := box1r w (.bool false) (.slice none 0 0) 38
  go_enter Tryz.func68, Tryz.ntmps68
  go_wp2
  rw [← hW]
  clear hW
  go_loopw [0, 4, 5] (fun nv d r wr => ∃ (k : Nat) (n : Int) (a : Option Addr) (cap : Nat) (ds : List Int), k ≤ 4 ∧ nv = .int .i64 n ∧ d = .slice a ds.length cap ∧ Own wr W.heap.size .i64 3 65536 a cap ds ∧ Hid (ds.length = k) ∧ Hid (val 65536 ds + (n.natAbs : Int) * 65536 ^ k = (n0.natAbs : Int)) ∧ Hid (n = 0 → nrm ds) ∧ Hid (0 ≤ n0 → 0 ≤ n) ∧ Hid (n0 < 0 → n ≤ 0) ∧ -9223372036854775808 ≤ n ∧ n ≤ 9223372036854775807 ∧ Below W.heap.size W wr) (fun nv _ _ _ => (intOf nv).natAbs)
  case atStart => exact ⟨0, n0, none, 0, [], by omega, rfl, rfl, Own.empty _ _ _ _ _, rfl, by simp [val, Hid], fun _ => trivial, fun h => h, fun h => by omega, h0, h1, Below.refl _ _⟩
  case round =>
    obtain ⟨k, n, a, cap, ds, hk, rfl, rfl, hown, hdl, hdv, hnr, hs0, hs1, hn0, hn1, hbel⟩ := hrel
    by_cases hz : n = 0
    · subst hz
      have hv : Hid (val 65536 ds = (n0.natAbs : Int)) := by have := hdv.out; simpa [Hid] using this
      have hnrm := hnr.out rfl
      have hdl2 := hdl.out
      have k4 := keep_cell hbel c4
      have k5 := keep_cell hbel c5
      have g4 := keep_frozen hbel c4 f4
      have g5 := keep_frozen hbel c5 f5
      have hB := bthen hbW hbel
      have hR : Rout wr W.heap.size (.agg #[.bool (decide (n0 < 0)), .slice a ds.length cap]) n0 4 := by
        refine ⟨_, a, cap, ds, rfl, ⟨hown.row, fun x hx => own_block hown hx⟩, ⟨hnrm, fun h e => ?_⟩, ?_, by omega⟩
        · simp at h
          subst e
          have := hv.out
          simp [val] at this
          omega
        · have := hv.out
          by_cases hc : n0 < 0
          · simp [num, hc]; omega
          · simp [num, hc]; omega
      have hO : ∀ v, Rout ((wr.setCell ⟨w.heap.size, 0, none⟩ (.bool (decide (n0 < 0)))).setCell ⟨w.heap.size, 1, none⟩ v) w.heap.size (.agg #[.bool (decide (n0 < 0)), .slice a ds.length cap]) n0 4 := by
        intro v
        obtain ⟨neg, a', cap', ds', e1, e2, e3⟩ := hR
        exact ⟨neg, a', cap', ds', e1, ((e2.set (by exact hlt) _).set (by exact hlt) _).mono hbW.size, e3⟩
      replace hR : Hid _ := hR
      replace hO : Hid _ := hO
      replace hnrm : Hid _ := hnrm
      replace hdl2 : Hid _ := hdl2
      go_wp2
      refine bodyPost_ret (v := .agg #[.bool (decide (n0 < 0)), .slice a ds.length cap]) (by simp [results, Tryz.results68, go_sem, k4, k5]) rfl ⟨_, rfl, hO.out _, (hB.setCell (by simp) _).setCell (by simp) _⟩
    · have hzb : (n != 0) = true := by simp [hz]
      have hz' : Hid _ := hz
      clear hz
      have hk3 : k ≤ 3 := by
        by_cases hc : k ≤ 3
        · exact hc
        · have h4 : k = 4 := by omega
          subst h4
          have h5 := hdv.out
          have h6 := val_nonneg (B := 65536) (by decide) hown.words
          have h7 : (65536 : Int) ^ 4 = 18446744073709551616 := by decide
          rw [h7] at h5
          have hnz : n ≠ 0 := hz'.out
          omega
      have hsz := hbel.size
      by_cases hpos : 0 ≤ n
      · have hq0 : 0 ≤ n / 65536 := by omega
        have hr0 : 0 ≤ n % 65536 := by omega
        have hD : Below wr.heap.size wr (wr.alloc (.cells #[.int .i64 (n % 65536)] 3)) := (Below.refl _ _).alloc (Nat.le_refl _) _
        obtain ⟨a2, cap2, w2, hrun, hown2, hb2⟩ := run_append_row (P := Tryz.prog) (wr.alloc (.cells #[.int .i64 (n % 65536)] 3)) 36 36 3 W.heap.size .i64 8 65536 i0 Tryz.underlying36 hi hz0 hz1 hz2 a cap ds.length ds (hown.next hD) rfl ⟨wr.heap.size, 0, none⟩ 1 1 [n % 65536] (Row.alloc1 wr .i64 3 65536 (n % 65536) (by omega)) rfl (by omega) (by have := hdl.out; omega) (by omega) (by simp; omega)
        replace hrun : Hid _ := hrun
        have hbel2 : Below W.heap.size W w2 := (hbel.trans (hD.mono hsz)).trans hb2
        have hv2 : Hid (val 65536 (ds ++ [n % 65536]) + ((n / 65536).natAbs : Int) * 65536 ^ (k + 1) = (n0.natAbs : Int)) := by
          refine of_step (n := (n.natAbs : Int)) hdl.out ?_ hdv.out
          omega
        have hn2 : Hid (n / 65536 = 0 → nrm (ds ++ [n % 65536])) := fun h => nrm_snoc _ _ (by have hnz : n ≠ 0 := hz'.out; omega)
        have hl3 : ds.length + 1 = (ds ++ [n % 65536]).length := by simp
        replace hl3 : Hid _ := hl3
        go_wp2_with (at_builtin; refine wpList_append_run (by rfl) (.tmp 16) (.tmp 18) 36 36 (by rfl) (.slice a ds.length cap) (.slice (some ⟨wr.heap.size, 0, none⟩) 1 1) (by rfl) (by rfl) _ _ hrun.out ?_)
        go_roundw
        case rel => exact ⟨k + 1, n / 65536, a2, cap2, ds ++ [n % 65536], by omega, rfl, by rw [← hl3.out], hown2, by show _ = _; rw [← hl3.out, hdl.out], hv2, hn2, fun h => by omega, fun h => by have := hs1.out h; omega, by omega, by omega, hbel2⟩
        case measure => have hnz : n ≠ 0 := hz'.out; simp [intOf]; omega
      · obtain ⟨q, hq⟩ : ∃ q, n.tdiv 65536 = q := ⟨_, rfl⟩
        obtain ⟨r, hr⟩ : ∃ r, n.tmod 65536 = r := ⟨_, rfl⟩
        have hqr := Int.mul_tdiv_add_tmod n 65536
        have hr1 : -65536 < n.tmod 65536 := Int.lt_tmod_of_pos n (by decide)
        have hr2 : n.tmod 65536 ≤ 0 := by
          have : n.tmod 65536 = -((-n).tmod 65536) := by rw [Int.neg_tmod]; omega
          have := Int.tmod_nonneg (a := -n) 65536 (by omega)
          omega
        have hq1 : q ≤ 0 := by rw [hq, hr] at hqr; rw [hr] at hr1; omega
        rw [hq, hr] at hqr
        rw [hr] at hr1 hr2
        have hqn : (q.natAbs : Int) = -q := by omega
        have hD : Below wr.heap.size wr (wr.alloc (.cells #[.int .i64 (-r)] 3)) := (Below.refl _ _).alloc (Nat.le_refl _) _
        obtain ⟨a2, cap2, w2, hrun, hown2, hb2⟩ := run_append_row (P := Tryz.prog) (wr.alloc (.cells #[.int .i64 (-r)] 3)) 36 36 3 W.heap.size .i64 8 65536 i0 Tryz.underlying36 hi hz0 hz1 hz2 a cap ds.length ds (hown.next hD) rfl ⟨wr.heap.size, 0, none⟩ 1 1 [-r] (Row.alloc1 wr .i64 3 65536 (-r) (by omega)) rfl (by omega) (by have := hdl.out; omega) (by omega) (by simp; omega)
        have hbel2 : Below W.heap.size W w2 := (hbel.trans (hD.mono hsz)).trans hb2
        have hv2 : Hid (val 65536 (ds ++ [-r]) + (q.natAbs : Int) * 65536 ^ (k + 1) = (n0.natAbs : Int)) := by
          refine of_step (n := (n.natAbs : Int)) hdl.out ?_ hdv.out
          omega
        have hn2 : Hid (q = 0 → nrm (ds ++ [-r])) := fun h => nrm_snoc _ _ (by have hnz : n ≠ 0 := hz'.out; omega)
        have hl3 : ds.length + 1 = (ds ++ [-r]).length := by simp
        replace hl3 : Hid _ := hl3
        have hnn : n ≤ 0 := by omega
        have hlt' : q.natAbs < n.natAbs := by have hnz : n ≠ 0 := hz'.out; omega
        have hqb : -9223372036854775808 ≤ q ∧ q ≤ 9223372036854775807 := by omega
        clear hqn
        by_cases hrz : r = 0
        · subst hrz
          have e0 : (-(0 : Int)) = 0 := rfl
          rw [e0] at hrun hown2 hv2 hn2 hl3
          replace hrun : Hid _ := hrun
          replace hqr : Hid _ := hqr
          go_wp2_with (at_builtin; refine wpList_append_run (by rfl) (.tmp 16) (.tmp 18) 36 36 (by rfl) (.slice a ds.length cap) (.slice (some ⟨wr.heap.size, 0, none⟩) 1 1) (by rfl) (by rfl) _ _ hrun.out ?_)
          go_roundw
          case rel => exact ⟨k + 1, q, a2, cap2, ds ++ [0], by omega, rfl, by rw [← hl3.out], hown2, by show _ = _; rw [← hl3.out, hdl.out], hv2, hn2, fun h => by have := hs0.out h; omega, fun h => by omega, by omega, by omega, hbel2⟩
          case measure => simp [intOf]; omega
        · have hrn : r < 0 := by omega
          replace hrun : Hid _ := hrun
          replace hqr : Hid _ := hqr
          go_wp2_with (at_builtin; refine wpList_append_run (by rfl) (.tmp 16) (.tmp 18) 36 36 (by rfl) (.slice a ds.length cap) (.slice (some ⟨wr.heap.size, 0, none⟩) 1 1) (by rfl) (by rfl) _ _ hrun.out ?_)
          go_roundw
          case rel => exact ⟨k + 1, q, a2, cap2, ds ++ [-r], by omega, rfl, by rw [← hl3.out], hown2, by show _ = _; rw [← hl3.out, hdl.out], hv2, hn2, fun h => by have := hs0.out h; omega, fun h => by omega, by omega, by omega, hbel2⟩
          case measure => simp [intOf]; omega
theorem pow2_digit (q r : Nat) : (2 : Int) ^ (16 * q + r) = 65536 ^ q * 2 ^ r := by
  rw [Int.pow_add, Int.pow_mul]; rfl
theorem zeros_set_val (B : Int) (q : Nat) (d : Int) : val B ((zeros (q + 1)).set q d) = d * B ^ q := by
  have h := val_set_take B (zeros (q + 1)) q d (by rw [zeros_len]; omega)
  rw [take_all (by rw [List.length_set, zeros_len]; omega)] at h
  rw [h]
  have e : (zeros (q + 1)).take q = zeros q := by simp [zeros]
  rw [e, zeros_val]
  omega
theorem zeros_set_nrm (q : Nat) (d : Int) (h : d ≠ 0) : nrm ((zeros (q + 1)).set q d) := by
  have e : (zeros (q + 1)).set q d = zeros q ++ [d] := by
    apply List.ext_getElem?
    intro i
    simp only [zeros, List.getElem?_set, List.getElem?_append, List.length_replicate, List.getElem?_replicate]
    by_cases h1 : q = i
    · subst h1; simp
    · by_cases h2 : i < q
      · simp [h1, h2]; omega
      · simp [h1, h2]
        have : ¬ i < q + 1 := by omega
        rw [if_neg this]
        have : i - q ≠ 0 := by omega
        cases hh : i - q with
        | zero => omega
        | succ m => rfl
  rw [e]
  exact nrm_snoc _ _ h
set_option maxHeartbeats 1000000 in
set_option maxRecDepth 20000 in
theorem Power2_any (n : Nat) (w : World) (hn : n ≤ 1000000) :
    Calls Tryz.prog 119 #[.int .i64 n] w fun e w' => ∃ v, e = .returned v ∧ Rout w' w.heap.size v (2 ^ n) (n / 16 + 1) ∧ Below w.heap.size w w' := by
  obtain ⟨W, hW, hbW, hlt, c4, c5, f4, f5⟩ := box1r w (.bool false) (.slice none 0 0) 38
  obtain ⟨q, hq⟩ : ∃ q, q = n / 16 := ⟨_, rfl⟩
  obtain ⟨r, hr⟩ : ∃ r, r = n % 16 := ⟨_, rfl⟩
  have hmk := mk28 ((q : Int) + 1) (by omega) (by omega) W
  rw [show ((q : Int) + 1).toNat = q + 1 from by omega] at hmk
  have e1 : (n : Int).tdiv 16 = (q : Int) := by rw [Int.tdiv_eq_ediv_of_nonneg (by omega)]; omega
  have e2 : (n : Int).tmod 16 = (r : Int) := by rw [Int.tmod_eq_emod_of_nonneg (by omega)]; omega
  have e3 : (n : Int) / 16 = (q : Int) := by omega
  have e4 : (n : Int) % 16 = (r : Int) := by omega
  have hr1 : r < 16 := by omega
  rw [← hq]
  replace hq : Hid _ := hq
  replace hr : Hid _ := hr
  have hpw := pow_mono (B := 2) (by decide) (m := r) (n := 15) (by omega)
  have hp0 := pow_pos' (B := 2) (by decide) r
  have hp15 : (2 : Int) ^ 15 = 32768 := by decide
  have hwr := wrap_i64 (2 ^ r) (by omega) (by omega)
  go_enter Tryz.func119, Tryz.ntmps119
  go_wp2
  rw [← hW, hmk]
  clear hW hmk
  have hz : (zeros (q + 1)).length ≤ maxLen := by rw [zeros_len]; unfold maxLen; omega
  have hblk := Blk.new W .i64 3 (zeros (q + 1)) hz
  rw [zeros_len] at hblk
  have hbA : Below W.heap.size W (W.alloc (.cells (cellsOf .i64 (zeros (q + 1))) 3)) := (Below.refl _ _).alloc (Nat.le_refl _) _
  generalize W.alloc (.cells (cellsOf .i64 (zeros (q + 1))) 3) = W2 at *
  have k4 := keep_cell hbA c4
  have k5 := keep_cell hbA c5
  have g4 := keep_frozen hbA c4 f4
  have g5 := keep_frozen hbA c5 f5
  have hc := hblk.cell q (by rw [zeros_len]; omega)
  have hf := hblk.frozen q
  have hB := bthen hbW hbA
  have hne : w.heap.size ≠ W.heap.size := by omega
  go_wp2
  have hx : Words 65536 ((zeros (q + 1)).set q (2 ^ r)) := (zeros_words (by decide) _).set q (by omega)
  have hl2 : ((zeros (q + 1)).set q (2 ^ r)).length = q + 1 := by rw [List.length_set, zeros_len]
  have hrow := ((((hblk.set q (2 ^ r)).other ⟨w.heap.size, 0, none⟩ (.bool false) hne).other ⟨w.heap.size, 1, none⟩ (.slice (some ⟨W.heap.size, 0, none⟩) (q + 1) (q + 1)) hne).row hx)
  refine bodyPost_ret (v := .agg #[.bool false, .slice (some ⟨W.heap.size, 0, none⟩) (q + 1) (q + 1)]) (by simp [results, Tryz.results119, go_sem, k4, k5]) rfl ⟨_, rfl, ⟨false, _, _, (zeros (q + 1)).set q (2 ^ r), by rw [hl2], ⟨hrow, fun x hx => by cases hx; exact hbW.size⟩, ⟨zeros_set_nrm q _ (by omega), fun h => by cases h⟩, ?_, by rw [hl2]; exact Nat.le_refl _⟩, ((hB.setCell (by exact hbW.size) _).setCell (by simp) _).setCell (by simp) _⟩
  have hnn : n = 16 * q + r := by have := hq.out; have := hr.out; omega
  show val 65536 _ = _
  rw [zeros_set_val, hnn, pow2_digit, Int.mul_comm]
theorem To_num {w : World} {u : Value} {z : Int} {m : Nat} (hu : Rint w u z m) (hm : m ≤ 10000) :
    Calls Tryz.prog 120 #[u] w fun e w' => ∃ t, e = .returned t ∧ OutE w' t z m ∧ Below w.heap.size w w' := by
  obtain ⟨na, x, ca, xs, rfl, ha, hn, rfl, hl⟩ := hu
  refine (To_any na x ca xs w ha hn (by omega)).mono ?_
  rintro e w' ⟨a', cap', rfl, ho, hb⟩
  exact ⟨_, rfl, ⟨_, na, a', cap', paired xs, rfl, ho, ⟨paired_nrm xs ha.words hn.1, fun h => paired_ne xs (hn.2 h)⟩, by simp [num, paired_val], by rw [paired_len]; omega⟩, hb⟩
theorem boxes_torat (w : World) (n1 : Bool) (a1 : Option Addr) (l1 c1 : Nat) (n2 : Bool) (a2 : Option Addr) (l2 c2 : Nat) : ∃ W, W = (w.alloc (.cells #[.bool n1, .slice a1 l1 c1, .bool n2, .slice a2 l2 c2] 40)).alloc (.cells #[.bool false, .slice none 0 0, .bool false, .slice none 0 0] 30) ∧ Below w.heap.size w W ∧
    (W.cell? ⟨w.heap.size, 0, none⟩ = some (.bool n1) ∧ W.cell? ⟨w.heap.size, 1, none⟩ = some (.slice a1 l1 c1) ∧ W.cell? ⟨w.heap.size, 2, none⟩ = some (.bool n2) ∧ W.cell? ⟨w.heap.size, 3, none⟩ = some (.slice a2 l2 c2)) ∧ Box4 W (w.heap.size + 1) := by
  refine ⟨_, rfl, ((Below.refl _ _).alloc (Nat.le_refl _) _).alloc (by simp) _, ⟨?_, ?_, ?_, ?_⟩, ?n0⟩
  case n0 =>
    have h := Box4.new (w.alloc (.cells #[.bool n1, .slice a1 l1 c1, .bool n2, .slice a2 l2 c2] 40)) false none 0 0 false none 0 0 30 (by decide)
    rw [show (w.alloc (.cells #[.bool n1, .slice a1 l1 c1, .bool n2, .slice a2 l2 c2] 40)).heap.size = w.heap.size + 1 from by simp] at h
    exact h
  all_goals simp [go_sem, World.cell?_alloc_past]
set_option maxRecDepth 20000 in
set_option maxHeartbeats 4000000 in
theorem ToRat_num {w : World} {u : Value} {p q : Int} {m : Nat} (hu : RatR w u p q m) (hm : m ≤ 10000) :
    Calls Tryz.prog 69 #[u] w fun e w' => ∃ t, e = .returned t ∧ FracE w' t p q m ∧ Below w.heap.size w w' := by
  obtain ⟨n1, a1, l1, c1, n2, a2, l2, c2, rfl⟩ := hu.form
  obtain ⟨W, hW, hbW, ⟨e0, e1, e2, e3⟩, x0⟩ := boxes_torat w n1 a1 l1 c1 n2 a2 l2 c2
  obtain ⟨hAN, hAD⟩ := (hu.next hbW).parts
  have hD0 : Below W.heap.size W W.drew := (Below.refl _ _).drew
  go_enter Tryz.func69, Tryz.ntmps69
  go_upto_region 1 with fail
  rw [← hW]
  clear hW
  go_region_with (first
    | (go_at_call_of 120 (Value.slice a1 l1 c1); refine Calls.mono (To_num (hAN.next hD0) hm) ?_; rintro e w2 ⟨t, rfl, hO, hb2⟩; obtain ⟨n3, a3, l3, c3, rfl⟩ := hO.num.form; have hB2 : Below W.heap.size W w2 := bthen hD0 hb2; have p2' := keep_cell hB2 e2; have p3' := keep_cell hB2 e3)
    | (go_at_call_of 120 (Value.slice a2 l2 c2); refine Calls.mono (To_num (hAD.next hB2) hm) ?_; rintro e w3 ⟨t, rfl, hP, hb3⟩; obtain ⟨n4, a4, l4, c4, rfl⟩ := hP.num.form; have hB3 : Below W.heap.size W w3 := bthen hB2 hb3; have hO3 := hO.next hb3; have y0 := x0.next hB3; obtain ⟨_, _, _, _, _, _, _, _, j0, j1, j2, j3, f⟩ := y0.cells; have f0 := f 0; have f1 := f 1; have f2 := f 2; have f3 := f 3; clear f))
  all_goals
    have hbx : Hid _ := put4_boxed (base := w.heap.size) y0.noint (by omega) n3 a3 l3 c3 n4 a4 l4 c4
    have hBf := bthen hbW hB3
    have hUf : Hid _ := hbx.out.out hO3
    have hOf : Hid _ := hbx.out.out hP
    clear hO hO3 hP hAN hAD hb2 hB2 hb3 hB3
    go_wp2
    exact bodyPost_ret (v := .agg #[.bool n3, .slice a3 l3 c3, .bool n4, .slice a4 l4 c4]) (by simp [results, Tryz.results69, go_sem, j0, j1, j2, j3]) rfl ⟨_, rfl, ⟨_, _, _, _, _, _, _, _, rfl, hUf.out, hOf.out⟩, hbx.out.keep hBf (Nat.le_refl _) hBf.size⟩
end Go.Proofs.YtclokcoimdjaeaaGreatDoor
namespace Go.Proofs.YtclokcoimdjaeaaGreatDoor
open Go.RowKit
attribute [local go_sem ↓] Go.wp_at_zero Go.wp_at_succ
/-- A number of the second road, of a kind. -/
def CRn (w : World) (v : Value) (k p q : Int) (m : Nat) : Prop :=
  ∃ m1 b1 k1 d1 m2 b2 k2 d2, v = .agg #[.int .i64 k, .bool false, .string ⟨#[]⟩, .bool m1, .slice b1 k1 d1, .bool m2, .slice b2 k2 d2] ∧ RatR w (.agg #[.bool m1, .slice b1 k1 d1, .bool m2, .slice b2 k2 d2]) p q m
theorem CRn.next {w w' : World} {v : Value} {k p q : Int} {m : Nat} (h : CRn w v k p q m) (hb : Below w.heap.size w w') : CRn w' v k p q m := by
  obtain ⟨m1, b1, k1, d1, m2, b2, k2, d2, e, hR⟩ := h
  exact ⟨m1, b1, k1, d1, m2, b2, k2, d2, e, hR.next hb⟩
theorem CRn.more {w : World} {v : Value} {k p q : Int} {m m' : Nat} (h : CRn w v k p q m) (hm : m ≤ m') : CRn w v k p q m' := by
  obtain ⟨m1, b1, k1, d1, m2, b2, k2, d2, e, hR⟩ := h
  exact ⟨m1, b1, k1, d1, m2, b2, k2, d2, e, hR.more hm⟩
theorem CRn.put7 {w : World} {g : Nat} {v0 v1 v2 v3 v4 v5 v6 v : Value} {k p q : Int} {m : Nat} (h : CRn w v k p q m) (hz : ZBox w g) : CRn (put7 w g v0 v1 v2 v3 v4 v5 v6) v k p q m := by
  obtain ⟨m1, b1, k1, d1, m2, b2, k2, d2, e, hR⟩ := h
  exact ⟨m1, b1, k1, d1, m2, b2, k2, d2, e, hR.put7 hz⟩
set_option maxRecDepth 20000 in
set_option maxHeartbeats 2000000 in
theorem Num57_any (w : World) (k : Int) (b : Bool) (s : ByteArray) (m1 : Bool) (b1 : Option Addr) (k1 d1 : Nat) (m2 : Bool) (b2 : Option Addr) (k2 d2 : Nat) (B : Bool) (hB : (decide (k = 3) || decide (k = 4)) = B) :
    Calls Tryz.prog 57 #[.agg #[.int .i64 k, .bool b, .string s, .bool m1, .slice b1 k1 d1, .bool m2, .slice b2 k2 d2]] w fun e w' => e = .returned (.bool B) ∧ Below w.heap.size w w' := by
  obtain ⟨W, hW⟩ : ∃ W, W = w.alloc (.cells #[.int .i64 k, .bool b, .string s, .bool m1, .slice b1 k1 d1, .bool m2, .slice b2 k2 d2] 42) := ⟨_, rfl⟩
  have hbW : Hid (Below w.heap.size w W) := by show Below _ _ _; rw [hW]; exact (Below.refl _ _).alloc (Nat.le_refl _) _
  have hqW : W.heap[w.heap.size]? = some (.cells #[.int .i64 k, .bool b, .string s, .bool m1, .slice b1 k1 d1, .bool m2, .slice b2 k2 d2] 42 (0, 0)) := by rw [hW]; exact newAt _ _
  obtain ⟨⟨p0, p1, p2, p3, p4, p5, p6⟩, _, _⟩ := cells7 hqW
  clear hqW
  by_cases h3 : k = 3
  · subst h3
    subst hB
    go_enter Tryz.func57, Tryz.ntmps57
    go_upto_region 1 with fail
    rw [← hW]
    clear hW
    go_wp2
    exact bodyPost_ret (v := .bool true) (by simp [results, Tryz.results57, go_sem]) rfl ⟨rfl, hbW.out⟩
  · have e3 : (k == 3) = false := by rw [beq_eq_false_iff_ne]; exact h3
    rw [decide_eq_false h3] at hB
    by_cases h4 : k = 4
    · subst h4
      subst hB
      go_enter Tryz.func57, Tryz.ntmps57
      go_upto_region 1 with fail
      rw [← hW]
      clear hW
      go_wp2
      exact bodyPost_ret (v := .bool true) (by simp [results, Tryz.results57, go_sem]) rfl ⟨rfl, hbW.out⟩
    · have e4 : (k == 4) = false := by rw [beq_eq_false_iff_ne]; exact h4
      rw [decide_eq_false h4] at hB
      subst hB
      clear h3 h4
      go_enter Tryz.func57, Tryz.ntmps57
      go_upto_region 1 with fail
      rw [← hW]
      clear hW
      go_wp2
      exact bodyPost_ret (v := .bool false) (by simp [results, Tryz.results57, go_sem]) rfl ⟨rfl, hbW.out⟩
set_option maxRecDepth 20000 in
set_option maxHeartbeats 2000000 in
theorem Int29_any (n : Int) (w : World) (h0 : -9223372036854775808 ≤ n) (h1 : n ≤ 9223372036854775807) :
    Calls Tryz.prog 29 #[.int .i64 n] w fun e w' => ∃ t, e = .returned t ∧ CRn w' t 3 n 1 8 ∧ Below w.heap.size w w' := by
  obtain ⟨W, hW⟩ : ∃ W, W = w.alloc (.cells #[.int .i64 0, .bool false, .string ⟨#[]⟩, .bool false, .slice none 0 0, .bool false, .slice none 0 0] 42) := ⟨_, rfl⟩
  have hbW : Below w.heap.size w W := by rw [hW]; exact (Below.refl _ _).alloc (Nat.le_refl _) _
  have hq : W.heap[w.heap.size]? = some (.cells #[.int .i64 0, .bool false, .string ⟨#[]⟩, .bool false, .slice none 0 0, .bool false, .slice none 0 0] 42 (0, 0)) := by rw [hW]; exact newAt _ _
  have kA : Hid (Calls Tryz.prog 68 #[.int .i64 n] W _) := rOf_any n W h0 h1
  have hall : Hid (Below w.heap.size w W ∧ W.heap[w.heap.size]? = some (.cells #[.int .i64 0, .bool false, .string ⟨#[]⟩, .bool false, .slice none 0 0, .bool false, .slice none 0 0] 42 (0, 0))) := ⟨hbW, hq⟩
  clear hbW hq
  go_enter Tryz.func29, Tryz.ntmps29
  go_upto_region 1 with fail
  rw [← hW]
  clear hW
  go_wp2_with fail
  refine Calls.mono kA.out ?_
  clear kA
  rintro e w1 ⟨u, rfl, hO, hb1⟩
  have hR := hO.rint
  obtain ⟨ng, a, l, c, rfl⟩ := hR.form
  have kB : Hid (Calls Tryz.prog 67 #[.agg #[.bool ng, .slice a l c]] w1 _) := rWhole_num hR
  have hb1h : Hid (Below W.heap.size W w1) := hb1
  clear hO hR hb1
  go_wp2_with fail
  refine Calls.mono kB.out ?_
  clear kB
  rintro e w2 ⟨t, rfl, hR, hb2⟩
  obtain ⟨m1, b1, k1, d1, m2, b2, k2, d2, rfl⟩ := hR.form
  have hX : Below W.heap.size W w2 := bthen hb1h.out hb2
  have q2 := keep_heap hX hall.out.2
  have hB2 : Hid (Below w.heap.size w w2) := bthen hall.out.1 hX
  obtain ⟨⟨r0, r1, r2, r3, r4, r5, r6⟩, rf, _⟩ := cells7 q2
  have rf0 := rf 0
  have rf1 := rf 1
  have rf2 := rf 2
  have rf3 := rf 3
  have rf4 := rf 4
  have rf5 := rf 5
  have rf6 := rf 6
  obtain ⟨W8, hW8⟩ : ∃ W8, W8 = put7 w2 (w.heap.size) (.int .i64 3) (.bool false) (.string ⟨#[]⟩) (.bool m1) (.slice b1 k1 d1) (.bool m2) (.slice b2 k2 d2) := ⟨_, rfl⟩
  have hqW8 : Hid (W8.heap[w.heap.size]? = some (.cells #[.int .i64 3, .bool false, .string ⟨#[]⟩, .bool m1, .slice b1 k1 d1, .bool m2, .slice b2 k2 d2] 42 (0, 0))) := by show _ = _; rw [hW8]; exact put7_at q2
  have hBW8 : Hid (Below w.heap.size w W8 ∧ CRn W8 (.agg #[.int .i64 3, .bool false, .string ⟨#[]⟩, .bool m1, .slice b1 k1 d1, .bool m2, .slice b2 k2 d2]) 3 n 1 8) := by
    show _ ∧ _
    rw [hW8]
    exact ⟨put7_below hB2.out (Nat.le_refl _), CRn.put7 ⟨_, _, _, _, _, _, _, _, rfl, hR.more (by decide)⟩ ⟨_, _, _, _, _, _, _, _, _, _, _, q2⟩⟩
  clear q2 rf hX hR hb2 hB2 hb1h hall
  go_wp2
  unfold put7 at hW8
  rw [← hW8]
  obtain ⟨⟨j0, j1, j2, j3, j4, j5, j6⟩, _, _⟩ := cells7 hqW8.out
  exact bodyPost_ret (v := .agg #[.int .i64 3, .bool false, .string ⟨#[]⟩, .bool m1, .slice b1 k1 d1, .bool m2, .slice b2 k2 d2]) (by simp [results, Tryz.results29, go_sem, j0, j1, j2, j3, j4, j5, j6]) rfl ⟨_, rfl, hBW8.out.2, hBW8.out.1⟩
end Go.Proofs.YtclokcoimdjaeaaGreatDoor
namespace Go.Proofs.YtclokcoimdjaeaaGreatDoor
open Go.RowKit
attribute [local go_sem ↓] Go.wp_at_zero Go.wp_at_succ
theorem Rint.more {w : World} {v : Value} {z : Int} {n m : Nat} (h : Rint w v z n) (hm : n ≤ m) : Rint w v z m := by
  obtain ⟨neg, a, cap, ds, e, hr, hn, hz, hl⟩ := h
  exact ⟨neg, a, cap, ds, e, hr, hn, hz, by omega⟩
set_option maxRecDepth 20000 in
set_option maxHeartbeats 2000000 in
theorem range_int (w : World) : Calls Tryz.prog 64 #[.string ⟨#[105, 110, 116]⟩] w fun e w' => ∃ u v, e = .returned (.tuple #[u, v, .bool true]) ∧ Rint w' u (-9223372036854775808) 20 ∧ Rint w' v (9223372036854775807) 20 ∧ Below w.heap.size w w' := by
  obtain ⟨LO, hLO⟩ : ∃ LO : Int, LO = -9223372036854775808 := ⟨_, rfl⟩
  obtain ⟨HI, hHI⟩ : ∃ HI : Int, HI = 9223372036854775807 := ⟨_, rfl⟩
  rw [← hLO, ← hHI]
  have hLh : Hid (LO = -9223372036854775808 ∧ HI = 9223372036854775807) := ⟨hLO, hHI⟩
  clear hLO hHI
  obtain ⟨W, hW, hq2, hq3, hbW, hsz⟩ := two_new2 (w := w) (A := .cells #[.bool false, .slice none 0 0] 38) (B := .cells #[.bool false, .slice none 0 0] 38)
  have hall : Hid (Below w.heap.size w W ∧ W.heap.size = w.heap.size + 1 + 1 ∧ W.heap[w.heap.size]? = some (.cells #[.bool false, .slice none 0 0] 38 (0, 0)) ∧ W.heap[w.heap.size + 1]? = some (.cells #[.bool false, .slice none 0 0] 38 (0, 0))) := ⟨hbW, hsz, hq2, hq3⟩
  have kA : Hid (Calls Tryz.prog 68 #[.int .i64 (-9223372036854775808)] W _) := rOf_any (-9223372036854775808) W (by decide) (by decide)
  clear hq2 hq3 hbW hsz
  go_enter Tryz.func64, Tryz.ntmps64
  go_upto_region 1 with fail
  rw [← hW]
  clear hW
  go_wp2_with fail
  refine Calls.mono kA.out ?_
  clear kA
  rintro e w1 ⟨t1, rfl, hO1, hb1⟩
  have hR1 := hO1.rint
  obtain ⟨g1, f1, e1, h1, rfl⟩ := hR1.form
  have hN1 : Hid (Rint w1 (.agg #[.bool g1, .slice f1 e1 h1]) LO 20) := by show Rint _ _ _ _; rw [hLh.out.1]; exact hR1.more (by decide)
  have hb1h : Hid (Below W.heap.size W w1) := hb1
  clear hO1 hb1 hR1
  have kB : Hid (Calls Tryz.prog 68 #[.int .i64 9223372036854775807] w1 fun e w' => ∃ v, e = .returned v ∧ Rout w' w1.heap.size v 9223372036854775807 4 ∧ Below w1.heap.size w1 w') := rOf_any 9223372036854775807 w1 (by decide) (by decide)
  go_wp2_with fail
  refine Calls.mono kB.out ?_
  clear kB
  rintro e w2 ⟨t2, rfl, hO2, hb2⟩
  have hR2 := hO2.rint
  obtain ⟨g2, f2, e2, h2, rfl⟩ := hR2.form
  have hN2 : Rint w2 (.agg #[.bool g2, .slice f2 e2 h2]) HI 20 := by rw [hLh.out.2]; exact hR2.more (by decide)
  have hN1' := Rint.next hN1.out hb2
  have hX : Below W.heap.size W w2 := bthen hb1h.out hb2
  clear hO2 hb2 hb1h hN1 hR2
  have hs := hall.out.2.1
  have hqa := (hX.block _ (by omega)).trans hall.out.2.2.1
  have hqb := (hX.block _ (by omega)).trans hall.out.2.2.2
  obtain ⟨⟨r0, r1⟩, rf, _⟩ := cells2 hqa
  obtain ⟨⟨s0, s1⟩, sf, _⟩ := cells2 hqb
  have rf0 := rf 0
  have rf1 := rf 1
  have sf0 := sf 0
  have sf1 := sf 1
  obtain ⟨W8, hW8⟩ : ∃ W8, W8 = (((w2.setCell ⟨w.heap.size, 0, none⟩ (.bool g1)).setCell ⟨w.heap.size, 1, none⟩ (.slice f1 e1 h1)).setCell ⟨w.heap.size + 1, 0, none⟩ (.bool g2)).setCell ⟨w.heap.size + 1, 1, none⟩ (.slice f2 e2 h2) := ⟨_, rfl⟩
  have hga : NoInt w2 w.heap.size := ⟨_, _, _, hqa, by decide, two_notInt (notInt_bool _) (notInt_slice _ _ _)⟩
  have hgb : NoInt w2 (w.heap.size + 1) := ⟨_, _, _, hqb, by decide, two_notInt (notInt_bool _) (notInt_slice _ _ _)⟩
  have hbx : Boxed w.heap.size w2 W8 := by rw [hW8]; exact put22 hga hgb (Nat.le_refl _) (by omega) _ _ _ _ _ _ _ _
  have hf : Hid (Rint W8 (.agg #[.bool g1, .slice f1 e1 h1]) LO 20 ∧ Rint W8 (.agg #[.bool g2, .slice f2 e2 h2]) HI 20 ∧ Below w.heap.size w W8) := ⟨hbx.rint hN1', hbx.rint hN2, hbx.keep (hall.out.1.trans (hX.mono (by omega))) (Nat.le_refl _) (by have := hX.size; omega)⟩
  have hj : Hid (W8.cell? ⟨w.heap.size, 0, none⟩ = some (.bool g1) ∧ W8.cell? ⟨w.heap.size, 1, none⟩ = some (.slice f1 e1 h1) ∧ W8.cell? ⟨w.heap.size + 1, 0, none⟩ = some (.bool g2) ∧ W8.cell? ⟨w.heap.size + 1, 1, none⟩ = some (.slice f2 e2 h2)) := by
    show _ ∧ _ ∧ _ ∧ _
    rw [hW8]
    refine ⟨?_, ?_, ?_, ?_⟩ <;> simp [go_sem, r0, r1, s0, s1]
  clear hqa hqb rf sf hga hgb hbx hs hall hN1' hN2 hX
  go_wp2
  rw [← hW8]
  obtain ⟨j0, j1, j2, j3⟩ := hj.out
  exact bodyPost_ret (v := .tuple #[.agg #[.bool g1, .slice f1 e1 h1], .agg #[.bool g2, .slice f2 e2 h2], .bool true]) (by simp [results, Tryz.results64, go_sem, j0, j1, j2, j3]) rfl ⟨_, _, rfl, hf.out.1, hf.out.2.1, hf.out.2.2⟩
set_option maxRecDepth 20000 in
set_option maxHeartbeats 2000000 in
theorem range_int8 (w : World) : Calls Tryz.prog 64 #[.string ⟨#[105, 110, 116, 56]⟩] w fun e w' => ∃ u v, e = .returned (.tuple #[u, v, .bool true]) ∧ Rint w' u (-128) 20 ∧ Rint w' v (127) 20 ∧ Below w.heap.size w w' := by
  obtain ⟨LO, hLO⟩ : ∃ LO : Int, LO = -128 := ⟨_, rfl⟩
  obtain ⟨HI, hHI⟩ : ∃ HI : Int, HI = 127 := ⟨_, rfl⟩
  rw [← hLO, ← hHI]
  have hLh : Hid (LO = -128 ∧ HI = 127) := ⟨hLO, hHI⟩
  clear hLO hHI
  obtain ⟨W, hW, hq2, hq3, hbW, hsz⟩ := two_new2 (w := w) (A := .cells #[.bool false, .slice none 0 0] 38) (B := .cells #[.bool false, .slice none 0 0] 38)
  have hall : Hid (Below w.heap.size w W ∧ W.heap.size = w.heap.size + 1 + 1 ∧ W.heap[w.heap.size]? = some (.cells #[.bool false, .slice none 0 0] 38 (0, 0)) ∧ W.heap[w.heap.size + 1]? = some (.cells #[.bool false, .slice none 0 0] 38 (0, 0))) := ⟨hbW, hsz, hq2, hq3⟩
  have kA : Hid (Calls Tryz.prog 68 #[.int .i64 (-128)] W _) := rOf_any (-128) W (by decide) (by decide)
  clear hq2 hq3 hbW hsz
  go_enter Tryz.func64, Tryz.ntmps64
  go_upto_region 1 with fail
  rw [← hW]
  clear hW
  go_wp2_with fail
  refine Calls.mono kA.out ?_
  clear kA
  rintro e w1 ⟨t1, rfl, hO1, hb1⟩
  have hR1 := hO1.rint
  obtain ⟨g1, f1, e1, h1, rfl⟩ := hR1.form
  have hN1 : Hid (Rint w1 (.agg #[.bool g1, .slice f1 e1 h1]) LO 20) := by show Rint _ _ _ _; rw [hLh.out.1]; exact hR1.more (by decide)
  have hb1h : Hid (Below W.heap.size W w1) := hb1
  clear hO1 hb1 hR1
  have kB : Hid (Calls Tryz.prog 68 #[.int .i64 127] w1 fun e w' => ∃ v, e = .returned v ∧ Rout w' w1.heap.size v 127 4 ∧ Below w1.heap.size w1 w') := rOf_any 127 w1 (by decide) (by decide)
  go_wp2_with fail
  refine Calls.mono kB.out ?_
  clear kB
  rintro e w2 ⟨t2, rfl, hO2, hb2⟩
  have hR2 := hO2.rint
  obtain ⟨g2, f2, e2, h2, rfl⟩ := hR2.form
  have hN2 : Rint w2 (.agg #[.bool g2, .slice f2 e2 h2]) HI 20 := by rw [hLh.out.2]; exact hR2.more (by decide)
  have hN1' := Rint.next hN1.out hb2
  have hX : Below W.heap.size W w2 := bthen hb1h.out hb2
  clear hO2 hb2 hb1h hN1 hR2
  have hs := hall.out.2.1
  have hqa := (hX.block _ (by omega)).trans hall.out.2.2.1
  have hqb := (hX.block _ (by omega)).trans hall.out.2.2.2
  obtain ⟨⟨r0, r1⟩, rf, _⟩ := cells2 hqa
  obtain ⟨⟨s0, s1⟩, sf, _⟩ := cells2 hqb
  have rf0 := rf 0
  have rf1 := rf 1
  have sf0 := sf 0
  have sf1 := sf 1
  obtain ⟨W8, hW8⟩ : ∃ W8, W8 = (((w2.setCell ⟨w.heap.size, 0, none⟩ (.bool g1)).setCell ⟨w.heap.size, 1, none⟩ (.slice f1 e1 h1)).setCell ⟨w.heap.size + 1, 0, none⟩ (.bool g2)).setCell ⟨w.heap.size + 1, 1, none⟩ (.slice f2 e2 h2) := ⟨_, rfl⟩
  have hga : NoInt w2 w.heap.size := ⟨_, _, _, hqa, by decide, two_notInt (notInt_bool _) (notInt_slice _ _ _)⟩
  have hgb : NoInt w2 (w.heap.size + 1) := ⟨_, _, _, hqb, by decide, two_notInt (notInt_bool _) (notInt_slice _ _ _)⟩
  have hbx : Boxed w.heap.size w2 W8 := by rw [hW8]; exact put22 hga hgb (Nat.le_refl _) (by omega) _ _ _ _ _ _ _ _
  have hf : Hid (Rint W8 (.agg #[.bool g1, .slice f1 e1 h1]) LO 20 ∧ Rint W8 (.agg #[.bool g2, .slice f2 e2 h2]) HI 20 ∧ Below w.heap.size w W8) := ⟨hbx.rint hN1', hbx.rint hN2, hbx.keep (hall.out.1.trans (hX.mono (by omega))) (Nat.le_refl _) (by have := hX.size; omega)⟩
  have hj : Hid (W8.cell? ⟨w.heap.size, 0, none⟩ = some (.bool g1) ∧ W8.cell? ⟨w.heap.size, 1, none⟩ = some (.slice f1 e1 h1) ∧ W8.cell? ⟨w.heap.size + 1, 0, none⟩ = some (.bool g2) ∧ W8.cell? ⟨w.heap.size + 1, 1, none⟩ = some (.slice f2 e2 h2)) := by
    show _ ∧ _ ∧ _ ∧ _
    rw [hW8]
    refine ⟨?_, ?_, ?_, ?_⟩ <;> simp [go_sem, r0, r1, s0, s1]
  clear hqa hqb rf sf hga hgb hbx hs hall hN1' hN2 hX
  go_wp2
  rw [← hW8]
  obtain ⟨j0, j1, j2, j3⟩ := hj.out
  exact bodyPost_ret (v := .tuple #[.agg #[.bool g1, .slice f1 e1 h1], .agg #[.bool g2, .slice f2 e2 h2], .bool true]) (by simp [results, Tryz.results64, go_sem, j0, j1, j2, j3]) rfl ⟨_, _, rfl, hf.out.1, hf.out.2.1, hf.out.2.2⟩
set_option maxRecDepth 20000 in
set_option maxHeartbeats 2000000 in
theorem range_uint8 (w : World) : Calls Tryz.prog 64 #[.string ⟨#[117, 105, 110, 116, 56]⟩] w fun e w' => ∃ u v, e = .returned (.tuple #[u, v, .bool true]) ∧ Rint w' u (0) 20 ∧ Rint w' v (255) 20 ∧ Below w.heap.size w w' := by
  obtain ⟨LO, hLO⟩ : ∃ LO : Int, LO = 0 := ⟨_, rfl⟩
  obtain ⟨HI, hHI⟩ : ∃ HI : Int, HI = 255 := ⟨_, rfl⟩
  rw [← hLO, ← hHI]
  have hLh : Hid (LO = 0 ∧ HI = 255) := ⟨hLO, hHI⟩
  clear hLO hHI
  obtain ⟨W, hW, hq2, hq3, hbW, hsz⟩ := two_new2 (w := w) (A := .cells #[.bool false, .slice none 0 0] 38) (B := .cells #[.bool false, .slice none 0 0] 38)
  have hall : Hid (Below w.heap.size w W ∧ W.heap.size = w.heap.size + 1 + 1 ∧ W.heap[w.heap.size]? = some (.cells #[.bool false, .slice none 0 0] 38 (0, 0)) ∧ W.heap[w.heap.size + 1]? = some (.cells #[.bool false, .slice none 0 0] 38 (0, 0))) := ⟨hbW, hsz, hq2, hq3⟩
  have kA : Hid (Calls Tryz.prog 68 #[.int .i64 (0)] W _) := rOf_any (0) W (by decide) (by decide)
  clear hq2 hq3 hbW hsz
  go_enter Tryz.func64, Tryz.ntmps64
  go_upto_region 1 with fail
  rw [← hW]
  clear hW
  go_wp2_with fail
  refine Calls.mono kA.out ?_
  clear kA
  rintro e w1 ⟨t1, rfl, hO1, hb1⟩
  have hR1 := hO1.rint
  obtain ⟨g1, f1, e1, h1, rfl⟩ := hR1.form
  have hN1 : Hid (Rint w1 (.agg #[.bool g1, .slice f1 e1 h1]) LO 20) := by show Rint _ _ _ _; rw [hLh.out.1]; exact hR1.more (by decide)
  have hb1h : Hid (Below W.heap.size W w1) := hb1
  clear hO1 hb1 hR1
  have kB : Hid (Calls Tryz.prog 68 #[.int .i64 255] w1 fun e w' => ∃ v, e = .returned v ∧ Rout w' w1.heap.size v 255 4 ∧ Below w1.heap.size w1 w') := rOf_any 255 w1 (by decide) (by decide)
  go_wp2_with fail
  refine Calls.mono kB.out ?_
  clear kB
  rintro e w2 ⟨t2, rfl, hO2, hb2⟩
  have hR2 := hO2.rint
  obtain ⟨g2, f2, e2, h2, rfl⟩ := hR2.form
  have hN2 : Rint w2 (.agg #[.bool g2, .slice f2 e2 h2]) HI 20 := by rw [hLh.out.2]; exact hR2.more (by decide)
  have hN1' := Rint.next hN1.out hb2
  have hX : Below W.heap.size W w2 := bthen hb1h.out hb2
  clear hO2 hb2 hb1h hN1 hR2
  have hs := hall.out.2.1
  have hqa := (hX.block _ (by omega)).trans hall.out.2.2.1
  have hqb := (hX.block _ (by omega)).trans hall.out.2.2.2
  obtain ⟨⟨r0, r1⟩, rf, _⟩ := cells2 hqa
  obtain ⟨⟨s0, s1⟩, sf, _⟩ := cells2 hqb
  have rf0 := rf 0
  have rf1 := rf 1
  have sf0 := sf 0
  have sf1 := sf 1
  obtain ⟨W8, hW8⟩ : ∃ W8, W8 = (((w2.setCell ⟨w.heap.size, 0, none⟩ (.bool g1)).setCell ⟨w.heap.size, 1, none⟩ (.slice f1 e1 h1)).setCell ⟨w.heap.size + 1, 0, none⟩ (.bool g2)).setCell ⟨w.heap.size + 1, 1, none⟩ (.slice f2 e2 h2) := ⟨_, rfl⟩
  have hga : NoInt w2 w.heap.size := ⟨_, _, _, hqa, by decide, two_notInt (notInt_bool _) (notInt_slice _ _ _)⟩
  have hgb : NoInt w2 (w.heap.size + 1) := ⟨_, _, _, hqb, by decide, two_notInt (notInt_bool _) (notInt_slice _ _ _)⟩
  have hbx : Boxed w.heap.size w2 W8 := by rw [hW8]; exact put22 hga hgb (Nat.le_refl _) (by omega) _ _ _ _ _ _ _ _
  have hf : Hid (Rint W8 (.agg #[.bool g1, .slice f1 e1 h1]) LO 20 ∧ Rint W8 (.agg #[.bool g2, .slice f2 e2 h2]) HI 20 ∧ Below w.heap.size w W8) := ⟨hbx.rint hN1', hbx.rint hN2, hbx.keep (hall.out.1.trans (hX.mono (by omega))) (Nat.le_refl _) (by have := hX.size; omega)⟩
  have hj : Hid (W8.cell? ⟨w.heap.size, 0, none⟩ = some (.bool g1) ∧ W8.cell? ⟨w.heap.size, 1, none⟩ = some (.slice f1 e1 h1) ∧ W8.cell? ⟨w.heap.size + 1, 0, none⟩ = some (.bool g2) ∧ W8.cell? ⟨w.heap.size + 1, 1, none⟩ = some (.slice f2 e2 h2)) := by
    show _ ∧ _ ∧ _ ∧ _
    rw [hW8]
    refine ⟨?_, ?_, ?_, ?_⟩ <;> simp [go_sem, r0, r1, s0, s1]
  clear hqa hqb rf sf hga hgb hbx hs hall hN1' hN2 hX
  go_wp2
  rw [← hW8]
  obtain ⟨j0, j1, j2, j3⟩ := hj.out
  exact bodyPost_ret (v := .tuple #[.agg #[.bool g1, .slice f1 e1 h1], .agg #[.bool g2, .slice f2 e2 h2], .bool true]) (by simp [results, Tryz.results64, go_sem, j0, j1, j2, j3]) rfl ⟨_, _, rfl, hf.out.1, hf.out.2.1, hf.out.2.2⟩
set_option maxRecDepth 20000 in
set_option maxHeartbeats 2000000 in
theorem range_uint (w : World) : Calls Tryz.prog 64 #[.string ⟨#[117, 105, 110, 116]⟩] w fun e w' => ∃ u v, e = .returned (.tuple #[u, v, .bool true]) ∧ Rint w' u (0) 20 ∧ Rint w' v (18446744073709551615) 20 ∧ Below w.heap.size w w' := by
  obtain ⟨LO, hLO⟩ : ∃ LO : Int, LO = 0 := ⟨_, rfl⟩
  obtain ⟨HI, hHI⟩ : ∃ HI : Int, HI = 18446744073709551615 := ⟨_, rfl⟩
  rw [← hLO, ← hHI]
  have hLh : Hid (LO = 0 ∧ HI = 18446744073709551615) := ⟨hLO, hHI⟩
  clear hLO hHI
  obtain ⟨W, hW, hq2, hq3, hbW, hsz⟩ := two_new2 (w := w) (A := .cells #[.bool false, .slice none 0 0] 38) (B := .cells #[.bool false, .slice none 0 0] 38)
  have hall : Hid (Below w.heap.size w W ∧ W.heap.size = w.heap.size + 1 + 1 ∧ W.heap[w.heap.size]? = some (.cells #[.bool false, .slice none 0 0] 38 (0, 0)) ∧ W.heap[w.heap.size + 1]? = some (.cells #[.bool false, .slice none 0 0] 38 (0, 0))) := ⟨hbW, hsz, hq2, hq3⟩
  have kA : Hid (Calls Tryz.prog 68 #[.int .i64 (0)] W _) := rOf_any (0) W (by decide) (by decide)
  clear hq2 hq3 hbW hsz
  go_enter Tryz.func64, Tryz.ntmps64
  go_upto_region 1 with fail
  rw [← hW]
  clear hW
  go_wp2_with fail
  refine Calls.mono kA.out ?_
  clear kA
  rintro e w1 ⟨t1, rfl, hO1, hb1⟩
  have hR1 := hO1.rint
  obtain ⟨g1, f1, e1, h1, rfl⟩ := hR1.form
  have hN1 : Hid (Rint w1 (.agg #[.bool g1, .slice f1 e1 h1]) LO 20) := by show Rint _ _ _ _; rw [hLh.out.1]; exact hR1.more (by decide)
  have hb1h : Hid (Below W.heap.size W w1) := hb1
  clear hO1 hb1 hR1
  have kB : Hid (Calls Tryz.prog 119 #[.int .i64 64] w1 fun e w' => ∃ v, e = .returned v ∧ Rout w' w1.heap.size v (2 ^ 64) (64 / 16 + 1) ∧ Below w1.heap.size w1 w') := Power2_any 64 w1 (by decide)
  go_wp2_with fail
  refine Calls.mono kB.out ?_
  clear kB
  rintro e w2 ⟨t2, rfl, hO2, hb2⟩
  have hR2 := hO2.rint
  obtain ⟨g2, f2, e2, h2, rfl⟩ := hR2.form
  have hR2h : Hid (Rint w2 (.agg #[.bool g2, .slice f2 e2 h2]) (2 ^ 64) 5) := hR2
  replace hN1 : Hid (Rint w2 (.agg #[.bool g1, .slice f1 e1 h1]) LO 20) := Rint.next hN1.out hb2
  replace hb1h : Hid (Below W.heap.size W w2) := bthen hb1h.out hb2
  clear hO2 hb2 hR2
  have kC : Hid (Calls Tryz.prog 68 #[.int .i64 1] w2 fun e w' => ∃ v, e = .returned v ∧ Rout w' w2.heap.size v 1 4 ∧ Below w2.heap.size w2 w') := rOf_any 1 w2 (by decide) (by decide)
  go_wp2_with fail
  refine Calls.mono kC.out ?_
  clear kC
  rintro e w3 ⟨t3, rfl, hO3, hb3⟩
  have hR3 := hO3.rint
  obtain ⟨g3, f3, e3, h3, rfl⟩ := hR3.form
  have kD : Hid (Calls Tryz.prog 118 #[.agg #[.bool g2, .slice f2 e2 h2], .agg #[.bool g3, .slice f3 e3 h3]] w3 _) := rSub_num (Rint.next hR2h.out hb3) hR3 (by decide) (by decide)
  replace hN1 : Hid (Rint w3 (.agg #[.bool g1, .slice f1 e1 h1]) LO 20) := Rint.next hN1.out hb3
  replace hb1h : Hid (Below W.heap.size W w3) := bthen hb1h.out hb3
  clear hO3 hb3 hR3 hR2h
  go_wp2_with fail
  refine Calls.mono kD.out ?_
  clear kD
  rintro e w4 ⟨t4, rfl, hR4, hb4⟩
  replace hR4 : Rint w4 t4 (2 ^ 64 - 1) (max 5 4 + 1) := hR4
  obtain ⟨g4, f4, e4, h4, rfl⟩ := hR4.form
  have hN2 : Rint w4 (.agg #[.bool g4, .slice f4 e4 h4]) HI 20 := by rw [hLh.out.2]; exact hR4.more (by decide)
  have hN1' := Rint.next hN1.out hb4
  have hX : Below W.heap.size W w4 := bthen hb1h.out hb4
  clear hb4 hb1h hN1 hR4
  have hs := hall.out.2.1
  have hqa := (hX.block _ (by omega)).trans hall.out.2.2.1
  have hqb := (hX.block _ (by omega)).trans hall.out.2.2.2
  obtain ⟨⟨r0, r1⟩, rf, _⟩ := cells2 hqa
  obtain ⟨⟨s0, s1⟩, sf, _⟩ := cells2 hqb
  have rf0 := rf 0
  have rf1 := rf 1
  have sf0 := sf 0
  have sf1 := sf 1
  obtain ⟨W8, hW8⟩ : ∃ W8, W8 = (((w4.setCell ⟨w.heap.size, 0, none⟩ (.bool g1)).setCell ⟨w.heap.size, 1, none⟩ (.slice f1 e1 h1)).setCell ⟨w.heap.size + 1, 0, none⟩ (.bool g4)).setCell ⟨w.heap.size + 1, 1, none⟩ (.slice f4 e4 h4) := ⟨_, rfl⟩
  have hga : NoInt w4 w.heap.size := ⟨_, _, _, hqa, by decide, two_notInt (notInt_bool _) (notInt_slice _ _ _)⟩
  have hgb : NoInt w4 (w.heap.size + 1) := ⟨_, _, _, hqb, by decide, two_notInt (notInt_bool _) (notInt_slice _ _ _)⟩
  have hbx : Boxed w.heap.size w4 W8 := by rw [hW8]; exact put22 hga hgb (Nat.le_refl _) (by omega) _ _ _ _ _ _ _ _
  have hf : Hid (Rint W8 (.agg #[.bool g1, .slice f1 e1 h1]) LO 20 ∧ Rint W8 (.agg #[.bool g4, .slice f4 e4 h4]) HI 20 ∧ Below w.heap.size w W8) := ⟨hbx.rint hN1', hbx.rint hN2, hbx.keep (hall.out.1.trans (hX.mono (by omega))) (Nat.le_refl _) (by have := hX.size; omega)⟩
  have hj : Hid (W8.cell? ⟨w.heap.size, 0, none⟩ = some (.bool g1) ∧ W8.cell? ⟨w.heap.size, 1, none⟩ = some (.slice f1 e1 h1) ∧ W8.cell? ⟨w.heap.size + 1, 0, none⟩ = some (.bool g4) ∧ W8.cell? ⟨w.heap.size + 1, 1, none⟩ = some (.slice f4 e4 h4)) := by
    show _ ∧ _ ∧ _ ∧ _
    rw [hW8]
    refine ⟨?_, ?_, ?_, ?_⟩ <;> simp [go_sem, r0, r1, s0, s1]
  clear hqa hqb rf sf hga hgb hbx hs hall hN1' hN2 hX
  go_wp2
  rw [← hW8]
  obtain ⟨j0, j1, j2, j3⟩ := hj.out
  exact bodyPost_ret (v := .tuple #[.agg #[.bool g1, .slice f1 e1 h1], .agg #[.bool g4, .slice f4 e4 h4], .bool true]) (by simp [results, Tryz.results64, go_sem, j0, j1, j2, j3]) rfl ⟨_, _, rfl, hf.out.1, hf.out.2.1, hf.out.2.2⟩
end Go.Proofs.YtclokcoimdjaeaaGreatDoor
