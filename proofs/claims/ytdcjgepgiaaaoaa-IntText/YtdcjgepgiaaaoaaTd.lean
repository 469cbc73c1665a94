/- The second road's Digit and Of. -/
import Derived.Test.YtdcjgepgiaaaoaaPb
import Derived.Test.YtdcjgepgiaaaoaaRq
import Derived.Test.YtdcjgepgiaaaoaaTi
namespace Go.Proofs.Ytdcjgepgiaaaoaa
open Go.RowKit
attribute [local go_sem ↓] Go.wp_at_zero Go.wp_at_succ
/-- The digit of a byte; -1: none. -/
def digR (c : Int) : Int := if 48 ≤ c ∧ c ≤ 57 then c - 48 else if 97 ≤ c ∧ c ≤ 102 then c - 87 else if 65 ≤ c ∧ c ≤ 70 then c - 55 else -1
theorem digR_eq (c : Int) : digR c = if digitI c = 16 then -1 else digitI c := by
  unfold digR digitI; repeat' split <;> omega
set_option maxHeartbeats 400000 in
theorem Digit_any (c : Int) (w : World) (h0 : 0 ≤ c) (h1 : c ≤ 255) : Calls Try.prog 65 #[.int .u8 c] w fun e w' => e = .returned (.int .i64 (digR c)) ∧ w' = w := by
  unfold digR
  go_enter Try.func65, Try.ntmps65
  go_wp2
  all_goals (go_ret; exact ⟨ret_int (by omega), rfl⟩)
theorem of_step {ds : List Int} {k : Nat} {n q r N : Int} (hk : ds.length = k) (hn : n = 65536 * q + r) (hv : val 65536 ds + n * 65536 ^ k = N) : val 65536 (ds ++ [r]) + q * 65536 ^ (k + 1) = N := by
  rw [val_append, hk, ← hv, hn, Int.pow_succ, Int.add_mul, Int.mul_assoc, Int.mul_comm (65536 ^ k) 65536, ← Int.mul_assoc q, Int.mul_comm q 65536, Int.mul_assoc 65536]
  simp only [val]
  rw [Int.mul_comm (65536 ^ k)]
  simp
  omega
set_option maxHeartbeats 2000000 in
set_option maxRecDepth 20000 in
theorem rOf_any (n0 : Int) (w : World) (h0 : -9223372036854775808 ≤ n0) (h1 : n0 ≤ 9223372036854775807) :
    Calls Try.prog 36 #[.int .i64 n0] w fun e w' => ∃ v, e = .returned v ∧ Rout w' w.heap.size v n0 4 ∧ Below w.heap.size w w' := by
  obtain ⟨i0, hi, hz0, hz1, hz2⟩ := info_parts Try.info3
  obtain ⟨W, hW, hbW, hlt, c4, c5, f4, f5⟩ := box1r w (.bool false) (.slice none 0 0) 30
  go_enter Try.func36, Try.ntmps36
  go_wp2
  rw [← hW]
  clear hW
  go_loopw [0, 4, 5] (fun nv d r wr => ∃ (k : Nat) (n : Int) (a : Option Addr) (cap : Nat) (ds : List Int), k ≤ 4 ∧ nv = .int .i64 n ∧ d = .slice a ds.length cap ∧ Own wr W.heap.size .i64 3 65536 a cap ds ∧ Hid (ds.length = k) ∧ Hid (val 65536 ds + (n.natAbs : Int) * 65536 ^ k = (n0.natAbs : Int)) ∧ Hid (n = 0 → nrm ds) ∧ Hid (0 ≤ n0 → 0 ≤ n) ∧ Hid (n0 < 0 → n ≤ 0) ∧ -9223372036854775808 ≤ n ∧ n ≤ 9223372036854775807 ∧ Below W.heap.size W wr) (fun nv _ _ _ => (intOf nv).natAbs)
  case atStart => exact ⟨0, n0, none, 0, [], by omega, rfl, rfl, Own.empty _ _ _ _ _, rfl, by simp [val, Hid], fun _ => trivial, fun h => h, fun h => by omega, h0, h1, Below.refl _ _⟩
  case round =>
    obtain ⟨k, n, a, cap, ds, hk, rfl, rfl, hown, hdl, hdv, hnr, hs0, hs1, hn0, hn1, hbel⟩ := hrel
    by_cases hz : n = 0
    · subst hz
      have hv : Hid (val 65536 ds = (n0.natAbs : Int)) := by have := hdv.out; simpa [Hid] using this
      have hnrm := hnr.out rfl
      have hdl2 := hdl.out
      have k4 := keep_cell hbel c4
      have k5 := keep_cell hbel c5
      have g4 := keep_frozen hbel c4 f4
      have g5 := keep_frozen hbel c5 f5
      have hB := bthen hbW hbel
      have hR : Rout wr W.heap.size (.agg #[.bool (decide (n0 < 0)), .slice a ds.length cap]) n0 4 := by
        refine ⟨_, a, cap, ds, rfl, ⟨hown.row, fun x hx => own_block hown hx⟩, ⟨hnrm, fun h e => ?_⟩, ?_, by omega⟩
        · simp at h
          subst e
          have := hv.out
          simp [val] at this
          omega
        · have := hv.out
          by_cases hc : n0 < 0
          · simp [num, hc]; omega
          · simp [num, hc]; omega
      have hO : ∀ v, Rout ((wr.setCell ⟨w.heap.size, 0, none⟩ (.bool (decide (n0 < 0)))).setCell ⟨w.heap.size, 1, none⟩ v) w.heap.size (.agg #[.bool (decide (n0 < 0)), .slice a ds.length cap]) n0 4 := by
        intro v
        obtain ⟨neg, a', cap', ds', e1, e2, e3⟩ := hR
        exact ⟨neg, a', cap', ds', e1, ((e2.set (by exact hlt) _).set (by exact hlt) _).mono hbW.size, e3⟩
      replace hR : Hid _ := hR
      replace hO : Hid _ := hO
      replace hnrm : Hid _ := hnrm
      replace hdl2 : Hid _ := hdl2
      go_wp2
      refine bodyPost_ret (v := .agg #[.bool (decide (n0 < 0)), .slice a ds.length cap]) (by simp [results, Try.results36, go_sem, k4, k5]) rfl ⟨_, rfl, hO.out _, (hB.setCell (by simp) _).setCell (by simp) _⟩
    · have hzb : (n != 0) = true := by simp [hz]
      have hz' : Hid _ := hz
      clear hz
      have hk3 : k ≤ 3 := by
        by_cases hc : k ≤ 3
        · exact hc
        · have h4 : k = 4 := by omega
          subst h4
          have h5 := hdv.out
          have h6 := val_nonneg (B := 65536) (by decide) hown.words
          have h7 : (65536 : Int) ^ 4 = 18446744073709551616 := by decide
          rw [h7] at h5
          have hnz : n ≠ 0 := hz'.out
          omega
      have hsz := hbel.size
      by_cases hpos : 0 ≤ n
      · have hq0 : 0 ≤ n / 65536 := by omega
        have hr0 : 0 ≤ n % 65536 := by omega
        have hD : Below wr.heap.size wr (wr.alloc (.cells #[.int .i64 (n % 65536)] 3)) := (Below.refl _ _).alloc (Nat.le_refl _) _
        obtain ⟨a2, cap2, w2, hrun, hown2, hb2⟩ := run_append_row (P := Try.prog) (wr.alloc (.cells #[.int .i64 (n % 65536)] 3)) 28 28 3 W.heap.size .i64 8 65536 i0 Try.underlying28 hi hz0 hz1 hz2 a cap ds.length ds (hown.next hD) rfl ⟨wr.heap.size, 0, none⟩ 1 1 [n % 65536] (Row.alloc1 wr .i64 3 65536 (n % 65536) (by omega)) rfl (by omega) (by have := hdl.out; omega) (by omega) (by simp; omega)
        replace hrun : Hid _ := hrun
        have hbel2 : Below W.heap.size W w2 := (hbel.trans (hD.mono hsz)).trans hb2
        have hv2 : Hid (val 65536 (ds ++ [n % 65536]) + ((n / 65536).natAbs : Int) * 65536 ^ (k + 1) = (n0.natAbs : Int)) := by
          refine of_step (n := (n.natAbs : Int)) hdl.out ?_ hdv.out
          omega
        have hn2 : Hid (n / 65536 = 0 → nrm (ds ++ [n % 65536])) := fun h => nrm_snoc _ _ (by have hnz : n ≠ 0 := hz'.out; omega)
        have hl3 : ds.length + 1 = (ds ++ [n % 65536]).length := by simp
        replace hl3 : Hid _ := hl3
        go_wp2_with (at_builtin; refine wpList_append_run (by rfl) (.tmp 16) (.tmp 18) 28 28 (by rfl) (.slice a ds.length cap) (.slice (some ⟨wr.heap.size, 0, none⟩) 1 1) (by rfl) (by rfl) _ _ hrun.out ?_)
        go_roundw
        case rel => exact ⟨k + 1, n / 65536, a2, cap2, ds ++ [n % 65536], by omega, rfl, by rw [← hl3.out], hown2, by show _ = _; rw [← hl3.out, hdl.out], hv2, hn2, fun h => by omega, fun h => by have := hs1.out h; omega, by omega, by omega, hbel2⟩
        case measure => have hnz : n ≠ 0 := hz'.out; simp [intOf]; omega
      · obtain ⟨q, hq⟩ : ∃ q, n.tdiv 65536 = q := ⟨_, rfl⟩
        obtain ⟨r, hr⟩ : ∃ r, n.tmod 65536 = r := ⟨_, rfl⟩
        have hqr := Int.mul_tdiv_add_tmod n 65536
        have hr1 : -65536 < n.tmod 65536 := Int.lt_tmod_of_pos n (by decide)
        have hr2 : n.tmod 65536 ≤ 0 := by
          have : n.tmod 65536 = -((-n).tmod 65536) := by rw [Int.neg_tmod]; omega
          have := Int.tmod_nonneg (a := -n) 65536 (by omega)
          omega
        have hq1 : q ≤ 0 := by rw [hq, hr] at hqr; rw [hr] at hr1; omega
        rw [hq, hr] at hqr
        rw [hr] at hr1 hr2
        have hqn : (q.natAbs : Int) = -q := by omega
        have hD : Below wr.heap.size wr (wr.alloc (.cells #[.int .i64 (-r)] 3)) := (Below.refl _ _).alloc (Nat.le_refl _) _
        obtain ⟨a2, cap2, w2, hrun, hown2, hb2⟩ := run_append_row (P := Try.prog) (wr.alloc (.cells #[.int .i64 (-r)] 3)) 28 28 3 W.heap.size .i64 8 65536 i0 Try.underlying28 hi hz0 hz1 hz2 a cap ds.length ds (hown.next hD) rfl ⟨wr.heap.size, 0, none⟩ 1 1 [-r] (Row.alloc1 wr .i64 3 65536 (-r) (by omega)) rfl (by omega) (by have := hdl.out; omega) (by omega) (by simp; omega)
        have hbel2 : Below W.heap.size W w2 := (hbel.trans (hD.mono hsz)).trans hb2
        have hv2 : Hid (val 65536 (ds ++ [-r]) + (q.natAbs : Int) * 65536 ^ (k + 1) = (n0.natAbs : Int)) := by
          refine of_step (n := (n.natAbs : Int)) hdl.out ?_ hdv.out
          omega
        have hn2 : Hid (q = 0 → nrm (ds ++ [-r])) := fun h => nrm_snoc _ _ (by have hnz : n ≠ 0 := hz'.out; omega)
        have hl3 : ds.length + 1 = (ds ++ [-r]).length := by simp
        replace hl3 : Hid _ := hl3
        have hnn : n ≤ 0 := by omega
        have hlt' : q.natAbs < n.natAbs := by have hnz : n ≠ 0 := hz'.out; omega
        have hqb : -9223372036854775808 ≤ q ∧ q ≤ 9223372036854775807 := by omega
        clear hqn
        by_cases hrz : r = 0
        · subst hrz
          have e0 : (-(0 : Int)) = 0 := rfl
          rw [e0] at hrun hown2 hv2 hn2 hl3
          replace hrun : Hid _ := hrun
          replace hqr : Hid _ := hqr
          go_wp2_with (at_builtin; refine wpList_append_run (by rfl) (.tmp 16) (.tmp 18) 28 28 (by rfl) (.slice a ds.length cap) (.slice (some ⟨wr.heap.size, 0, none⟩) 1 1) (by rfl) (by rfl) _ _ hrun.out ?_)
          go_roundw
          case rel => exact ⟨k + 1, q, a2, cap2, ds ++ [0], by omega, rfl, by rw [← hl3.out], hown2, by show _ = _; rw [← hl3.out, hdl.out], hv2, hn2, fun h => by have := hs0.out h; omega, fun h => by omega, by omega, by omega, hbel2⟩
          case measure => simp [intOf]; omega
        · have hrn : r < 0 := by omega
          replace hrun : Hid _ := hrun
          replace hqr : Hid _ := hqr
          go_wp2_with (at_builtin; refine wpList_append_run (by rfl) (.tmp 16) (.tmp 18) 28 28 (by rfl) (.slice a ds.length cap) (.slice (some ⟨wr.heap.size, 0, none⟩) 1 1) (by rfl) (by rfl) _ _ hrun.out ?_)
          go_roundw
          case rel => exact ⟨k + 1, q, a2, cap2, ds ++ [-r], by omega, rfl, by rw [← hl3.out], hown2, by show _ = _; rw [← hl3.out, hdl.out], hv2, hn2, fun h => by have := hs0.out h; omega, fun h => by omega, by omega, by omega, hbel2⟩
          case measure => simp [intOf]; omega
end Go.Proofs.Ytdcjgepgiaaaoaa
