/- the second road: its Parse and its Of. -/
import Derived.Test.YthiiglhecajhbaaGreatGdm
import Derived.Test.YthiiglhecajhbaaGreatRrm
import Derived.Test.YthiiglhecajhbaaGreatTi
import Derived.Test.YthiiglhecajhbaaGreatFr
namespace Go.Proofs.YthiiglhecajhbaaGreat
namespace Nn
open Go.RowKit
attribute [local go_sem ↓] Go.wp_at_zero Go.wp_at_succ
/-- The digit of a byte; -1: none. -/
def digR (c : Int) : Int := if 48 ≤ c ∧ c ≤ 57 then c - 48 else if 97 ≤ c ∧ c ≤ 102 then c - 87 else if 65 ≤ c ∧ c ≤ 70 then c - 55 else -1
theorem digR_eq (c : Int) : digR c = if digitI c = 16 then -1 else digitI c := by
  unfold digR digitI; repeat' split <;> omega
set_option maxHeartbeats 400000 in
theorem DigitR_any (c : Int) (w : World) (h0 : 0 ≤ c) (h1 : c ≤ 255) : Calls Tryz.prog 70 #[.int .u8 c] w fun e w' => e = .returned (.int .i64 (digR c)) ∧ w' = w := by
  unfold digR
  go_enter Tryz.func70, Tryz.ntmps70
  go_wp2
  all_goals (go_ret; exact ⟨ret_int (by omega), rfl⟩)
theorem of_step {ds : List Int} {k : Nat} {n q r N : Int} (hk : ds.length = k) (hn : n = 65536 * q + r) (hv : val 65536 ds + n * 65536 ^ k = N) : val 65536 (ds ++ [r]) + q * 65536 ^ (k + 1) = N := by
  rw [val_append, hk, ← hv, hn, Int.pow_succ, Int.add_mul, Int.mul_assoc, Int.mul_comm (65536 ^ k) 65536, ← Int.mul_assoc q, Int.mul_comm q 65536, Int.mul_assoc 65536]
  simp only [val]
  rw [Int.mul_comm (65536 ^ k)]
  simp
  omega
set_option maxHeartbeats 2000000 in
set_option maxRecDepth 20000 in
theorem rOf_any (n0 : Int) (w : World) (h0 : -9223372036854775808 ≤ n0) (h1 : n0 ≤ 9223372036854775807) :
    Calls Tryz.prog 37 #[.int .i64 n0] w fun e w' => ∃ v, e = .returned v ∧ Rout w' w.heap.size v n0 4 ∧ Below w.heap.size w w' := by
  obtain ⟨i0, hi, hz0, hz1, hz2⟩ := info_parts Tryz.info3
  obtain ⟨W, hW, hbW, hlt, c4, c5, f4, f5⟩ := box1r w (.bool false) (.slice none 0 0) 32
  go_enter Tryz.func37, Tryz.ntmps37
  go_wp2
  rw [← hW]
  clear hW
  go_loopw [0, 4, 5] (fun nv d r wr => ∃ (k : Nat) (n : Int) (a : Option Addr) (cap : Nat) (ds : List Int), k ≤ 4 ∧ nv = .int .i64 n ∧ d = .slice a ds.length cap ∧ Own wr W.heap.size .i64 3 65536 a cap ds ∧ Hid (ds.length = k) ∧ Hid (val 65536 ds + (n.natAbs : Int) * 65536 ^ k = (n0.natAbs : Int)) ∧ Hid (n = 0 → nrm ds) ∧ Hid (0 ≤ n0 → 0 ≤ n) ∧ Hid (n0 < 0 → n ≤ 0) ∧ -9223372036854775808 ≤ n ∧ n ≤ 9223372036854775807 ∧ Below W.heap.size W wr) (fun nv _ _ _ => (intOf nv).natAbs)
  case atStart => exact ⟨0, n0, none, 0, [], by omega, rfl, rfl, Own.empty _ _ _ _ _, rfl, by simp [val, Hid], fun _ => trivial, fun h => h, fun h => by omega, h0, h1, Below.refl _ _⟩
  case round =>
    obtain ⟨k, n, a, cap, ds, hk, rfl, rfl, hown, hdl, hdv, hnr, hs0, hs1, hn0, hn1, hbel⟩ := hrel
    by_cases hz : n = 0
    · subst hz
      have hv : Hid (val 65536 ds = (n0.natAbs : Int)) := by have := hdv.out; simpa [Hid] using this
      have hnrm := hnr.out rfl
      have hdl2 := hdl.out
      have k4 := keep_cell hbel c4
      have k5 := keep_cell hbel c5
      have g4 := keep_frozen hbel c4 f4
      have g5 := keep_frozen hbel c5 f5
      have hB := bthen hbW hbel
      have hR : Rout wr W.heap.size (.agg #[.bool (decide (n0 < 0)), .slice a ds.length cap]) n0 4 := by
        refine ⟨_, a, cap, ds, rfl, ⟨hown.row, fun x hx => own_block hown hx⟩, ⟨hnrm, fun h e => ?_⟩, ?_, by omega⟩
        · simp at h
          subst e
          have := hv.out
          simp [val] at this
          omega
        · have := hv.out
          by_cases hc : n0 < 0
          · simp [num, hc]; omega
          · simp [num, hc]; omega
      have hO : ∀ v, Rout ((wr.setCell ⟨w.heap.size, 0, none⟩ (.bool (decide (n0 < 0)))).setCell ⟨w.heap.size, 1, none⟩ v) w.heap.size (.agg #[.bool (decide (n0 < 0)), .slice a ds.length cap]) n0 4 := by
        intro v
        obtain ⟨neg, a', cap', ds', e1, e2, e3⟩ := hR
        exact ⟨neg, a', cap', ds', e1, ((e2.set (by exact hlt) _).set (by exact hlt) _).mono hbW.size, e3⟩
      replace hR : Hid _ := hR
      replace hO : Hid _ := hO
      replace hnrm : Hid _ := hnrm
      replace hdl2 : Hid _ := hdl2
      go_wp2
      refine bodyPost_ret (v := .agg #[.bool (decide (n0 < 0)), .slice a ds.length cap]) (by simp [results, Tryz.results37, go_sem, k4, k5]) rfl ⟨_, rfl, hO.out _, (hB.setCell (by simp) _).setCell (by simp) _⟩
    · have hzb : (n != 0) = true := by simp [hz]
      have hz' : Hid _ := hz
      clear hz
      have hk3 : k ≤ 3 := by
        by_cases hc : k ≤ 3
        · exact hc
        · have h4 : k = 4 := by omega
          subst h4
          have h5 := hdv.out
          have h6 := val_nonneg (B := 65536) (by decide) hown.words
          have h7 : (65536 : Int) ^ 4 = 18446744073709551616 := by decide
          rw [h7] at h5
          have hnz : n ≠ 0 := hz'.out
          omega
      have hsz := hbel.size
      by_cases hpos : 0 ≤ n
      · have hq0 : 0 ≤ n / 65536 := by omega
        have hr0 : 0 ≤ n % 65536 := by omega
        have hD : Below wr.heap.size wr (wr.alloc (.cells #[.int .i64 (n % 65536)] 3)) := (Below.refl _ _).alloc (Nat.le_refl _) _
        obtain ⟨a2, cap2, w2, hrun, hown2, hb2⟩ := run_append_row (P := Tryz.prog) (wr.alloc (.cells #[.int .i64 (n % 65536)] 3)) 30 30 3 W.heap.size .i64 8 65536 i0 Tryz.underlying30 hi hz0 hz1 hz2 a cap ds.length ds (hown.next hD) rfl ⟨wr.heap.size, 0, none⟩ 1 1 [n % 65536] (Row.alloc1 wr .i64 3 65536 (n % 65536) (by omega)) rfl (by omega) (by have := hdl.out; omega) (by omega) (by simp; omega)
        replace hrun : Hid _ := hrun
        have hbel2 : Below W.heap.size W w2 := (hbel.trans (hD.mono hsz)).trans hb2
        have hv2 : Hid (val 65536 (ds ++ [n % 65536]) + ((n / 65536).natAbs : Int) * 65536 ^ (k + 1) = (n0.natAbs : Int)) := by
          refine of_step (n := (n.natAbs : Int)) hdl.out ?_ hdv.out
          omega
        have hn2 : Hid (n / 65536 = 0 → nrm (ds ++ [n % 65536])) := fun h => nrm_snoc _ _ (by have hnz : n ≠ 0 := hz'.out; omega)
        have hl3 : ds.length + 1 = (ds ++ [n % 65536]).length := by simp
        replace hl3 : Hid _ := hl3
        go_wp2_with (at_builtin; refine wpList_append_run (by rfl) (.tmp 16) (.tmp 18) 30 30 (by rfl) (.slice a ds.length cap) (.slice (some ⟨wr.heap.size, 0, none⟩) 1 1) (by rfl) (by rfl) _ _ hrun.out ?_)
        go_roundw
        case rel => exact ⟨k + 1, n / 65536, a2, cap2, ds ++ [n % 65536], by omega, rfl, by rw [← hl3.out], hown2, by show _ = _; rw [← hl3.out, hdl.out], hv2, hn2, fun h => by omega, fun h => by have := hs1.out h; omega, by omega, by omega, hbel2⟩
        case measure => have hnz : n ≠ 0 := hz'.out; simp [intOf]; omega
      · obtain ⟨q, hq⟩ : ∃ q, n.tdiv 65536 = q := ⟨_, rfl⟩
        obtain ⟨r, hr⟩ : ∃ r, n.tmod 65536 = r := ⟨_, rfl⟩
        have hqr := Int.mul_tdiv_add_tmod n 65536
        have hr1 : -65536 < n.tmod 65536 := Int.lt_tmod_of_pos n (by decide)
        have hr2 : n.tmod 65536 ≤ 0 := by
          have : n.tmod 65536 = -((-n).tmod 65536) := by rw [Int.neg_tmod]; omega
          have := Int.tmod_nonneg (a := -n) 65536 (by omega)
          omega
        have hq1 : q ≤ 0 := by rw [hq, hr] at hqr; rw [hr] at hr1; omega
        rw [hq, hr] at hqr
        rw [hr] at hr1 hr2
        have hqn : (q.natAbs : Int) = -q := by omega
        have hD : Below wr.heap.size wr (wr.alloc (.cells #[.int .i64 (-r)] 3)) := (Below.refl _ _).alloc (Nat.le_refl _) _
        obtain ⟨a2, cap2, w2, hrun, hown2, hb2⟩ := run_append_row (P := Tryz.prog) (wr.alloc (.cells #[.int .i64 (-r)] 3)) 30 30 3 W.heap.size .i64 8 65536 i0 Tryz.underlying30 hi hz0 hz1 hz2 a cap ds.length ds (hown.next hD) rfl ⟨wr.heap.size, 0, none⟩ 1 1 [-r] (Row.alloc1 wr .i64 3 65536 (-r) (by omega)) rfl (by omega) (by have := hdl.out; omega) (by omega) (by simp; omega)
        have hbel2 : Below W.heap.size W w2 := (hbel.trans (hD.mono hsz)).trans hb2
        have hv2 : Hid (val 65536 (ds ++ [-r]) + (q.natAbs : Int) * 65536 ^ (k + 1) = (n0.natAbs : Int)) := by
          refine of_step (n := (n.natAbs : Int)) hdl.out ?_ hdv.out
          omega
        have hn2 : Hid (q = 0 → nrm (ds ++ [-r])) := fun h => nrm_snoc _ _ (by have hnz : n ≠ 0 := hz'.out; omega)
        have hl3 : ds.length + 1 = (ds ++ [-r]).length := by simp
        replace hl3 : Hid _ := hl3
        have hnn : n ≤ 0 := by omega
        have hlt' : q.natAbs < n.natAbs := by have hnz : n ≠ 0 := hz'.out; omega
        have hqb : -9223372036854775808 ≤ q ∧ q ≤ 9223372036854775807 := by omega
        clear hqn
        by_cases hrz : r = 0
        · subst hrz
          have e0 : (-(0 : Int)) = 0 := rfl
          rw [e0] at hrun hown2 hv2 hn2 hl3
          replace hrun : Hid _ := hrun
          replace hqr : Hid _ := hqr
          go_wp2_with (at_builtin; refine wpList_append_run (by rfl) (.tmp 16) (.tmp 18) 30 30 (by rfl) (.slice a ds.length cap) (.slice (some ⟨wr.heap.size, 0, none⟩) 1 1) (by rfl) (by rfl) _ _ hrun.out ?_)
          go_roundw
          case rel => exact ⟨k + 1, q, a2, cap2, ds ++ [0], by omega, rfl, by rw [← hl3.out], hown2, by show _ = _; rw [← hl3.out, hdl.out], hv2, hn2, fun h => by have := hs0.out h; omega, fun h => by omega, by omega, by omega, hbel2⟩
          case measure => simp [intOf]; omega
        · have hrn : r < 0 := by omega
          replace hrun : Hid _ := hrun
          replace hqr : Hid _ := hqr
          go_wp2_with (at_builtin; refine wpList_append_run (by rfl) (.tmp 16) (.tmp 18) 30 30 (by rfl) (.slice a ds.length cap) (.slice (some ⟨wr.heap.size, 0, none⟩) 1 1) (by rfl) (by rfl) _ _ hrun.out ?_)
          go_roundw
          case rel => exact ⟨k + 1, q, a2, cap2, ds ++ [-r], by omega, rfl, by rw [← hl3.out], hown2, by show _ = _; rw [← hl3.out, hdl.out], hv2, hn2, fun h => by have := hs0.out h; omega, fun h => by omega, by omega, by omega, hbel2⟩
          case measure => simp [intOf]; omega
theorem trim1_val (v : Int) : val 65536 (trimmed [v]) = v := by rw [trimmed_val]; simp [val]
theorem trim1_len (v : Int) : (trimmed [v]).length ≤ 1 := trimmed_le [v]
theorem hor_step {h b d : Int} {k : Nat} (h0 : 0 ≤ h) (h1 : h < 65536 ^ k) (hb0 : 2 ≤ b) (hb1 : b ≤ 16) (hd0 : 0 ≤ d) (hd1 : d < b) : 0 ≤ h * b + d ∧ h * b + d < 65536 ^ (k + 1) := by
  have h2 := Int.mul_nonneg h0 (show 0 ≤ b by omega)
  have h3 : h * b ≤ h * 16 := Int.mul_le_mul_of_nonneg_left hb1 h0
  rw [Int.pow_succ]
  omega
set_option maxRecDepth 20000 in
set_option maxHeartbeats 4000000 in
theorem rParse_ok (s : ByteArray) (b : Int) (w : World) (hb : b = 2 ∨ b = 8 ∨ b = 10 ∨ b = 16) (hs0 : 0 < s.size) (hs1 : s.size ≤ 1000) (hd : ∀ k (h : k < s.size), digitI ((s[k]'h).toNat : Int) < b) :
    Calls Tryz.prog 69 #[.string s, .int .i64 b] w fun e w' => ∃ v, e = .returned (.tuple #[v, .bool true]) ∧ Rint w' v (hor b (digs s)) s.size ∧ Below w.heap.size w w' := by
  have hb0 : 2 ≤ b := by omega
  have hb1 : b ≤ 16 := by omega
  replace hd : Hid _ := hd
  have hse := toList_nonempty s hs0
  obtain ⟨W, hW, hbW, hlt, c4, c5, f4, f5⟩ := box1r w (.bool false) (.slice none 0 0) 32
  have hbox : Box2 W w.heap.size := by rw [hW]; exact Box2.new _ _ _ _ _ _ (by decide)
  replace hW : Hid _ := hW
  go_enter Tryz.func69, Tryz.ntmps69
  go_upto_region 1 with fail
  go_cut [26] from 9 (fun t wc => t = .bool false ∧ wc = W)
  case first =>
    rcases hb with rfl | rfl | rfl | rfl
    all_goals
      go_wp2_with fail
      go_meet
      case rel => exact ⟨rfl, hW.out.symm⟩
  case rest =>
    obtain ⟨rfl, rfl⟩ := hcut
    clear hW hb
    generalize wc = W at *
    go_wp2
    go_loopw [6, 7, 8] (fun d i u wr => ∃ (k : Nat) (a : Option Addr) (cap : Nat) (ds : List Int), k ≤ s.size ∧ i = .int .i64 k ∧ d = .slice a ds.length cap ∧ Row wr .i64 65536 a cap ds ∧ Hid (nrm ds) ∧ Hid (val 65536 ds = hor b ((digs s).take k)) ∧ Hid (0 ≤ hor b ((digs s).take k) ∧ hor b ((digs s).take k) < 65536 ^ k) ∧ ds.length ≤ k ∧ Below W.heap.size W wr) (fun _ i _ _ => s.size - (intOf i).toNat)
    case atStart => exact ⟨0, none, 0, [], Nat.zero_le _, rfl, rfl, Row.empty _ _ _, trivial, rfl, by simp [hor, Hid], by simp, Below.refl _ _⟩
    case round =>
      obtain ⟨k, a, cap, ds, hk, rfl, rfl, hrow, hnr, hdv, hhb, hdl, hbel⟩ := hrel
      by_cases hlk : k < s.size
      · have hdk := hd.out k hlk
        have hdr := digitI_rng ((s[k]'hlk).toNat : Int)
        have HT : Hid (hor b ((digs s).take (k + 1)) = hor b ((digs s).take k) * b + digitI ((s[k]'hlk).toNat : Int)) := by show _ = _; rw [digs_take s k hlk, hor_snoc]
        have hbyte : ((s[k]'hlk).toNat : Int) ≤ 255 := by have := (s[k]'hlk).toNat_lt; omega
        have hdg := digR_eq ((s[k]'hlk).toNat : Int)
        rw [if_neg (by omega)] at hdg
        generalize hcd : digitI ((s[k]'hlk).toNat : Int) = d at *
        replace hcd : Hid _ := hcd
        replace hdg : Hid _ := hdg
        have hst := hor_step (k := k) hhb.out.1 hhb.out.2 hb0 hb1 hdr.1 hdk
        rw [← HT.out] at hst
        replace hst : Hid _ := hst
        have hD1 : Below wr.heap.size wr (wr.alloc (.cells #[.int .i64 b] 3)) := (Below.refl _ _).alloc (Nat.le_refl _) _
        have km := rmul_any a (some ⟨wr.heap.size, 0, none⟩) cap 1 ds [b] (wr.alloc (.cells #[.int .i64 b] 3)) (hrow.next hD1) (Row.alloc1 wr .i64 3 65536 b (by omega)) (by omega) (by simp)
        have hb2' : (b == 65536) = false := by simp; omega
        replace km : Hid _ := km
        go_wp2_with (first
          | (go_at_call 70; refine (DigitR_any _ _ (by omega) hbyte).mono ?_; rintro e w' ⟨rfl, rfl⟩; rw [hdg.out])
          | fail)
        refine Calls.mono km.out ?_
        rintro e w2 ⟨a2, cap2, ms, rfl, hm, hmn, hmv, hml, hb2⟩
        clear km
        have hbA : Below W.heap.size W w2 := hbel.trans ((bthen hD1 hb2).mono hbel.size)
        have hD2 : Below w2.heap.size w2 (w2.alloc (.cells #[.int .i64 d] 3)) := (Below.refl _ _).alloc (Nat.le_refl _) _
        have hrd := Row.alloc1 w2 .i64 3 65536 d (by omega)
        have kt := rtrim_any (some ⟨w2.heap.size, 0, none⟩) 1 [d] _ hrd
        have hml' : ms.length ≤ ds.length + 2 := by simpa using hml
        have htl := trim1_len d
        have htv := trim1_val d
        have ka := radd_any a2 (some ⟨w2.heap.size, 0, none⟩) cap2 _ ms (trimmed [d]) _ (hm.1.next hD2) hrd.cutTrim (by omega) (by omega)
        generalize trimmed [d] = ts at *
        replace kt : Hid _ := kt
        replace ka : Hid _ := ka
        replace hmv : Hid _ := hmv
        replace htv : Hid _ := htv
        go_wp2_with fail
        refine Calls.mono kt.out ?_
        rintro e w3 ⟨rfl, hw3⟩
        rw [hw3]
        clear hw3 kt w3
        go_wp2_with fail
        refine Calls.mono ka.out ?_
        rintro e w4 ⟨a4, cap4, qs, rfl, hq, hqn, hqv, hql, hb4⟩
        have hbB : Below W.heap.size W w4 := hbA.trans ((bthen hD2 hb4).mono hbA.size)
        have hqv' : Hid (val 65536 qs = hor b ((digs s).take (k + 1))) := by
          show _ = _
          rw [hqv, hmv.out, htv.out, HT.out, hdv.out]
          simp [val]
        have hqk : qs.length ≤ k + 1 := nrm_len (B := 65536) (by decide) hq.1.words hqn (by rw [hqv'.out]; exact hst.out.2)
        replace hqv : Hid _ := hqv
        replace hqn : Hid _ := hqn
        clear ka
        go_wp2
        go_roundw
        case rel => exact ⟨k + 1, a4, cap4, qs, by omega, by go_num, rfl, hq.1, hqn, hqv', hst, hqk, hbB⟩
        case measure => simp [intOf]; omega
      · obtain rfl : k = s.size := by omega
        have k4 := keep_cell hbel c4
        have k5 := keep_cell hbel c5
        have g4 := keep_frozen hbel c4 f4
        have g5 := keep_frozen hbel c5 f5
        have hB := bthen hbW hbel
        have hR : Rint wr (.agg #[.bool false, .slice a ds.length cap]) (hor b (digs s)) s.size := by
          refine ⟨false, a, cap, ds, rfl, hrow, ⟨hnr.out, fun h => by cases h⟩, ?_, hdl⟩
          have e := hdv.out
          rw [take_all (by rw [digs_len]; exact Nat.le_refl _)] at e
          exact e
        have bx := hbox.next hbel
        go_wp2
        refine bodyPost_ret (v := .tuple #[.agg #[.bool false, .slice a ds.length cap], .bool true]) (by simp [results, Tryz.results69, go_sem, k4, k5]) rfl ⟨_, rfl, (put2_boxed (base := 0) bx.noint (Nat.zero_le _) _ _ _ _).rint hR, (hB.setCell (by simp) _).setCell (by simp) _⟩
end Nn
end Go.Proofs.YthiiglhecajhbaaGreat
namespace Go.Proofs.YthiiglhecajhbaaGreat
open Go.RowKit
attribute [local go_sem ↓] Go.wp_at_zero Go.wp_at_succ
theorem Rint.tight {w : World} {v : Value} {z : Int} {n m : Nat} (h : Rint w v z n) (hz : (z.natAbs : Int) < 65536 ^ m) : Rint w v z m := by
  obtain ⟨neg, a, cap, ds, hv, hr, hn, he, hl⟩ := h
  have h0 := val_nonneg (B := 65536) (by decide) hr.words
  refine ⟨neg, a, cap, ds, hv, hr, hn, he, nrm_len (B := 65536) (by decide) hr.words hn.1 ?_⟩
  have : (z.natAbs : Int) = Go.Proofs.YthiiglhecajhbaaGreat.val 65536 ds := by
    cases neg <;> simp [Go.Proofs.YthiiglhecajhbaaGreat.num] at he <;> omega
  rw [← this]; exact hz
namespace Nn
theorem pow_le_16 (r : Int) (n m : Nat) (h0 : 2 ≤ r) (h1 : r ≤ 16) (hn : n ≤ 4 * m) : 0 < r ^ n ∧ r ^ n ≤ 65536 ^ m := by
  refine ⟨Int.pow_pos (by omega), ?_⟩
  have e1 : r ^ n ≤ 16 ^ n := by
    clear hn
    induction n with
    | zero => simp
    | succ n ih =>
      rw [Int.pow_succ, Int.pow_succ]
      exact Int.mul_le_mul ih h1 (by omega) (Int.le_of_lt (Int.pow_pos (by decide)))
  have e2 : (16 : Int) ^ n ≤ 16 ^ (4 * m) := by
    obtain ⟨d, hd⟩ := Nat.exists_eq_add_of_le hn
    rw [hd, Int.pow_add]
    have h2 : (1 : Int) ≤ 16 ^ d := Int.pow_pos (by decide)
    have h3 : (0 : Int) < 16 ^ n := Int.pow_pos (by decide)
    have := Int.mul_le_mul_of_nonneg_left h2 (Int.le_of_lt h3)
    rw [Int.mul_one] at this
    exact this
  rw [Int.pow_mul] at e2
  exact Int.le_trans e1 e2
theorem pow_lt_16 (r : Int) (n m : Nat) (h0 : 2 ≤ r) (h1 : r ≤ 16) (hn : n < 4 * m) : ((r ^ n).natAbs : Int) < 65536 ^ m := by
  have hp := pow_le_16 r n m h0 h1 (by omega)
  have hp2 := pow_le_16 r (n + 1) m h0 h1 (by omega)
  rw [Int.pow_succ] at hp2
  have : r ^ n * 2 ≤ r ^ n * r := Int.mul_le_mul_of_nonneg_left h0 (by omega)
  omega
theorem le_of_mul {x y z : Int} (hx : 0 < x) (hy : 0 < y) (h : x * y = z) : x ≤ z := by
  have := Int.mul_le_mul_of_nonneg_left (show (1 : Int) ≤ y by omega) (show 0 ≤ x by omega)
  omega
theorem x_tight {x y r : Int} {n : Nat} (hx : 0 < x) (hy : 0 < y) (h : x * y = r ^ n) (h0 : 2 ≤ r) (h1 : r ≤ 16) (m : Nat) (hn : n < 4 * m) : (x.natAbs : Int) < 65536 ^ m := by
  have h3 := le_of_mul hx hy h
  have h2 := pow_lt_16 r n m h0 h1 hn
  omega
theorem boxes_pow (w : World) (m1 : Bool) (a1 : Option Addr) (l1 c1 : Nat) : ∃ W, W = (w.alloc (.cells #[.bool m1, .slice a1 l1 c1] 32)).alloc (.cells #[.bool false, .slice none 0 0] 32) ∧ Below w.heap.size w W ∧ (W.cell? ⟨w.heap.size, 0, none⟩ = some (.bool m1) ∧ W.cell? ⟨w.heap.size, 1, none⟩ = some (.slice a1 l1 c1)) ∧ Box2 W w.heap.size ∧ Box2 W (w.heap.size + 1) := by
  have s1 : (w.alloc (.cells #[.bool m1, .slice a1 l1 c1] 32)).heap.size = w.heap.size + 1 := by simp
  refine ⟨_, rfl, ((Below.refl _ _).alloc (Nat.le_refl _) _).alloc (by simp) _, ⟨?_, ?_⟩, ?b0, ?b1⟩
  case b0 => exact (Box2.new w m1 a1 l1 c1 32 (by decide)).next ((Below.refl _ _).alloc (Nat.le_refl _) _)
  case b1 =>
    have h := Box2.new (w.alloc (.cells #[.bool m1, .slice a1 l1 c1] 32)) false none 0 0 32 (by decide)
    rw [s1] at h
    exact h
  all_goals simp [go_sem, World.cell?_alloc_past]
def PowAt (b2 b4 b5 : Nat) (r : Int) (n : Nat) (W : World) (v : Value) (wr : World) : Prop :=
  ∃ (k p : Nat) (x : Int) (mR : Bool) (aR : Option Addr) (lR dR : Nat) (mS : Bool) (aS : Option Addr) (lS dS : Nat), v = .int .i64 (p : Int) ∧ p * 2 ^ k ≤ n ∧ 2 ^ k ≤ 2600 ∧ (0 < x ∧ x * (r ^ 2 ^ k) ^ p = r ^ n) ∧ (wr.cell? ⟨b5, 0, none⟩ = some (.bool mR) ∧ wr.cell? ⟨b5, 1, none⟩ = some (.slice aR lR dR)) ∧ (wr.cell? ⟨b2, 0, none⟩ = some (.bool mS) ∧ wr.cell? ⟨b2, 1, none⟩ = some (.slice aS lS dS)) ∧ (Box2 wr b2 ∧ Box2 wr b4 ∧ Box2 wr b5) ∧ Rint wr (.agg #[.bool mR, .slice aR lR dR]) x 330 ∧ Rint wr (.agg #[.bool mS, .slice aS lS dS]) (r ^ 2 ^ k) 660 ∧ Below W.heap.size W wr
set_option maxRecDepth 20000 in
set_option maxHeartbeats 4000000 in
theorem rPower_num {w : World} {u : Value} (r : Int) (n : Nat) (hu : Rint w u r 1) (hr0 : 2 ≤ r) (hr1 : r ≤ 16) (hn : n ≤ 1300) :
    Calls Tryz.prog 71 #[u, .int .i64 n] w fun e w' => ∃ v, e = .returned v ∧ Rint w' v (r ^ n) 330 ∧ Below w.heap.size w w' := by
  obtain ⟨nu, au, lu, cu, rfl⟩ := hu.form
  obtain ⟨W, hW, hbW, ⟨e0, e1⟩, x2, x4⟩ := boxes_pow w nu au lu cu
  have hU := hu.next hbW
  have hWs : W.heap.size = w.heap.size + 2 := by rw [hW]; simp
  go_enter Tryz.func71, Tryz.ntmps71
  go_upto_region 1 with fail
  rw [← hW]
  clear hW
  go_wp2_with fail
  refine Calls.mono (rOf_one _) ?_
  rintro e w1 ⟨v1, rfl, hO1, hb1⟩
  obtain ⟨n1, a1, l1, d1, rfl⟩ := hO1.rint.form
  obtain ⟨Wb, hWb⟩ : ∃ Wb, Wb = w1.alloc (.cells #[.bool n1, .slice a1 l1 d1] 32) := ⟨_, rfl⟩
  have hbWb : Below w1.heap.size w1 Wb := by rw [hWb]; exact (Below.refl _ _).alloc (Nat.le_refl _) _
  have p0 : Wb.cell? ⟨w1.heap.size, 0, none⟩ = some (.bool n1) := by rw [hWb]; simp [go_sem]
  have p1 : Wb.cell? ⟨w1.heap.size, 1, none⟩ = some (.slice a1 l1 d1) := by rw [hWb]; simp [go_sem]
  have y5 : Box2 Wb w1.heap.size := by rw [hWb]; exact Box2.new _ _ _ _ _ _ (by decide)
  have hB := bthen hb1 hbWb
  have hsz := hb1.size
  have hst : Hid (PowAt w.heap.size (w.heap.size + 1) w1.heap.size r n w (.int .i64 (n : Int)) Wb) := ⟨0, n, 1, n1, a1, l1, d1, nu, au, lu, cu, rfl, by simp, by decide, ⟨by decide, by rw [Nat.pow_zero, pow_one', Int.one_mul]⟩, ⟨p0, p1⟩, ⟨keep_cell hB e0, keep_cell hB e1⟩, ⟨x2.next hB, x4.next hB, y5⟩, (hO1.rint.next hbWb).mono (by decide), by rw [Nat.pow_zero, pow_one']; exact (hU.next hB).mono (by decide), bthen hbW hB⟩
  obtain ⟨b2, hb2⟩ : ∃ b2, b2 = w.heap.size := ⟨_, rfl⟩
  obtain ⟨b4, hb4⟩ : ∃ b4, b4 = w.heap.size + 1 := ⟨_, rfl⟩
  obtain ⟨b5, hb5⟩ : ∃ b5, b5 = w1.heap.size := ⟨_, rfl⟩
  have hlt : b2 < b4 ∧ b4 < b5 ∧ W.heap.size ≤ b5 := by omega
  go_wp2_with fail
  rw [← hWb]
  clear hWb p0 p1 y5 hB hbWb hb1 hsz hO1 x2 x4 e0 e1 hU hu
  rw [← hb4, ← hb2, ← hb5] at hst
  rw [← hb4, ← hb5, ← hb2]
  obtain ⟨hlt1, hlt2, hlt3⟩ := hlt
  have hb2' : Hid _ := hb2
  clear hb2 hb4 hb5
  go_loopw [1] (fun v wr => PowAt b2 b4 b5 r n w v wr) (fun v _ => (intOf v).toNat)
  case atStart => exact hst.out
  case round =>
    clear hst
    obtain ⟨k, p, x, mR, aR, lR, dR, mS, aS, lS, dS, rfl, hpk, hk2, ⟨hx0, hx⟩, ⟨p0, p1⟩, ⟨q0, q1⟩, ⟨y2, y4, y5⟩, oR, oS, hbel⟩ := hrel
    replace hx : Hid _ := hx
    by_cases hp : 0 < p
    · have hk3 : 2 ^ k ≤ 1300 := by have := Nat.mul_le_mul_right (2 ^ k) hp; omega
      have hpn : p ≤ 1300 := by have := Nat.le_mul_of_pos_right p (Nat.two_pow_pos k); omega
      obtain ⟨q, hq⟩ : ∃ q, q = p / 2 := ⟨_, rfl⟩
      have e2 : (p : Int).tdiv 2 = (q : Int) := by rw [Int.tdiv_eq_ediv_of_nonneg (by omega)]; omega
      have e4 : (p : Int) / 2 = (q : Int) := by omega
      have hqp : q < p := by omega
      have hpk2 : p / 2 * 2 ^ (k + 1) ≤ n := by
        rw [Nat.pow_succ, Nat.mul_comm (2 ^ k) 2, ← Nat.mul_assoc]
        exact Nat.le_trans (Nat.mul_le_mul_right _ (by omega)) hpk
      rw [← hq] at hpk2
      have hps : 2 ^ (k + 1) = 2 * 2 ^ k := by rw [Nat.pow_succ]; omega
      have hS2 : Hid _ := pow_lt_16 r (2 ^ (k + 1)) 660 hr0 hr1 (by omega)
      have hSp : 0 < r ^ 2 ^ k := Int.pow_pos (by omega)
      have hSp2 : 0 < (r ^ 2 ^ (k + 1)) ^ q := Int.pow_pos (Int.pow_pos (by omega))
      by_cases hodd : p % 2 = 1
      · have e1 : (p : Int).tmod 2 = 1 := by rw [Int.tmod_eq_emod_of_nonneg (by omega)]; omega
        have e3 : (p : Int) % 2 = 1 := by omega
        have hx2 : Hid (0 < x * r ^ 2 ^ k ∧ (x * r ^ 2 ^ k) * (r ^ 2 ^ (k + 1)) ^ q = r ^ n) := ⟨Int.mul_pos hx0 hSp, by rw [pow_sq, Int.mul_assoc, hq, pow_odd _ _ hodd]; exact hx.out⟩
        have hxt : Hid _ := x_tight hx2.out.1 hSp2 hx2.out.2 hr0 hr1 330 (by omega)
        have kq : Hid _ := rMul_num oR oS (by decide) (by decide)
        clear hq hx hSp hSp2 hodd
        go_wp2_with fail
        refine Calls.mono kq.out ?_
        rintro e w4 ⟨t4, rfl, hM4, hb4⟩
        clear kq
        replace hM4 := hM4.tight hxt.out
        clear hxt
        obtain ⟨m4, x4, l4, d4, rfl⟩ := hM4.form
        obtain ⟨W5, hW5', g0, g1, go', gb2, gb4, gx, gB⟩ := put2r (y5.next hb4) m4 x4 l4 d4
        obtain ⟨_, _, _, _, s0, s1, sf⟩ := (y5.next hb4).cells
        have v2 := sf 0
        have v3 := sf 1
        have q0n := (go' ⟨b2, 0, none⟩ (by simp; omega)).trans (keep_cell hb4 q0)
        have q1n := (go' ⟨b2, 1, none⟩ (by simp; omega)).trans (keep_cell hb4 q1)
        have y2n := gb2 b2 (by omega) (y2.next hb4)
        have y4n := gb2 b4 (by omega) (y4.next hb4)
        have y5n : Box2 W5 b5 := by rw [hW5']; exact (y5.next hb4).put _ _ _ _
        have oRn := gx _ _ _ hM4
        have oSn := gx _ _ _ (oS.next hb4)
        have hbn := gB _ _ (bthen hbel hb4) (by have := hb2'.out; omega)
        clear sf go' gb2 gb4 gx gB p0 p1 q0 q1 y2 y4 y5 oR oS hbel hM4
        have p0 := g0
        have p1 := g1
        have q0 := q0n
        have q1 := q1n
        have y2 := y2n
        have y4 := y4n
        have y5 := y5n
        have oR := oRn
        have oS := oSn
        have hbel := hbn
        clear g0 g1 q0n q1n y2n y4n y5n oRn oSn hbn
        go_upto_region 6 with fail
        rw [← hW5']
        clear hW5'
        have km : Hid _ := rMul_num oS oS (by decide) (by decide)
        go_wp2_with fail
        refine Calls.mono km.out ?_
        rintro e w6 ⟨t6, rfl, hM6, hb6⟩
        clear km
        rw [← pow_sq] at hM6
        replace hM6 := hM6.tight hS2.out
        obtain ⟨m6, x6, l6, d6, rfl⟩ := hM6.form
        obtain ⟨W7, hW7, z0, z1, zo, zb2, zb4, zx, zB⟩ := put2r (y2.next hb6) m6 x6 l6 d6
        obtain ⟨_, _, _, _, s0, s1, sf⟩ := (y2.next hb6).cells
        have u0 := sf 0
        have u1 := sf 1
        have r0 := (zo ⟨b5, 0, none⟩ (by simp; omega)).trans (keep_cell hb6 p0)
        have r1 := (zo ⟨b5, 1, none⟩ (by simp; omega)).trans (keep_cell hb6 p1)
        have hrel : PowAt b2 b4 b5 r n w (.int .i64 (q : Int)) W7 := ⟨k + 1, q, _, _, _, _, _, _, _, _, _, rfl, hpk2, by rw [hps]; omega, hx2.out, ⟨r0, r1⟩, ⟨z0, z1⟩, ⟨by rw [hW7]; exact (y2.next hb6).put _ _ _ _, zb2 _ (by omega) (y4.next hb6), zb2 _ (by omega) (y5.next hb6)⟩, zx _ _ _ (oR.next hb6), zx _ _ _ hM6, zB _ _ (bthen hbel hb6) (by rw [hb2'.out]; exact Nat.le_refl _)⟩
        clear sf zo zb2 zb4 zx zB p0 p1 q0 q1 y2 y4 y5 oR oS hbel hM6 hx2
        replace hrel : Hid _ := hrel
        go_wp2
        rw [← hW7]
        clear hW7
        go_roundw
        case rel => exact hrel.out
        case measure => simp [intOf]; omega
      · have e1 : (p : Int).tmod 2 = 0 := by rw [Int.tmod_eq_emod_of_nonneg (by omega)]; omega
        have e3 : (p : Int) % 2 = 0 := by omega
        have hx2 : Hid (0 < x ∧ x * (r ^ 2 ^ (k + 1)) ^ q = r ^ n) := ⟨hx0, by rw [pow_sq, hq, pow_even _ _ (by omega)]; exact hx.out⟩
        clear hq hx hSp hSp2 hodd
        have km : Hid _ := rMul_num oS oS (by decide) (by decide)
        go_wp2_with fail
        refine Calls.mono km.out ?_
        rintro e w6 ⟨t6, rfl, hM6, hb6⟩
        clear km
        rw [← pow_sq] at hM6
        replace hM6 := hM6.tight hS2.out
        obtain ⟨m6, x6, l6, d6, rfl⟩ := hM6.form
        obtain ⟨W7, hW7, z0, z1, zo, zb2, zb4, zx, zB⟩ := put2r (y2.next hb6) m6 x6 l6 d6
        obtain ⟨_, _, _, _, s0, s1, sf⟩ := (y2.next hb6).cells
        have u0 := sf 0
        have u1 := sf 1
        have r0 := (zo ⟨b5, 0, none⟩ (by simp; omega)).trans (keep_cell hb6 p0)
        have r1 := (zo ⟨b5, 1, none⟩ (by simp; omega)).trans (keep_cell hb6 p1)
        have hrel : PowAt b2 b4 b5 r n w (.int .i64 (q : Int)) W7 := ⟨k + 1, q, _, _, _, _, _, _, _, _, _, rfl, hpk2, by rw [hps]; omega, hx2.out, ⟨r0, r1⟩, ⟨z0, z1⟩, ⟨by rw [hW7]; exact (y2.next hb6).put _ _ _ _, zb2 _ (by omega) (y4.next hb6), zb2 _ (by omega) (y5.next hb6)⟩, zx _ _ _ (oR.next hb6), zx _ _ _ hM6, zB _ _ (bthen hbel hb6) (by rw [hb2'.out]; exact Nat.le_refl _)⟩
        clear sf zo zb2 zb4 zx zB p0 p1 q0 q1 y2 y4 y5 oR oS hbel hM6 hx2
        replace hrel : Hid _ := hrel
        go_wp2
        rw [← hW7]
        clear hW7
        go_roundw
        case rel => exact hrel.out
        case measure => simp [intOf]; omega
    · obtain rfl : p = 0 := by omega
      have hx' : x = r ^ n := by have := hx.out; rw [Int.pow_zero, Int.mul_one] at this; exact this
      subst hx'
      obtain ⟨W8, hW8, z0, z1, zo, zb2, zb4, zx, zB⟩ := put2r y4 mR aR lR dR
      obtain ⟨_, _, _, _, s0, s1, sf⟩ := y4.cells
      have u0 := sf 0
      have u1 := sf 1
      have oR8 : Hid _ := zx _ _ _ oR
      have hb8 : Hid _ := zB _ _ hbel (by rw [← hb2'.out]; omega)
      clear sf zo zb2 zb4 zx zB
      go_wp2
      rw [← hW8]
      exact bodyPost_ret (v := .agg #[.bool mR, .slice aR lR dR]) (by simp [results, Tryz.results71, go_sem, z0, z1]) rfl ⟨_, rfl, oR8.out, hb8.out⟩
end Nn
end Go.Proofs.YthiiglhecajhbaaGreat
