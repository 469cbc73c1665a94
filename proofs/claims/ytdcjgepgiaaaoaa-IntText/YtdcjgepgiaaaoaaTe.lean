/- The second road's Parse. -/
import Derived.Test.YtdcjgepgiaaaoaaTd
namespace Go.Proofs.Ytdcjgepgiaaaoaa
open Go.RowKit
attribute [local go_sem ↓] Go.wp_at_zero Go.wp_at_succ
theorem trim1_val (v : Int) : val 65536 (trimmed [v]) = v := by rw [trimmed_val]; simp [val]
theorem trim1_len (v : Int) : (trimmed [v]).length ≤ 1 := trimmed_le [v]
theorem hor_step {h b d : Int} {k : Nat} (h0 : 0 ≤ h) (h1 : h < 65536 ^ k) (hb0 : 2 ≤ b) (hb1 : b ≤ 16) (hd0 : 0 ≤ d) (hd1 : d < b) : 0 ≤ h * b + d ∧ h * b + d < 65536 ^ (k + 1) := by
  have h2 := Int.mul_nonneg h0 (show 0 ≤ b by omega)
  have h3 : h * b ≤ h * 16 := Int.mul_le_mul_of_nonneg_left hb1 h0
  rw [Int.pow_succ]
  omega
set_option maxRecDepth 20000 in
set_option maxHeartbeats 4000000 in
theorem rParse_ok (s : ByteArray) (b : Int) (w : World) (hb : b = 2 ∨ b = 8 ∨ b = 10 ∨ b = 16) (hs0 : 0 < s.size) (hs1 : s.size ≤ 1000) (hd : ∀ k (h : k < s.size), digitI ((s[k]'h).toNat : Int) < b) :
    Calls Try.prog 31 #[.string s, .int .i64 b] w fun e w' => ∃ v, e = .returned (.tuple #[v, .bool true]) ∧ Rint w' v (hor b (digs s)) s.size ∧ Below w.heap.size w w' := by
  have hb0 : 2 ≤ b := by omega
  have hb1 : b ≤ 16 := by omega
  replace hd : Hid _ := hd
  have hse := toList_nonempty s hs0
  obtain ⟨W, hW, hbW, hlt, c4, c5, f4, f5⟩ := box1r w (.bool false) (.slice none 0 0) 30
  have hbox : PBox W w.heap.size := by rw [hW]; exact PBox.new _ _ _ _ _ _
  replace hW : Hid _ := hW
  go_enter Try.func31, Try.ntmps31
  go_upto_region 1 with fail
  go_cut [26] from 9 (fun t wc => t = .bool false ∧ wc = W)
  case first =>
    rcases hb with rfl | rfl | rfl | rfl
    all_goals
      go_wp2_with fail
      go_meet
      case rel => exact ⟨rfl, hW.out.symm⟩
  case rest =>
    obtain ⟨rfl, rfl⟩ := hcut
    clear hW hb
    generalize wc = W at *
    go_wp2
    go_loopw [6, 7, 8] (fun d i u wr => ∃ (k : Nat) (a : Option Addr) (cap : Nat) (ds : List Int), k ≤ s.size ∧ i = .int .i64 k ∧ d = .slice a ds.length cap ∧ Row wr .i64 65536 a cap ds ∧ Hid (nrm ds) ∧ Hid (val 65536 ds = hor b ((digs s).take k)) ∧ Hid (0 ≤ hor b ((digs s).take k) ∧ hor b ((digs s).take k) < 65536 ^ k) ∧ ds.length ≤ k ∧ Below W.heap.size W wr) (fun _ i _ _ => s.size - (intOf i).toNat)
    case atStart => exact ⟨0, none, 0, [], Nat.zero_le _, rfl, rfl, Row.empty _ _ _, trivial, rfl, by simp [hor, Hid], by simp, Below.refl _ _⟩
    case round =>
      obtain ⟨k, a, cap, ds, hk, rfl, rfl, hrow, hnr, hdv, hhb, hdl, hbel⟩ := hrel
      by_cases hlk : k < s.size
      · have hdk := hd.out k hlk
        have hdr := digitI_rng ((s[k]'hlk).toNat : Int)
        have HT : Hid (hor b ((digs s).take (k + 1)) = hor b ((digs s).take k) * b + digitI ((s[k]'hlk).toNat : Int)) := by show _ = _; rw [digs_take s k hlk, hor_snoc]
        have hbyte : ((s[k]'hlk).toNat : Int) ≤ 255 := by have := (s[k]'hlk).toNat_lt; omega
        have hdg := digR_eq ((s[k]'hlk).toNat : Int)
        rw [if_neg (by omega)] at hdg
        generalize hcd : digitI ((s[k]'hlk).toNat : Int) = d at *
        replace hcd : Hid _ := hcd
        replace hdg : Hid _ := hdg
        have hst := hor_step (k := k) hhb.out.1 hhb.out.2 hb0 hb1 hdr.1 hdk
        rw [← HT.out] at hst
        replace hst : Hid _ := hst
        have hD1 : Below wr.heap.size wr (wr.alloc (.cells #[.int .i64 b] 3)) := (Below.refl _ _).alloc (Nat.le_refl _) _
        have km := rmul_any a (some ⟨wr.heap.size, 0, none⟩) cap 1 ds [b] (wr.alloc (.cells #[.int .i64 b] 3)) (hrow.next hD1) (Row.alloc1 wr .i64 3 65536 b (by omega)) (by omega) (by simp)
        have hb2' : (b == 65536) = false := by simp; omega
        replace km : Hid _ := km
        go_wp2_with (first
          | (go_at_call 65; refine (Digit_any _ _ (by omega) hbyte).mono ?_; rintro e w' ⟨rfl, rfl⟩; rw [hdg.out])
          | fail)
        refine Calls.mono km.out ?_
        rintro e w2 ⟨a2, cap2, ms, rfl, hm, hmn, hmv, hml, hb2⟩
        clear km
        have hbA : Below W.heap.size W w2 := hbel.trans ((bthen hD1 hb2).mono hbel.size)
        have hD2 : Below w2.heap.size w2 (w2.alloc (.cells #[.int .i64 d] 3)) := (Below.refl _ _).alloc (Nat.le_refl _) _
        have hrd := Row.alloc1 w2 .i64 3 65536 d (by omega)
        have kt := rtrim_any (some ⟨w2.heap.size, 0, none⟩) 1 [d] _ hrd
        have hml' : ms.length ≤ ds.length + 2 := by simpa using hml
        have htl := trim1_len d
        have htv := trim1_val d
        have ka := radd_any a2 (some ⟨w2.heap.size, 0, none⟩) cap2 _ ms (trimmed [d]) _ (hm.1.next hD2) hrd.cutTrim (by omega) (by omega)
        generalize trimmed [d] = ts at *
        replace kt : Hid _ := kt
        replace ka : Hid _ := ka
        replace hmv : Hid _ := hmv
        replace htv : Hid _ := htv
        go_wp2_with fail
        refine Calls.mono kt.out ?_
        rintro e w3 ⟨rfl, hw3⟩
        rw [hw3]
        clear hw3 kt w3
        go_wp2_with fail
        refine Calls.mono ka.out ?_
        rintro e w4 ⟨a4, cap4, qs, rfl, hq, hqn, hqv, hql, hb4⟩
        have hbB : Below W.heap.size W w4 := hbA.trans ((bthen hD2 hb4).mono hbA.size)
        have hqv' : Hid (val 65536 qs = hor b ((digs s).take (k + 1))) := by
          show _ = _
          rw [hqv, hmv.out, htv.out, HT.out, hdv.out]
          simp [val]
        have hqk : qs.length ≤ k + 1 := nrm_len (B := 65536) (by decide) hq.1.words hqn (by rw [hqv'.out]; exact hst.out.2)
        replace hqv : Hid _ := hqv
        replace hqn : Hid _ := hqn
        clear ka
        go_wp2
        go_roundw
        case rel => exact ⟨k + 1, a4, cap4, qs, by omega, by go_num, rfl, hq.1, hqn, hqv', hst, hqk, hbB⟩
        case measure => simp [intOf]; omega
      · obtain rfl : k = s.size := by omega
        have k4 := keep_cell hbel c4
        have k5 := keep_cell hbel c5
        have g4 := keep_frozen hbel c4 f4
        have g5 := keep_frozen hbel c5 f5
        have hB := bthen hbW hbel
        have hR : Rint wr (.agg #[.bool false, .slice a ds.length cap]) (hor b (digs s)) s.size := by
          refine ⟨false, a, cap, ds, rfl, hrow, ⟨hnr.out, fun h => by cases h⟩, ?_, hdl⟩
          have e := hdv.out
          rw [take_all (by rw [digs_len]; exact Nat.le_refl _)] at e
          exact e
        have bx := hbox.next hbel
        go_wp2
        refine bodyPost_ret (v := .tuple #[.agg #[.bool false, .slice a ds.length cap], .bool true]) (by simp [results, Try.results31, go_sem, k4, k5]) rfl ⟨_, rfl, hR.put bx _ _ _ _, (hB.setCell (by simp) _).setCell (by simp) _⟩
set_option maxRecDepth 20000 in
set_option maxHeartbeats 4000000 in
theorem rParse_digit (s : ByteArray) (b : Int) (j : Nat) (w : World) (hb : b = 2 ∨ b = 8 ∨ b = 10 ∨ b = 16) (hs1 : s.size ≤ 1000) (hj : j < s.size) (hd : ∀ k (h : k < s.size), k < j → digitI ((s[k]'h).toNat : Int) < b) (hbad : b ≤ digitI ((s[j]'hj).toNat : Int)) :
    Calls Try.prog 31 #[.string s, .int .i64 b] w fun e w' => NoneR w w' e := by
  have hb0 : 2 ≤ b := by omega
  have hb1 : b ≤ 16 := by omega
  replace hd : Hid _ := hd
  replace hbad : Hid _ := hbad
  have hs0 : 0 < s.size := by omega
  have hse := toList_nonempty s hs0
  obtain ⟨W, hW, hbW, hlt, c4, c5, f4, f5⟩ := box1r w (.bool false) (.slice none 0 0) 30
  have hbox : PBox W w.heap.size := by rw [hW]; exact PBox.new _ _ _ _ _ _
  replace hW : Hid _ := hW
  go_enter Try.func31, Try.ntmps31
  go_upto_region 1 with fail
  go_cut [26] from 9 (fun t wc => t = .bool false ∧ wc = W)
  case first =>
    rcases hb with rfl | rfl | rfl | rfl
    all_goals
      go_wp2_with fail
      go_meet
      case rel => exact ⟨rfl, hW.out.symm⟩
  case rest =>
    obtain ⟨rfl, rfl⟩ := hcut
    clear hW hb
    generalize wc = W at *
    go_wp2
    go_loopw [6, 7, 8] (fun d i u wr => ∃ (k : Nat) (a : Option Addr) (cap : Nat) (ds : List Int), k ≤ j ∧ i = .int .i64 k ∧ d = .slice a ds.length cap ∧ Row wr .i64 65536 a cap ds ∧ Hid (nrm ds) ∧ Hid (val 65536 ds = hor b ((digs s).take k)) ∧ Hid (0 ≤ hor b ((digs s).take k) ∧ hor b ((digs s).take k) < 65536 ^ k) ∧ ds.length ≤ k ∧ Below W.heap.size W wr) (fun _ i _ _ => s.size - (intOf i).toNat)
    case atStart => exact ⟨0, none, 0, [], Nat.zero_le _, rfl, rfl, Row.empty _ _ _, trivial, rfl, by simp [hor, Hid], by simp, Below.refl _ _⟩
    case round =>
      obtain ⟨k, a, cap, ds, hk, rfl, rfl, hrow, hnr, hdv, hhb, hdl, hbel⟩ := hrel
      have hlk : k < s.size := by omega
      by_cases hkj : k < j
      · have hdk := hd.out k hlk hkj
        have hdr := digitI_rng ((s[k]'hlk).toNat : Int)
        have HT : Hid (hor b ((digs s).take (k + 1)) = hor b ((digs s).take k) * b + digitI ((s[k]'hlk).toNat : Int)) := by show _ = _; rw [digs_take s k hlk, hor_snoc]
        have hbyte : ((s[k]'hlk).toNat : Int) ≤ 255 := by have := (s[k]'hlk).toNat_lt; omega
        have hdg := digR_eq ((s[k]'hlk).toNat : Int)
        rw [if_neg (by omega)] at hdg
        generalize hcd : digitI ((s[k]'hlk).toNat : Int) = d at *
        replace hcd : Hid _ := hcd
        replace hdg : Hid _ := hdg
        have hst := hor_step (k := k) hhb.out.1 hhb.out.2 hb0 hb1 hdr.1 hdk
        rw [← HT.out] at hst
        replace hst : Hid _ := hst
        have hD1 : Below wr.heap.size wr (wr.alloc (.cells #[.int .i64 b] 3)) := (Below.refl _ _).alloc (Nat.le_refl _) _
        have km := rmul_any a (some ⟨wr.heap.size, 0, none⟩) cap 1 ds [b] (wr.alloc (.cells #[.int .i64 b] 3)) (hrow.next hD1) (Row.alloc1 wr .i64 3 65536 b (by omega)) (by omega) (by simp)
        have hb2' : (b == 65536) = false := by simp; omega
        replace km : Hid _ := km
        go_wp2_with (first
          | (go_at_call 65; refine (Digit_any _ _ (by omega) hbyte).mono ?_; rintro e w' ⟨rfl, rfl⟩; rw [hdg.out])
          | fail)
        refine Calls.mono km.out ?_
        rintro e w2 ⟨a2, cap2, ms, rfl, hm, hmn, hmv, hml, hb2⟩
        clear km
        have hbA : Below W.heap.size W w2 := hbel.trans ((bthen hD1 hb2).mono hbel.size)
        have hD2 : Below w2.heap.size w2 (w2.alloc (.cells #[.int .i64 d] 3)) := (Below.refl _ _).alloc (Nat.le_refl _) _
        have hrd := Row.alloc1 w2 .i64 3 65536 d (by omega)
        have kt := rtrim_any (some ⟨w2.heap.size, 0, none⟩) 1 [d] _ hrd
        have hml' : ms.length ≤ ds.length + 2 := by simpa using hml
        have htl := trim1_len d
        have htv := trim1_val d
        have ka := radd_any a2 (some ⟨w2.heap.size, 0, none⟩) cap2 _ ms (trimmed [d]) _ (hm.1.next hD2) hrd.cutTrim (by omega) (by omega)
        generalize trimmed [d] = ts at *
        replace kt : Hid _ := kt
        replace ka : Hid _ := ka
        replace hmv : Hid _ := hmv
        replace htv : Hid _ := htv
        go_wp2_with fail
        refine Calls.mono kt.out ?_
        rintro e w3 ⟨rfl, hw3⟩
        rw [hw3]
        clear hw3 kt w3
        go_wp2_with fail
        refine Calls.mono ka.out ?_
        rintro e w4 ⟨a4, cap4, qs, rfl, hq, hqn, hqv, hql, hb4⟩
        have hbB : Below W.heap.size W w4 := hbA.trans ((bthen hD2 hb4).mono hbA.size)
        have hqv' : Hid (val 65536 qs = hor b ((digs s).take (k + 1))) := by
          show _ = _
          rw [hqv, hmv.out, htv.out, HT.out, hdv.out]
          simp [val]
        have hqk : qs.length ≤ k + 1 := nrm_len (B := 65536) (by decide) hq.1.words hqn (by rw [hqv'.out]; exact hst.out.2)
        replace hqv : Hid _ := hqv
        replace hqn : Hid _ := hqn
        clear ka
        go_wp2
        go_roundw
        case rel => exact ⟨k + 1, a4, cap4, qs, by omega, by go_num, rfl, hq.1, hqn, hqv', hst, hqk, hbB⟩
        case measure => simp [intOf]; omega
      · obtain rfl : k = j := by omega
        have hbyte : ((s[k]'hlk).toNat : Int) ≤ 255 := by have := (s[k]'hlk).toNat_lt; omega
        have hdk := hbad.out
        have hdg := digR_eq ((s[k]'hlk).toNat : Int)
        have hor2 : digR ((s[k]'hlk).toNat : Int) < 0 ∨ b ≤ digR ((s[k]'hlk).toNat : Int) := by
          rw [hdg]
          split
          · left; decide
          · right; exact hdk
        clear hbad hdk
        have kd := fun w' => Digit_any ((s[k]'hlk).toNat : Int) w' (by omega) hbyte
        generalize digR ((s[k]'hlk).toNat : Int) = d at *
        replace hdg : Hid _ := hdg
        replace kd : Hid _ := kd
        have k4 := keep_cell hbel c4
        have k5 := keep_cell hbel c5
        have g4 := keep_frozen hbel c4 f4
        have g5 := keep_frozen hbel c5 f5
        have hB := bthen hbW hbel
        by_cases h3 : d < 0
        · clear hor2
          go_wp2_with (go_at_call 65; refine Calls.mono (kd.out _) ?_; rintro e w' ⟨rfl, rfl⟩)
          exact bodyPost_ret (v := .tuple #[.agg #[.bool false, .slice none 0 0], .bool false]) (by simp [results, Try.results31, go_sem, k4, k5]) rfl ⟨rfl, (hB.setCell (by simp) _).setCell (by simp) _⟩
        · have h4 : b ≤ d := by omega
          clear hor2
          go_wp2_with (go_at_call 65; refine Calls.mono (kd.out _) ?_; rintro e w' ⟨rfl, rfl⟩)
          exact bodyPost_ret (v := .tuple #[.agg #[.bool false, .slice none 0 0], .bool false]) (by simp [results, Try.results31, go_sem, k4, k5]) rfl ⟨rfl, (hB.setCell (by simp) _).setCell (by simp) _⟩
set_option maxRecDepth 20000 in
set_option maxHeartbeats 1000000 in
theorem rParse_empty (s : ByteArray) (b : Int) (w : World) (hs0 : s.toList.isEmpty = true) :
    Calls Try.prog 31 #[.string s, .int .i64 b] w fun e w' => NoneR w w' e := by
  go_enter Try.func31, Try.ntmps31
  go_wp2
  exact bodyPost_ret (v := .tuple #[.agg #[.bool false, .slice none 0 0], .bool false]) (by simp [results, Try.results31, go_sem]) rfl ⟨rfl, (Below.refl _ _).alloc (Nat.le_refl _) _⟩
set_option maxRecDepth 20000 in
set_option maxHeartbeats 1000000 in
theorem rParse_base (s : ByteArray) (b : Int) (w : World) (hse : s.toList.isEmpty = false) (hb : ¬ (b = 2 ∨ b = 8 ∨ b = 10 ∨ b = 16)) :
    Calls Try.prog 31 #[.string s, .int .i64 b] w fun e w' => NoneR w w' e := by
  have b1 : (b != 2) = true := by simp; omega
  have b2 : (b != 8) = true := by simp; omega
  have b3 : (b != 10) = true := by simp; omega
  have b4 : (b != 16) = true := by simp; omega
  clear hb
  go_enter Try.func31, Try.ntmps31
  go_wp2
  exact bodyPost_ret (v := .tuple #[.agg #[.bool false, .slice none 0 0], .bool false]) (by simp [results, Try.results31, go_sem]) rfl ⟨rfl, (Below.refl _ _).alloc (Nat.le_refl _) _⟩
theorem rParse_no (s : ByteArray) (b : Int) (w : World) (hs1 : s.size ≤ 1000) (hg : ¬ goodT s b) :
    Calls Try.prog 31 #[.string s, .int .i64 b] w fun e w' => NoneR w w' e := by
  by_cases h0 : s.size = 0
  · exact rParse_empty s b w (isEmpty_of s h0)
  · by_cases hb : b = 2 ∨ b = 8 ∨ b = 10 ∨ b = 16
    · obtain ⟨j, h1, h2, h3⟩ := first_not (p := fun k => ∀ h : k < s.size, digitI ((s[k]'h).toNat : Int) < b) (n := s.size) (fun h => hg ⟨by omega, hb, fun k hk => h k hk hk⟩)
      refine rParse_digit s b j w hb hs1 h1 (fun k h hk => h3 k hk h) ?_
      by_cases hc : digitI ((s[j]'h1).toNat : Int) < b
      · exact absurd (fun _ => hc) h2
      · exact Int.not_lt.1 hc
    · exact rParse_base s b w (toList_nonempty s (by omega)) hb
end Go.Proofs.Ytdcjgepgiaaaoaa
